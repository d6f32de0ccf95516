/- The law's pick (package almanaclaw), walked. -/
import Derived.Test.YtkednbbjofeecaaGreatGb
namespace Go.Proofs.YtkednbbjofeecaaGreat
open Go.RowKit

/-- which of n a number picks. -/
def pickN (c : Int) (n : Nat) : Nat := (if c < 0 then (-(c + 1)).toNat else c.toNat) % n
theorem pickN_lt (c : Int) {n : Nat} (h : 0 < n) : pickN c n < n := Nat.mod_lt _ h

set_option maxHeartbeats 1000000 in
theorem rpick (w : World) (c : Int) (n : Nat) (h0 : -9223372036854775808 ≤ c) (h1 : c ≤ 9223372036854775807) (hn : 0 < n) (hm : n ≤ 4611686018427387904) :
    Calls Tryz.prog 13 #[.int .i64 c, .int .i64 n] w fun e w' => e = .returned (.int .i64 (pickN c n : Int)) ∧ w = w' := by
  have hnz : ((n : Int) == 0) = false := beq_eq_false_iff_ne.mpr (by omega)
  have hn1 : ((n : Int) == -1) = false := beq_eq_false_iff_ne.mpr (by omega)
  by_cases hc : c < 0
  · obtain ⟨m, hm'⟩ : ∃ m : Nat, -(c + 1) = (m : Int) := ⟨(-(c + 1)).toNat, by omega⟩
    obtain rfl : c = -(m : Int) - 1 := by omega
    have HP : Hid (((m % n : Nat) : Int) = (pickN (-(m : Int) - 1) n : Int)) := by
      show _ = _
      have : (-(-(m : Int) - 1 + 1)).toNat = m := by omega
      rw [pickN, if_pos hc, this]
    have hmn := Nat.mod_lt m hn
    have hmm : m % n ≤ m := Nat.mod_le _ _
    clear hm'
    go_enter Tryz.func13, Tryz.ntmps13
    go_wp2
    go_ret
    refine ⟨rt_int ?_, rfl⟩
    rw [← HP.out]
    simp
  · obtain ⟨m, rfl⟩ : ∃ m : Nat, c = (m : Int) := ⟨c.toNat, by omega⟩
    have HP : Hid (((m % n : Nat) : Int) = (pickN (m : Int) n : Int)) := by
      show _ = _
      rw [pickN, if_neg hc, Int.toNat_natCast]
    have hmn := Nat.mod_lt m hn
    have hmm : m % n ≤ m := Nat.mod_le _ _
    go_enter Tryz.func13, Tryz.ntmps13
    go_wp2
    go_ret
    refine ⟨rt_int ?_, rfl⟩
    rw [← HP.out]
    simp

end Go.Proofs.YtkednbbjofeecaaGreat
