/- The law's own whole and numbers (package almanaclaw) over a book without lists, walked. -/
import Derived.Test.YtkednbbjofeecaaGreatHp
namespace Go.Proofs.YtkednbbjofeecaaGreat
open Go.RowKit

set_option maxHeartbeats 1000000 in
theorem numbers_empty (w : World) (pb o : Nat) (hc : w.cell? ⟨pb, o + 2, none⟩ = some (.slice none 0 0)) :
    Calls Tryz.prog 22 #[.pointer (some ⟨pb, o, none⟩)] w fun e w' => e = .returned (.bool true) ∧ w = w' := by
  go_enter Tryz.func22, Tryz.ntmps22
  go_wp2
  refine wp_loop_rounds 1 ?_
  rw [rounds_succ]
  go_wp2
  go_loop [5, 6, 7] (fun d _ _ => ∃ k : Int, -1 ≤ k ∧ k ≤ 3 ∧ d = .int .i64 k) (fun d _ _ => (intOf d + 1).toNat)
  case atStart => exact ⟨3, by omega, by omega, rfl⟩
  case round =>
    obtain ⟨k, hk0, hk1, rfl⟩ := hrel
    by_cases hlt : 0 ≤ k
    · go_wp2
      refine wp_loop_rounds 1 ?_
      rw [rounds_succ]
      go_wp2
      refine wp_loop_rounds 1 ?_
      rw [rounds_succ]
      go_wp2
      go_round
      case rel => exact ⟨k - 1, by omega, by omega, rfl⟩
      case measure => simp [intOf]; omega
    · go_wp2
      go_ret
      exact ⟨rfl, rfl⟩

set_option maxHeartbeats 1000000 in
theorem whole_empty (w : World) (pb o : Nat) (h0 : w.cell? ⟨pb, o, none⟩ = some (.slice none 0 0)) (h1 : w.cell? ⟨pb, o + 1, none⟩ = some (.slice none 0 0)) (h2 : w.cell? ⟨pb, o + 2, none⟩ = some (.slice none 0 0)) :
    Calls Tryz.prog 10 #[.pointer (some ⟨pb, o, none⟩)] w fun e w' => e = .returned (.bool true) ∧ w = w' := by
  have HN : Hid (Calls Tryz.prog 22 #[.pointer (some ⟨pb, o, none⟩)] w fun e w' => e = .returned (.bool true) ∧ w = w') := numbers_empty w pb o h2
  go_enter Tryz.func10, Tryz.ntmps10
  go_wp2
  refine wp_loop_rounds 1 ?_
  rw [rounds_succ]
  go_wp2
  refine wp_loop_rounds 1 ?_
  rw [rounds_succ]
  go_wp2_with (go_at_call 22; refine HN.out.mono ?_; rintro e w' ⟨rfl, rfl⟩)
  go_ret
  exact ⟨rfl, rfl⟩

end Go.Proofs.YtkednbbjofeecaaGreat
