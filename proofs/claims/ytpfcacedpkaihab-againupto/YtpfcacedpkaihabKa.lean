/- The keeping laws' own functions (package almanackeep): pick, newest, which, gone, walked. -/
import Derived.Test.YtpfcacedpkaihabKp
namespace Go.Proofs.Ytpfcacedpkaihab
open Go.RowKit

/-- which of n a number picks. -/
def pickK (c : Int) (n : Nat) : Nat := (if c < 0 then (-(c + 1)).toNat else c.toNat) % n
theorem pickK_lt (c : Int) {n : Nat} (h : 0 < n) : pickK c n < n := Nat.mod_lt _ h

set_option maxHeartbeats 1000000 in
theorem kpick (w : World) (c : Int) (n : Nat) (h0 : -9223372036854775808 ≤ c) (h1 : c ≤ 9223372036854775807) (hn : 0 < n) (hm : n ≤ 4611686018427387904) :
    Calls Try.prog 18 #[.int .i64 c, .int .i64 n] w fun e w' => e = .returned (.int .i64 (pickK c n : Int)) ∧ w = w' := by
  have hnz : ((n : Int) == 0) = false := beq_eq_false_iff_ne.mpr (by omega)
  have hn1 : ((n : Int) == -1) = false := beq_eq_false_iff_ne.mpr (by omega)
  by_cases hc : c < 0
  · obtain ⟨m, hm'⟩ : ∃ m : Nat, -(c + 1) = (m : Int) := ⟨(-(c + 1)).toNat, by omega⟩
    obtain rfl : c = -(m : Int) - 1 := by omega
    have HP : Hid (((m % n : Nat) : Int) = (pickK (-(m : Int) - 1) n : Int)) := by
      show _ = _
      have : (-(-(m : Int) - 1 + 1)).toNat = m := by omega
      rw [pickK, if_pos hc, this]
    have hmn := Nat.mod_lt m hn
    have hmm : m % n ≤ m := Nat.mod_le _ _
    clear hm'
    go_enter Try.func18, Try.ntmps18
    go_wp2
    go_ret
    refine ⟨rt_int ?_, rfl⟩
    rw [← HP.out]
    simp
  · obtain ⟨m, rfl⟩ : ∃ m : Nat, c = (m : Int) := ⟨c.toNat, by omega⟩
    have HP : Hid (((m % n : Nat) : Int) = (pickK (m : Int) n : Int)) := by
      show _ = _
      rw [pickK, if_neg hc, Int.toNat_natCast]
    have hmn := Nat.mod_lt m hn
    have hmm : m % n ≤ m := Nat.mod_le _ _
    go_enter Try.func18, Try.ntmps18
    go_wp2
    go_ret
    refine ⟨rt_int ?_, rfl⟩
    rw [← HP.out]
    simp

theorem kpickI (w : World) (c m : Int) (n : Nat) (hmn : m = (n : Int)) (h0 : -9223372036854775808 ≤ c) (h1 : c ≤ 9223372036854775807) (hn : 0 < n) (hm : n ≤ 4611686018427387904) :
    Calls Try.prog 18 #[.int .i64 c, .int .i64 m] w fun e w' => e = .returned (.int .i64 (pickK c n : Int)) ∧ w = w' := by
  subst hmn
  exact kpick w c n h0 h1 hn hm

set_option maxHeartbeats 400000 in
theorem knewest_c (w : World) (pb : Nat) (ao : Option Addr) (n cap : Nat) (c3 : w.cell? ⟨pb, 3, none⟩ = some (.slice ao (n + 1) cap)) (hm : n ≤ 1000) :
    Calls Try.prog 17 #[.pointer (some ⟨pb, 0, none⟩)] w fun e w' => e = .returned (.int .i64 (n : Int)) ∧ w = w' := by
  go_enter Try.func17, Try.ntmps17
  go_wp2
  go_ret
  exact ⟨rt_int (by omega), rfl⟩

theorem tdiv_bd {z : Int} (h1 : -9223372036854775808 ≤ z) (h2 : z ≤ 9223372036854775807) : -9223372036854775808 ≤ z.tdiv 5 ∧ z.tdiv 5 ≤ 9223372036854775807 := by
  have h : (z.tdiv 5).natAbs = z.natAbs.div 5 := Int.natAbs_tdiv z 5
  have h3 : z.natAbs.div 5 = z.natAbs / 5 := rfl
  rw [h3] at h
  omega

/-- the reader that a step means. -/
def whichK (n : Nat) (raw : Int) : Int := if 0 < n ∧ 0 < pickK raw 5 then (pickK (raw.tdiv 5) n : Int) else raw
theorem whichK_bd {n : Nat} {raw : Int} (hn : n ≤ 1000) (h1 : -9223372036854775808 ≤ raw) (h2 : raw ≤ 9223372036854775807) : -9223372036854775808 ≤ whichK n raw ∧ whichK n raw ≤ 9223372036854775807 := by
  unfold whichK
  split
  · rename_i h
    have := pickK_lt (raw.tdiv 5) h.1
    omega
  · exact ⟨h1, h2⟩

set_option maxHeartbeats 1000000 in
theorem kwhich (w : World) (pb : Nat) (ao : Option Addr) (n cap : Nat) (raw : Int) (c6 : w.cell? ⟨pb, 6, none⟩ = some (.slice ao n cap)) (hm : n ≤ 1000) (h1 : -9223372036854775808 ≤ raw) (h2 : raw ≤ 9223372036854775807) :
    Calls Try.prog 20 #[.pointer (some ⟨pb, 0, none⟩), .int .i64 raw] w fun e w' => e = .returned (.int .i64 (whichK n raw)) ∧ w = w' := by
  have hb := tdiv_bd h1 h2
  have HE : Hid (whichK n raw = if 0 < n ∧ 0 < pickK raw 5 then (pickK (raw.tdiv 5) n : Int) else raw) := rfl
  have HP5 : Hid (∀ W, Calls Try.prog 18 #[.int .i64 raw, .int .i64 5] W fun e w' => e = .returned (.int .i64 (pickK raw 5 : Int)) ∧ W = w') := fun W => kpickI W raw 5 5 rfl h1 h2 (by omega) (by omega)
  by_cases h0 : 0 < n
  · have HPN : Hid (∀ W, Calls Try.prog 18 #[.int .i64 (raw.tdiv 5), .int .i64 (n : Int)] W fun e w' => e = .returned (.int .i64 (pickK (raw.tdiv 5) n : Int)) ∧ W = w') := fun W => kpick W (raw.tdiv 5) n hb.1 hb.2 h0 (by omega)
    generalize pickK raw 5 = p5 at *
    generalize pickK (raw.tdiv 5) n = pn at *
    by_cases h5 : 0 < p5
    · have HZ : Hid (whichK n raw = (pn : Int)) := by show _ = _; rw [HE.out, if_pos ⟨h0, h5⟩]
      go_enter Try.func20, Try.ntmps20
      go_wp2_with first
        | (go_at_call 18; refine (HP5.out _).mono ?_; rintro e w1 ⟨rfl, rfl⟩; clear HP5)
        | (go_at_call 18; refine (HPN.out _).mono ?_; rintro e w1 ⟨rfl, rfl⟩)
      go_ret
      exact ⟨rt_int (by rw [HZ.out]), rfl⟩
    · have HZ : Hid (whichK n raw = raw) := by show _ = _; rw [HE.out, if_neg (fun h => h5 h.2)]
      have h5' : p5 = 0 := by omega
      subst h5'
      go_enter Try.func20, Try.ntmps20
      go_wp2_with (go_at_call 18; refine (HP5.out _).mono ?_; rintro e w1 ⟨rfl, rfl⟩)
      go_ret
      exact ⟨rt_int (by rw [HZ.out]), rfl⟩
  · have HZ : Hid (whichK n raw = raw) := by show _ = _; rw [HE.out, if_neg (fun h => h0 h.1)]
    obtain rfl : n = 0 := by omega
    go_enter Try.func20, Try.ntmps20
    go_wp2
    go_ret
    exact ⟨rt_int (by rw [HZ.out]), rfl⟩

/-- is there no such reader, or has it ended? -/
def goneK (l : List KrE) (r : Int) : Bool := decide (r < 0) || decide ((l.length : Int) ≤ r) || (l[r.toNat]?.map KrE.ended).getD false
set_option maxHeartbeats 1000000 in
theorem kgone (w : World) (pb : Nat) (K : KS) (r : Int) (h : Keep w pb K) (hm : K.rds.length ≤ 1000) :
    Calls Try.prog 21 #[.pointer (some ⟨pb, 0, none⟩), .int .i64 r] w fun e w' => e = .returned (.bool (goneK K.rds r)) ∧ w = w' := by
  obtain ⟨ao, cap, hv, _⟩ := h.rds.form
  have c6 := h.c6
  rw [hv] at c6
  by_cases h0 : r < 0
  · have hd : decide (r < 0) = true := by simpa using h0
    have HE : Hid (goneK K.rds r = true) := by show _ = _; simp [goneK, h0]
    clear h hv
    go_enter Try.func21, Try.ntmps21
    go_wp2
    go_ret
    exact ⟨rt_bool HE.out.symm, rfl⟩
  · have hd : decide (r < 0) = false := by simpa using h0
    by_cases h1 : (K.rds.length : Int) ≤ r
    · have HE : Hid (goneK K.rds r = true) := by show _ = _; simp [goneK, h1]
      clear h hv
      go_enter Try.func21, Try.ntmps21
      go_wp2
      go_ret
      exact ⟨rt_bool HE.out.symm, rfl⟩
    · obtain ⟨j, rfl⟩ : ∃ j : Nat, r = j := ⟨r.toNat, by omega⟩
      have hj : j < K.rds.length := by omega
      obtain ⟨g, cap', hv', ho, _⟩ := h.rds.block (by omega)
      rw [hv] at hv'
      injection hv' with e1 e2 e3
      subst e1
      have hc : w.cell? ⟨g, j * 4 + 3, none⟩ = some (.bool K.rds[j].ended) := h.rds.cell ho _ _ (by rw [kr_at K.rds j hj 3 (by omega)]; rfl)
      have HE : Hid (goneK K.rds (j : Int) = K.rds[j].ended) := by show _ = _; unfold goneK; rw [decide_eq_false (by omega), decide_eq_false (by omega), Int.toNat_natCast, List.getElem?_eq_getElem hj]; rfl
      generalize K.rds[j].ended = ed at *
      have hd2 : ¬ K.rds.length ≤ j := by omega
      have hj0 : (0 : Int) ≤ (j : Int) := by omega
      have hj1 : (j : Int) < (K.rds.length : Int) := by omega
      clear h hv ho
      go_enter Try.func21, Try.ntmps21
      go_wp2
      go_ret
      exact ⟨rt_bool HE.out.symm, rfl⟩

end Go.Proofs.Ytpfcacedpkaihab
