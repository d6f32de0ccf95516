/- The document's newest, Tick, fresh, gone and fall (package almanacref), walked. -/
import Derived.Test.YtkednbbjofeecaaGreatGa
import Derived.Deep.QuietTactic
import Derived.BigQuiet
import Derived.BigGuardPart
namespace Go.Proofs.YtkednbbjofeecaaGreat
open Go.RowKit

theorem rt_int {k : IntKind} {a b : Int} (h : a = b) : Ending.returned (.int k a) = .returned (.int k b) := by rw [h]
theorem rt_bool {a b : Bool} (h : a = b) : Ending.returned (.bool a) = .returned (.bool b) := by rw [h]

set_option maxHeartbeats 400000 in
theorem rnewest_c (w : World) (b : Nat) (ao : Option Addr) (n cap : Nat) (c0 : w.cell? ⟨b, 0, none⟩ = some (.slice ao n cap)) (hp : 0 < n) (hm : n ≤ 701) :
    Calls Tryz.prog 74 #[.pointer (some ⟨b, 0, none⟩)] w fun e w' => e = .returned (.int .u64 ((n - 1 : Nat) : Int)) ∧ w = w' := by
  go_enter Tryz.func74, Tryz.ntmps74
  go_wp2
  go_ret
  exact ⟨rt_int (by omega), rfl⟩

set_option maxHeartbeats 400000 in
theorem rnewest (w : World) (b : Nat) (R : RefS) (h : Ref w b R) (hf : R.Fit) :
    Calls Tryz.prog 74 #[.pointer (some ⟨b, 0, none⟩)] w fun e w' => e = .returned (.int .u64 ((R.past.length - 1 : Nat) : Int)) ∧ w = w' := by
  obtain ⟨ao, cap, hv, _⟩ := h.past.form
  have c0 := h.c0
  rw [hv] at c0
  have hp := hf.pos
  have hm := hf.pmax
  clear h hf hv
  go_enter Tryz.func74, Tryz.ntmps74
  go_wp2
  go_ret
  exact ⟨rt_int (by omega), rfl⟩

theorem Ref.tick {w : World} {b : Nat} {R : RefS} (h : Ref w b R) (c : Int) : Ref (w.setCell ⟨b, 1, none⟩ (.int .i64 c)) b { R with clock := c } :=
  ⟨h.blk.set 1 _, h.all.kept (Kept.setCell w ⟨b, 1, none⟩ (.int .i64 c)) (by rintro j ⟨r, hr, hj⟩ he; subst he; exact h.ne r hr hj)⟩

set_option maxHeartbeats 400000 in
theorem rtick (w : World) (b : Nat) (R : RefS) (h : Ref w b R) (hf : R.Fit) :
    Calls Tryz.prog 32 #[.pointer (some ⟨b, 0, none⟩)] w fun e w' =>
      (R.clock = 100000 ∧ e = .returned (.int .i64 6) ∧ w = w') ∨ (R.clock < 100000 ∧ e = .returned (.int .i64 0) ∧ Ref w' b { R with clock := R.clock + 1 } ∧ Kept (R.fp b) w w') := by
  have c1 := h.c1
  have f1 := h.blk.free 1
  have hm0 := hf.clk0
  have hm1 := hf.clk1
  by_cases hc : R.clock = 100000
  · have hc' : (R.clock == 100000) = true := beq_iff_eq.mpr hc
    have HC : Hid (R.clock = 100000) := hc
    clear hc h hf
    go_enter Tryz.func32, Tryz.ntmps32
    go_wp2
    go_ret
    exact .inl ⟨HC.out, rfl, rfl⟩
  · have hc' : (R.clock == 100000) = false := beq_eq_false_iff_ne.mpr hc
    have HR : Hid (Ref w b R) := h
    clear h hf
    go_enter Tryz.func32, Tryz.ntmps32
    go_wp2
    go_ret
    exact .inr ⟨by omega, rfl, HR.out.tick _, (Kept.setCell _ _ _).mono fun k hk => .inl hk⟩

/-- was the state of a stamp newest at some tick from one on? -/
def freshB (l : List PastE) (t : Nat) (tick : Int) : Bool := decide (t = l.length - 1) || decide (tick ≤ (l[t + 1]?.map PastE.tick).getD 0)

set_option maxHeartbeats 1000000 in
theorem rfresh (w : World) (b : Nat) (R : RefS) (t : Nat) (tick : Int) (h : Ref w b R) (hf : R.Fit) (ht : t < R.past.length) :
    Calls Tryz.prog 81 #[.pointer (some ⟨b, 0, none⟩), .int .u64 t, .int .i64 tick] w fun e w' => e = .returned (.bool (freshB R.past t tick)) ∧ w = w' := by
  have hp := hf.pos
  have hm := hf.pmax
  obtain ⟨g, cap, hv, ho, _⟩ := h.past.block hp
  have c0 := h.c0
  rw [hv] at c0
  have hn := fun W (hW : Ref W b R) => rnewest W b R hW hf
  have HN : Hid (∀ W, Ref W b R → Calls Tryz.prog 74 #[.pointer (some ⟨b, 0, none⟩)] W fun e w' => e = .returned (.int .u64 ((R.past.length - 1 : Nat) : Int)) ∧ W = w') := hn
  have HR : Hid (Ref w b R) := h
  by_cases hc : t = R.past.length - 1
  · have hb : (((t : Int)) == ((R.past.length - 1 : Nat) : Int)) = true := beq_iff_eq.mpr (by omega)
    have HF : Hid (freshB R.past t tick = true) := by simp [Hid, freshB, hc]
    clear hc h hf hv hn ho
    go_enter Tryz.func81, Tryz.ntmps81
    go_wp2_with (go_at_call 74; refine (HN.out _ HR.out).mono ?_; rintro e w' ⟨rfl, rfl⟩)
    go_ret
    exact ⟨rt_bool (by rw [HF.out]), rfl⟩
  · have hb : (((t : Int)) == ((R.past.length - 1 : Nat) : Int)) = false := beq_eq_false_iff_ne.mpr (by omega)
    have hlt : t + 1 < R.past.length := by omega
    have hcell := h.past.cell ho ((t + 1) * 10 + 9) _ (by rw [past_at R.past (t + 1) hlt 9 (by omega)]; rfl)
    obtain ⟨tk, htk⟩ : ∃ tk, tk = R.past[t + 1].tick := ⟨_, rfl⟩
    rw [← htk] at hcell
    have HF : Hid (freshB R.past t tick = decide (tick ≤ tk)) := by simp [Hid, freshB, hc, List.getElem?_eq_getElem hlt, htk]
    clear hc h hf hv hn ho htk
    go_enter Tryz.func81, Tryz.ntmps81
    go_wp2_with (go_at_call 74; refine (HN.out _ HR.out).mono ?_; rintro e w' ⟨rfl, rfl⟩)
    go_ret
    exact ⟨rt_bool (by rw [HF.out]), rfl⟩

end Go.Proofs.YtkednbbjofeecaaGreat
