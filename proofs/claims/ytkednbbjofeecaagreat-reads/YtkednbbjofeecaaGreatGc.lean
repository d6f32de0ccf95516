/- The document's gone and End (package almanacref), walked. -/
import Derived.Test.YtkednbbjofeecaaGreatGb
namespace Go.Proofs.YtkednbbjofeecaaGreat
open Go.RowKit

/-- is there no such reader, or has it ended? -/
def goneB (l : List RdrE) (r : Int) : Bool := decide (r < 0) || decide ((l.length : Int) ≤ r) || (l[r.toNat]?.map RdrE.ended).getD false

set_option maxHeartbeats 1000000 in
theorem rgone (w : World) (b : Nat) (R : RefS) (r : Int) (h : Ref w b R) (hf : R.Fit) :
    Calls Tryz.prog 83 #[.pointer (some ⟨b, 0, none⟩), .int .i64 r] w fun e w' => e = .returned (.bool (goneB R.rdrs r)) ∧ w = w' := by
  have hm := hf.rmax
  obtain ⟨ao, cap, hv, _⟩ := h.rdrs.form
  have c2 := h.c2
  rw [hv] at c2
  by_cases h0 : r < 0
  · have hd : decide (r < 0) = true := by simpa using h0
    have HF : Hid (goneB R.rdrs r = true) := by simp [Hid, goneB, h0]
    clear h hf hv
    go_enter Tryz.func83, Tryz.ntmps83
    go_wp2
    go_ret
    exact ⟨rt_bool (by rw [HF.out]), rfl⟩
  · have hd : decide (r < 0) = false := by simpa using h0
    by_cases h1 : (R.rdrs.length : Int) ≤ r
    · have hd1 : decide ((R.rdrs.length : Int) ≤ r) = true := by simpa using h1
      have HF : Hid (goneB R.rdrs r = true) := by simp [Hid, goneB, h1]
      clear h hf hv
      go_enter Tryz.func83, Tryz.ntmps83
      go_wp2
      go_ret
      exact ⟨rt_bool (by rw [HF.out]), rfl⟩
    · have hd1 : decide ((R.rdrs.length : Int) ≤ r) = false := by simpa using h1
      obtain ⟨j, rfl⟩ : ∃ j : Nat, r = j := ⟨r.toNat, by omega⟩
      have hlt : j < R.rdrs.length := by omega
      obtain ⟨g, cap', hv', ho, _⟩ := h.rdrs.block (by omega)
      rw [hv] at hv'
      injection hv' with e1 _ e2
      subst e1
      have hcell := h.rdrs.cell ho (j * 3 + 2) _ (by rw [rdr_at R.rdrs j hlt 2 (by omega)]; rfl)
      obtain ⟨en, hen⟩ : ∃ en, en = R.rdrs[j].ended := ⟨_, rfl⟩
      rw [← hen] at hcell
      have HF : Hid (goneB R.rdrs j = en) := by
        have a : ¬ (j : Int) < 0 := by omega
        have c : ¬ (R.rdrs.length : Int) ≤ (j : Int) := by omega
        show goneB R.rdrs j = en
        simp only [goneB, a, c, decide_false, Bool.false_or, Int.toNat_natCast, List.getElem?_eq_getElem hlt, hen]; rfl
      clear h hf hv ho hen
      go_enter Tryz.func83, Tryz.ntmps83
      go_wp2
      go_ret
      exact ⟨rt_bool (by rw [HF.out]), rfl⟩

/-- a reader ends. -/
def RefS.endR (R : RefS) (j : Nat) (x : RdrE) : RefS := { R with rdrs := R.rdrs.set j { x with ended := true } }

theorem Ref.endR {w : World} {b : Nat} {R : RefS} (h : Ref w b R) (j g : Nat) (x : RdrE) (hx : R.rdrs[j]? = some x) (ho : R.vr.ownBlock = some g) : Ref (w.setCell ⟨g, j * 3 + 2, none⟩ (.bool true)) b (R.endR j x) := by
  have k := Kept.setCell w ⟨g, j * 3 + 2, none⟩ (.bool true)
  obtain ⟨hj, hx'⟩ := List.getElem?_eq_some_iff.mp hx
  have e : (R.rdrs.flatMap rdrC).set (j * 3 + 2) (.bool true) = (R.rdrs.set j { x with ended := true }).flatMap rdrC :=
    flat_set rdrC 3 (fun _ => rfl) R.rdrs j hj 2 (by omega) (.bool true) { x with ended := true } (by rw [hx']; rfl)
  refine h.turn 1 ⟨148, 3, R.vr, R.rdrs.length, R.rdrs.flatMap rdrC⟩ ⟨148, 3, R.vr, (R.rdrs.set j { x with ended := true }).length, (R.rdrs.set j { x with ended := true }).flatMap rdrC⟩ rfl (k.mono fun i hi => by show R.vr.ownBlock = some i; rw [ho, hi]) ?_ rfl rfl rfl
  show Row _ _ 3 R.vr (R.rdrs.set j _).length ((R.rdrs.set j _).flatMap rdrC)
  rw [List.length_set, ← e]
  exact h.rdrs.set ho _ _

set_option maxHeartbeats 1000000 in
theorem rend (w : World) (b : Nat) (R : RefS) (r : Int) (h : Ref w b R) (hf : R.Fit) :
    Calls Tryz.prog 37 #[.pointer (some ⟨b, 0, none⟩), .int .i64 r] w fun e w' =>
      (goneB R.rdrs r = true ∧ e = .returned (.tuple #[.agg #[.int .u64 0, .int .u64 0], .int .i64 8]) ∧ Below w.heap.size w w') ∨
      (∃ (j : Nat) (x : RdrE), r = j ∧ R.rdrs[j]? = some x ∧ x.ended = false ∧ e = .returned (.tuple #[.agg #[.int .u64 (x.lo : Int), .int .u64 (x.hi : Int)], .int .i64 0]) ∧ Ref w' b (R.endR j x) ∧ Kept (R.fp b) w w') := by
  have HG : Hid (∀ W, Ref W b R → Calls Tryz.prog 83 #[.pointer (some ⟨b, 0, none⟩), .int .i64 r] W fun e w' => e = .returned (.bool (goneB R.rdrs r)) ∧ W = w') := fun W hW => rgone W b R r hW hf
  have hlt0 := h.lt
  have hb := h.blk.lt
  have hR1 : Ref (w.alloc (.cells #[.int .u64 0, .int .u64 0] 88)) b R := h.kept (Kept.alloc w _ (fun _ => False)) (fun _ _ => id)
  have HR1 : Hid (Ref (w.alloc (.cells #[.int .u64 0, .int .u64 0] 88)) b R) := hR1
  cases hg : goneB R.rdrs r with
  | true =>
    rw [hg] at HG
    clear h hR1 hf hlt0
    go_enter Tryz.func37, Tryz.ntmps37
    go_wp2_with (go_at_call 83; refine (HG.out _ HR1.out).mono ?_; rintro e w' ⟨rfl, rfl⟩)
    refine bodyPost_ret (v := .tuple #[.agg #[.int .u64 0, .int .u64 0], .int .i64 8]) (by simp [results, Tryz.results37, go_sem]) rfl (.inl ⟨by trivial, rfl, ?_⟩)
    exact ((((Below.refl _ _).alloc (Nat.le_refl _) _)))
  | false =>
    rw [hg] at HG
    have hz : ¬ r < 0 := by intro hh; simp [goneB, hh] at hg
    have hz1 : ¬ (R.rdrs.length : Int) ≤ r := by intro hh; simp [goneB, hh] at hg
    obtain ⟨j, rfl⟩ : ∃ j : Nat, r = j := ⟨r.toNat, by omega⟩
    have hlt : j < R.rdrs.length := by omega
    have hm := hf.rmax
    have hen : R.rdrs[j].ended = false := by
      simp only [goneB, hz, hz1, decide_false, Bool.false_or, Int.toNat_natCast, List.getElem?_eq_getElem hlt] at hg; exact hg
    obtain ⟨g, cap, hv, ho, hgl⟩ := h.rdrs.block (by omega)
    have c2 := h.c2
    rw [hv] at c2
    have q0 := h.rdrs.cell ho (j * 3) _ (by have := rdr_at R.rdrs j hlt 0 (by omega); rw [Nat.add_zero] at this; rw [this]; rfl)
    have q1 := h.rdrs.cell ho (j * 3 + 1) _ (by rw [rdr_at R.rdrs j hlt 1 (by omega)]; rfl)
    have q2 := h.rdrs.cell ho (j * 3 + 2) _ (by rw [rdr_at R.rdrs j hlt 2 (by omega)]; rfl)
    have f2 := h.rdrs.free ho (j * 3 + 2)
    have hnb : g ≠ b := fun e => h.rdrs.ne_block h.blk (by decide) (by rw [ho, e])
    obtain ⟨x, hx⟩ : ∃ x, x = R.rdrs[j] := ⟨_, rfl⟩
    rw [← hx] at q0 q1 q2
    have HX : Hid (R.rdrs[j]? = some x ∧ x.ended = false) := ⟨by rw [hx]; exact List.getElem?_eq_getElem hlt, by rw [hx]; exact hen⟩
    have hE := h.endR j g x HX.out.1 ho
    have HE : Hid (∀ c, Ref ((w.setCell ⟨g, j * 3 + 2, none⟩ (.bool true)).alloc c) b (R.endR j x)) := fun c => hE.kept (Kept.alloc _ _ (fun _ => False)) (fun _ _ => id)
    clear hE
    have HO : Hid (R.vr.ownBlock = some g) := ho
    clear h hR1 hf hlt0 hv ho hx hen hg
    go_enter Tryz.func37, Tryz.ntmps37
    go_wp2_with (go_at_call 83; refine (HG.out _ HR1.out).mono ?_; rintro e w' ⟨rfl, rfl⟩)
    refine bodyPost_ret (v := .tuple #[.agg #[.int .u64 (x.lo : Int), .int .u64 (x.hi : Int)], .int .i64 0]) (by simp [results, Tryz.results37, go_sem]) rfl (.inr ⟨j, x, rfl, HX.out.1, HX.out.2, rfl, HE.out _, ?_⟩)
    exact ((Kept.setCell w _ _).mono fun k hk => fp_vr (by rw [HO.out, hk])).trans (Kept.alloc _ _ (fun _ => False)) (fun _ => id) (fun _ _ => False.elim)

end Go.Proofs.YtkednbbjofeecaaGreat
