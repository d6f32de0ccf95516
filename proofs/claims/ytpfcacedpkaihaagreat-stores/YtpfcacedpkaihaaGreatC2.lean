import Derived.Deep.QuietTactic
import Derived.BigQuiet
import Derived.BigGuardPart
import Derived.Test.YtpfcacedpkaihaaGreatC1
import Derived.Laws.AppendOwnNone
namespace Go.Proofs.YtpfcacedpkaihaaGreat
open Go.RowKit
set_option maxRecDepth 100000
set_option maxHeartbeats 16000000
theorem rnewest_c (w : World) (b : Nat) (ao : Option Addr) (n cap : Nat) (c0 : w.cell? ⟨b, 0, none⟩ = some (.slice ao n cap)) (hp : 0 < n) (hm : n ≤ 701) :
  Calls Tryz.prog 77 #[.pointer (some ⟨b, 0, none⟩)] w fun e w' => e = .returned (.int .u64 ((n - 1 : Nat) : Int)) ∧ w = w' := by
 go_enter Tryz.func77, Tryz.ntmps77
 go_wp2
 go_ret
 exact ⟨rt_int (by omega), rfl⟩
theorem rnewest (w : World) (b : Nat) (R : RefS) (h : Ref w b R) (hf : R.Fit) :
  Calls Tryz.prog 77 #[.pointer (some ⟨b, 0, none⟩)] w fun e w' => e = .returned (.int .u64 ((R.past.length - 1 : Nat) : Int)) ∧ w = w' := by
 obtain ⟨ao, cap, hv, _⟩ := h.past.form
 have c0 := h.c0
 rw [hv] at c0
 have hp := hf.pos
 have hm := hf.pmax
 clear h hf hv
 go_enter Tryz.func77, Tryz.ntmps77
 go_wp2
 go_ret
 exact ⟨rt_int (by omega), rfl⟩
theorem Ref.tick {w : World} {b : Nat} {R : RefS} (h : Ref w b R) (c : Int) : Ref (w.setCell ⟨b, 1, none⟩ (.int .i64 c)) b { R with clock := c } :=
 ⟨h.blk.set 1 _, h.all.kept (Kept.setCell w ⟨b, 1, none⟩ (.int .i64 c)) (by rintro j ⟨r, hr, hj⟩ he; subst he; exact h.ne r hr hj)⟩
theorem rtick (w : World) (b : Nat) (R : RefS) (h : Ref w b R) (hf : R.Fit) :
  Calls Tryz.prog 32 #[.pointer (some ⟨b, 0, none⟩)] w fun e w' =>
   (R.clock = 100000 ∧ e = .returned (.int .i64 6) ∧ w = w') ∨ (R.clock < 100000 ∧ e = .returned (.int .i64 0) ∧ Ref w' b { R with clock := R.clock + 1 } ∧ Kept (R.fp b) w w') := by
 have c1 := h.c1
 have f1 := h.blk.free 1
 have hm0 := hf.clk0
 have hm1 := hf.clk1
 by_cases hc : R.clock = 100000
 · have hc' : (R.clock == 100000) = true := beq_iff_eq.mpr hc
  have HC : Hid (R.clock = 100000) := hc
  clear hc h hf
  go_enter Tryz.func32, Tryz.ntmps32
  go_wp2
  go_ret
  exact .inl ⟨HC.out, rfl, rfl⟩
 · have hc' : (R.clock == 100000) = false := beq_eq_false_iff_ne.mpr hc
  have HR : Hid (Ref w b R) := h
  clear h hf
  go_enter Tryz.func32, Tryz.ntmps32
  go_wp2
  go_ret
  exact .inr ⟨by omega, rfl, HR.out.tick _, (Kept.setCell _ _ _).mono fun k hk => .inl hk⟩
def freshB (l : List PastE) (t : Nat) (tick : Int) : Bool := decide (t = l.length - 1) || decide (tick ≤ (l[t + 1]?.map PastE.tick).getD 0)
theorem rfresh (w : World) (b : Nat) (R : RefS) (t : Nat) (tick : Int) (h : Ref w b R) (hf : R.Fit) (ht : t < R.past.length) :
  Calls Tryz.prog 84 #[.pointer (some ⟨b, 0, none⟩), .int .u64 t, .int .i64 tick] w fun e w' => e = .returned (.bool (freshB R.past t tick)) ∧ w = w' := by
 have hp := hf.pos
 have hm := hf.pmax
 obtain ⟨g, cap, hv, ho, _⟩ := h.past.block hp
 have c0 := h.c0
 rw [hv] at c0
 have hn := fun W (hW : Ref W b R) => rnewest W b R hW hf
 have HN : Hid (∀ W, Ref W b R → Calls Tryz.prog 77 #[.pointer (some ⟨b, 0, none⟩)] W fun e w' => e = .returned (.int .u64 ((R.past.length - 1 : Nat) : Int)) ∧ W = w') := hn
 have HR : Hid (Ref w b R) := h
 by_cases hc : t = R.past.length - 1
 · have hb : (((t : Int)) == ((R.past.length - 1 : Nat) : Int)) = true := beq_iff_eq.mpr (by omega)
  have HF : Hid (freshB R.past t tick = true) := by simp [Hid, freshB, hc]
  clear hc h hf hv hn ho
  go_enter Tryz.func84, Tryz.ntmps84
  go_wp2_with (go_at_call 77; refine (HN.out _ HR.out).mono ?_; rintro e w' ⟨rfl, rfl⟩)
  go_ret
  exact ⟨rt_bool (by rw [HF.out]), rfl⟩
 · have hb : (((t : Int)) == ((R.past.length - 1 : Nat) : Int)) = false := beq_eq_false_iff_ne.mpr (by omega)
  have hlt : t + 1 < R.past.length := by omega
  have hcell := h.past.cell ho ((t + 1) * 10 + 9) _ (by rw [past_at R.past (t + 1) hlt 9 (by omega)]; rfl)
  obtain ⟨tk, htk⟩ : ∃ tk, tk = R.past[t + 1].tick := ⟨_, rfl⟩
  rw [← htk] at hcell
  have HF : Hid (freshB R.past t tick = decide (tick ≤ tk)) := by simp [Hid, freshB, hc, List.getElem?_eq_getElem hlt, htk]
  clear hc h hf hv hn ho htk
  go_enter Tryz.func84, Tryz.ntmps84
  go_wp2_with (go_at_call 77; refine (HN.out _ HR.out).mono ?_; rintro e w' ⟨rfl, rfl⟩)
  go_ret
  exact ⟨rt_bool (by rw [HF.out]), rfl⟩
def goneB (l : List RdrE) (r : Int) : Bool := decide (r < 0) || decide ((l.length : Int) ≤ r) || (l[r.toNat]?.map RdrE.ended).getD false
theorem rgone (w : World) (b : Nat) (R : RefS) (r : Int) (h : Ref w b R) (hf : R.Fit) :
  Calls Tryz.prog 86 #[.pointer (some ⟨b, 0, none⟩), .int .i64 r] w fun e w' => e = .returned (.bool (goneB R.rdrs r)) ∧ w = w' := by
 have hm := hf.rmax
 obtain ⟨ao, cap, hv, _⟩ := h.rdrs.form
 have c2 := h.c2
 rw [hv] at c2
 by_cases h0 : r < 0
 · have hd : decide (r < 0) = true := by simpa using h0
  have HF : Hid (goneB R.rdrs r = true) := by simp [Hid, goneB, h0]
  clear h hf hv
  go_enter Tryz.func86, Tryz.ntmps86
  go_wp2
  go_ret
  exact ⟨rt_bool (by rw [HF.out]), rfl⟩
 · have hd : decide (r < 0) = false := by simpa using h0
  by_cases h1 : (R.rdrs.length : Int) ≤ r
  · have hd1 : decide ((R.rdrs.length : Int) ≤ r) = true := by simpa using h1
   have HF : Hid (goneB R.rdrs r = true) := by simp [Hid, goneB, h1]
   clear h hf hv
   go_enter Tryz.func86, Tryz.ntmps86
   go_wp2
   go_ret
   exact ⟨rt_bool (by rw [HF.out]), rfl⟩
  · have hd1 : decide ((R.rdrs.length : Int) ≤ r) = false := by simpa using h1
   obtain ⟨j, rfl⟩ : ∃ j : Nat, r = j := ⟨r.toNat, by omega⟩
   have hlt : j < R.rdrs.length := by omega
   obtain ⟨g, cap', hv', ho, _⟩ := h.rdrs.block (by omega)
   rw [hv] at hv'
   injection hv' with e1 _ e2
   subst e1
   have hcell := h.rdrs.cell ho (j * 3 + 2) _ (by rw [rdr_at R.rdrs j hlt 2 (by omega)]; rfl)
   obtain ⟨en, hen⟩ : ∃ en, en = R.rdrs[j].ended := ⟨_, rfl⟩
   rw [← hen] at hcell
   have HF : Hid (goneB R.rdrs j = en) := by
    have a : ¬ (j : Int) < 0 := by omega
    have c : ¬ (R.rdrs.length : Int) ≤ (j : Int) := by omega
    show goneB R.rdrs j = en
    simp only [goneB, a, c, decide_false, Bool.false_or, Int.toNat_natCast, List.getElem?_eq_getElem hlt, hen]; rfl
   clear h hf hv ho hen
   go_enter Tryz.func86, Tryz.ntmps86
   go_wp2
   go_ret
   exact ⟨rt_bool (by rw [HF.out]), rfl⟩
def RefS.endR (R : RefS) (j : Nat) (x : RdrE) : RefS := { R with rdrs := R.rdrs.set j { x with ended := true } }
theorem Ref.endR {w : World} {b : Nat} {R : RefS} (h : Ref w b R) (j g : Nat) (x : RdrE) (hx : R.rdrs[j]? = some x) (ho : R.vr.ownBlock = some g) : Ref (w.setCell ⟨g, j * 3 + 2, none⟩ (.bool true)) b (R.endR j x) := by
 have k := Kept.setCell w ⟨g, j * 3 + 2, none⟩ (.bool true)
 obtain ⟨hj, hx'⟩ := List.getElem?_eq_some_iff.mp hx
 have e : (R.rdrs.flatMap rdrC).set (j * 3 + 2) (.bool true) = (R.rdrs.set j { x with ended := true }).flatMap rdrC :=
  flat_set rdrC 3 (fun _ => rfl) R.rdrs j hj 2 (by omega) (.bool true) { x with ended := true } (by rw [hx']; rfl)
 refine h.turn 1 ⟨162, 3, R.vr, R.rdrs.length, R.rdrs.flatMap rdrC⟩ ⟨162, 3, R.vr, (R.rdrs.set j { x with ended := true }).length, (R.rdrs.set j { x with ended := true }).flatMap rdrC⟩ rfl (k.mono fun i hi => by show R.vr.ownBlock = some i; rw [ho, hi]) ?_ rfl rfl rfl
 show Row _ _ 3 R.vr (R.rdrs.set j _).length ((R.rdrs.set j _).flatMap rdrC)
 rw [List.length_set, ← e]
 exact h.rdrs.set ho _ _
theorem rend (w : World) (b : Nat) (R : RefS) (r : Int) (h : Ref w b R) (hf : R.Fit) :
  Calls Tryz.prog 37 #[.pointer (some ⟨b, 0, none⟩), .int .i64 r] w fun e w' =>
   (goneB R.rdrs r = true ∧ e = .returned (.tuple #[.agg #[.int .u64 0, .int .u64 0], .int .i64 8]) ∧ Below w.heap.size w w') ∨
   (∃ (j : Nat) (x : RdrE), r = j ∧ R.rdrs[j]? = some x ∧ x.ended = false ∧ e = .returned (.tuple #[.agg #[.int .u64 (x.lo : Int), .int .u64 (x.hi : Int)], .int .i64 0]) ∧ Ref w' b (R.endR j x) ∧ Kept (R.fp b) w w') := by
 have HG : Hid (∀ W, Ref W b R → Calls Tryz.prog 86 #[.pointer (some ⟨b, 0, none⟩), .int .i64 r] W fun e w' => e = .returned (.bool (goneB R.rdrs r)) ∧ W = w') := fun W hW => rgone W b R r hW hf
 have hlt0 := h.lt
 have hb := h.blk.lt
 have hR1 : Ref (w.alloc (.cells #[.int .u64 0, .int .u64 0] 88)) b R := h.kept (Kept.alloc w _ (fun _ => False)) (fun _ _ => id)
 have HR1 : Hid (Ref (w.alloc (.cells #[.int .u64 0, .int .u64 0] 88)) b R) := hR1
 cases hg : goneB R.rdrs r with
 | true =>
  rw [hg] at HG
  clear h hR1 hf hlt0
  go_enter Tryz.func37, Tryz.ntmps37
  go_wp2_with (go_at_call 86; refine (HG.out _ HR1.out).mono ?_; rintro e w' ⟨rfl, rfl⟩)
  refine bodyPost_ret (v := .tuple #[.agg #[.int .u64 0, .int .u64 0], .int .i64 8]) (by simp [results, Tryz.results37, go_sem]) rfl (.inl ⟨by trivial, rfl, ?_⟩)
  exact ((((Below.refl _ _).alloc (Nat.le_refl _) _)))
 | false =>
  rw [hg] at HG
  have hz : ¬ r < 0 := by intro hh; simp [goneB, hh] at hg
  have hz1 : ¬ (R.rdrs.length : Int) ≤ r := by intro hh; simp [goneB, hh] at hg
  obtain ⟨j, rfl⟩ : ∃ j : Nat, r = j := ⟨r.toNat, by omega⟩
  have hlt : j < R.rdrs.length := by omega
  have hm := hf.rmax
  have hen : R.rdrs[j].ended = false := by
   simp only [goneB, hz, hz1, decide_false, Bool.false_or, Int.toNat_natCast, List.getElem?_eq_getElem hlt] at hg; exact hg
  obtain ⟨g, cap, hv, ho, hgl⟩ := h.rdrs.block (by omega)
  have c2 := h.c2
  rw [hv] at c2
  have q0 := h.rdrs.cell ho (j * 3) _ (by have := rdr_at R.rdrs j hlt 0 (by omega); rw [Nat.add_zero] at this; rw [this]; rfl)
  have q1 := h.rdrs.cell ho (j * 3 + 1) _ (by rw [rdr_at R.rdrs j hlt 1 (by omega)]; rfl)
  have q2 := h.rdrs.cell ho (j * 3 + 2) _ (by rw [rdr_at R.rdrs j hlt 2 (by omega)]; rfl)
  have f2 := h.rdrs.free ho (j * 3 + 2)
  have hnb : g ≠ b := fun e => h.rdrs.ne_block h.blk (by decide) (by rw [ho, e])
  obtain ⟨x, hx⟩ : ∃ x, x = R.rdrs[j] := ⟨_, rfl⟩
  rw [← hx] at q0 q1 q2
  have HX : Hid (R.rdrs[j]? = some x ∧ x.ended = false) := ⟨by rw [hx]; exact List.getElem?_eq_getElem hlt, by rw [hx]; exact hen⟩
  have hE := h.endR j g x HX.out.1 ho
  have HE : Hid (∀ c, Ref ((w.setCell ⟨g, j * 3 + 2, none⟩ (.bool true)).alloc c) b (R.endR j x)) := fun c => hE.kept (Kept.alloc _ _ (fun _ => False)) (fun _ _ => id)
  clear hE
  have HO : Hid (R.vr.ownBlock = some g) := ho
  clear h hR1 hf hlt0 hv ho hx hen hg
  go_enter Tryz.func37, Tryz.ntmps37
  go_wp2_with (go_at_call 86; refine (HG.out _ HR1.out).mono ?_; rintro e w' ⟨rfl, rfl⟩)
  refine bodyPost_ret (v := .tuple #[.agg #[.int .u64 (x.lo : Int), .int .u64 (x.hi : Int)], .int .i64 0]) (by simp [results, Tryz.results37, go_sem]) rfl (.inr ⟨j, x, rfl, HX.out.1, HX.out.2, rfl, HE.out _, ?_⟩)
  exact ((Kept.setCell w _ _).mono fun k hk => fp_vr (by rw [HO.out, hk])).trans (Kept.alloc _ _ (fun _ => False)) (fun _ => id) (fun _ _ => False.elim)
theorem openN_snoc (l : List RdrE) (j : Nat) (h : j < l.length) : openN (l.take (j + 1)) = openN (l.take j) + if l[j].ended then 0 else 1 := by
 rw [List.take_succ_eq_append_getElem h, openN, List.filter_append, List.length_append]
 cases hh : l[j].ended <;> simp [openN, hh]
theorem openN_le (l : List RdrE) (j : Nat) : openN (l.take j) ≤ l.length := by
 unfold openN
 exact Nat.le_trans (List.length_filter_le _ _) (by simp; omega)
theorem Tryz.infoReader : (Tryz.prog.info? 162).map (fun i => (i.zero, i.size, i.bytes)) = some (some (.agg #[.int .u64 0, .int .u64 0, .bool false]), 3, 24) := by kernel_rfl
def RefS.beginR (R : RefS) (lo : Nat) (v : Value) : RefS := { R with rdrs := R.rdrs ++ [⟨lo, R.past.length - 1, false⟩], vr := v }
theorem Ref.beginR {w w' : World} {b : Nat} {R : RefS} (h : Ref w b R) (lo : Nat) (v : Value) (hA : Appended w w' 162 3 R.vr v R.rdrs.length 1 (R.rdrs.flatMap rdrC) [.int .u64 (lo : Int), .int .u64 ((R.past.length - 1 : Nat) : Int), .bool false]) :
  Ref (w'.setCell ⟨b, 2, none⟩ v) b (R.beginR lo v) ∧ Kept (R.fp b) w (w'.setCell ⟨b, 2, none⟩ v) ∧ (∀ k, (R.beginR lo v).fp b k → R.fp b k ∨ w.heap.size ≤ k) := by
 refine h.put 1 2 ⟨162, 3, R.vr, R.rdrs.length, R.rdrs.flatMap rdrC⟩ ⟨162, 3, v, (R.rdrs ++ [(⟨lo, R.past.length - 1, false⟩ : RdrE)]).length, (R.rdrs ++ [(⟨lo, R.past.length - 1, false⟩ : RdrE)]).flatMap rdrC⟩ rfl hA.kept ?_ (fun x hx => hA.own.imp (fun e => by show R.vr.ownBlock = some x; rw [← e]; exact hx) (fun e => e x hx)) rfl (by dsimp only; decide) rfl
 show Row _ _ 3 v (R.rdrs ++ [_]).length ((R.rdrs ++ [_]).flatMap rdrC)
 rw [List.length_append, List.flatMap_append]
 exact hA.row
theorem rbegin_bad (w : World) (b : Nat) (limit : Int) (hl : limit < 0 ∨ 100000 < limit) :
  Calls Tryz.prog 35 #[.pointer (some ⟨b, 0, none⟩), .int .i64 limit] w fun e w' => e = .returned (.tuple #[.int .i64 0, .int .i64 10]) ∧ w = w' := by
 by_cases h0 : limit < 0
 · have hd : decide (limit < 0) = true := by simpa using h0
  go_enter Tryz.func35, Tryz.ntmps35
  go_wp2
  go_ret2
  exact ⟨rfl, rfl⟩
 · have hd : decide (limit < 0) = false := by simpa using h0
  have h1 : 100000 < limit := by omega
  go_enter Tryz.func35, Tryz.ntmps35
  go_wp2
  go_ret2
  exact ⟨rfl, rfl⟩
def Least (l : List PastE) (tick : Int) (t : Nat) : Prop := t < l.length ∧ freshB l t tick = true ∧ ∀ i, i < t → freshB l i tick = false
def cellN (w : World) (a : Addr) : Nat := match w.cell? a with
 | some (.int _ n) => n.toNat
 | _ => 0
theorem Ref.drewN {w : World} {b : Nat} {R : RefS} (h : Ref w b R) (n : Nat) : Ref (w.drewN n) b R := h.same fun _ _ => rfl
theorem fresh_last (l : List PastE) (tick : Int) (t : Nat) (h : l.length ≤ t + 1) (ht : t < l.length) : freshB l t tick = true := by
 have : t = l.length - 1 := by omega
 simp [freshB, this]
theorem oneCell_rdr (a b : Int) (c : Bool) : ∀ u ∈ [Value.int .u64 a, Value.int .u64 b, Value.bool c], u.oneCell' = true := by
 intro u hu; simp at hu; rcases hu with rfl | rfl | rfl <;> rfl
theorem cell_three_new (w : World) (a b c : Value) (t : TypeId) : ∀ j u, [a, b, c][j]? = some u → (w.alloc (.cells #[a, b, c] t)).cell? ((⟨w.heap.size, 0, none⟩ : Addr).add j) = some u := by
 intro j u hj
 match j, hj with
 | 0, hj => simp at hj; subst hj; simp [Addr.add]
 | 1, hj => simp at hj; subst hj; simp [Addr.add]
 | 2, hj => simp at hj; subst hj; simp [Addr.add]
 | j + 3, hj => simp at hj
theorem begin_in {W w' : World} {b : Nat} {R : RefS} {v v' : Value} {news : List Value} {n : Nat} {xs : List Value} (h : Ref W b R) (hv : R.vr = v) (hA : Appended W w' 162 3 v v' n 1 xs news) :
  w'.cell? ⟨b, 2, none⟩ = some v ∧ w'.frozen? ⟨b, 2, none⟩ = false := by
 have nb : ¬ v.ownBlock = some b := fun e => h.rdrs.ne_block h.blk (by decide) (by rw [hv, e])
 have blk1 := h.blk.kept hA.kept nb
 exact ⟨by rw [blk1.cell 2, ← hv]; rfl, blk1.free 2⟩
theorem span_next {wr w : World} {j : Nat} {n : Int} {T : TypeId} (h : Blk wr w.heap.size T #[.int .u64 (j : Int), .int .u64 n]) (k : Kept (fun _ => False) w wr) :
  Blk (wr.setCell ⟨w.heap.size, 0, none⟩ (.int .u64 ((j : Int) + 1))) w.heap.size T #[.int .u64 ((j + 1 : Nat) : Int), .int .u64 n] ∧ Kept (fun _ => False) w (wr.setCell ⟨w.heap.size, 0, none⟩ (.int .u64 ((j : Int) + 1))) ∧
  cellN (wr.setCell ⟨w.heap.size, 0, none⟩ (.int .u64 ((j : Int) + 1))) ⟨w.heap.size, 0, none⟩ = j + 1 := by
 have hb := h.set 0 (.int .u64 ((j : Int) + 1))
 have e : (#[.int .u64 (j : Int), .int .u64 n] : Array Value).setIfInBounds 0 (.int .u64 ((j : Int) + 1)) = #[.int .u64 ((j + 1 : Nat) : Int), .int .u64 n] := by simp
 rw [e] at hb
 refine ⟨hb, k.trans (Kept.setCell _ _ _) (fun _ => id) (fun i hi he => by simp at he; omega), ?_⟩
 have hc := hb.cell 0
 simp at hc
 simp [cellN, hc]
def BeginPost (w : World) (b : Nat) (R : RefS) (limit : Int) (e : Ending) (w' : World) : Prop :=
   (6 ≤ openN R.rdrs ∧ e = .returned (.tuple #[.int .i64 0, .int .i64 7]) ∧ w = w') ∨
   (openN R.rdrs < 6 ∧ 200 ≤ R.rdrs.length ∧ e = .returned (.tuple #[.int .i64 0, .int .i64 6]) ∧ w = w') ∨
   (openN R.rdrs < 6 ∧ R.rdrs.length < 200 ∧ ∃ lo v, Least R.past (R.clock - limit) lo ∧ e = .returned (.tuple #[.int .i64 (R.rdrs.length : Int), .int .i64 0]) ∧ Ref w' b (R.beginR lo v) ∧ Kept (R.fp b) w w' ∧
    (∀ k, (R.beginR lo v).fp b k → R.fp b k ∨ w.heap.size ≤ k))
theorem rbegin (w : World) (b : Nat) (R : RefS) (limit : Int) (h : Ref w b R) (hf : R.Fit) (hl0 : 0 ≤ limit) (hl1 : limit ≤ 100000) :
  Calls Tryz.prog 35 #[.pointer (some ⟨b, 0, none⟩), .int .i64 limit] w fun e w' => BeginPost w b R limit e w' := by
 have hm := hf.rmax
 have hc0 := hf.clk0
 have hc1 := hf.clk1
 obtain ⟨ao, cap, hv, hno⟩ := h.rdrs.form
 have c2 := h.c2
 rw [hv] at c2
 have HR : Hid (Ref w b R) := h
 have HF : Hid R.Fit := hf
 have HV : Hid (R.vr = .slice ao R.rdrs.length cap) := hv
 have HCELL : Hid (∀ k (hk : k < R.rdrs.length), ∃ g, ao = some ⟨g, 0, none⟩ ∧ w.cell? ⟨g, k * 3 + 2, none⟩ = some (.bool R.rdrs[k].ended)) := by
  intro k hk
  obtain ⟨g, cap', hv', ho, _⟩ := h.rdrs.block (by omega)
  rw [hv] at hv'
  injection hv' with e1 _ _
  exact ⟨g, e1, h.rdrs.cell ho (k * 3 + 2) _ (by rw [rdr_at R.rdrs k hk 2 (by omega)]; rfl)⟩
 clear h hf hv hno
 go_enter Tryz.func35, Tryz.ntmps35
 go_wp2
 go_loop [6, 7] (fun n i => ∃ k : Nat, k ≤ R.rdrs.length ∧ i = .int .i64 k ∧ n = .int .i64 (openN (R.rdrs.take k) : Nat)) (fun _ i => R.rdrs.length - (intOf i).toNat)
 case atStart => exact ⟨0, Nat.zero_le _, rfl, rfl⟩
 case round =>
  obtain ⟨k, hk, rfl, rfl⟩ := hrel
  have ho := openN_le R.rdrs k
  by_cases hlt : k < R.rdrs.length
  · obtain ⟨g, hg, hcell⟩ := HCELL.out k hlt
   have hs := openN_snoc R.rdrs k hlt
   cases hen : R.rdrs[k].ended with
   | true =>
    rw [hen] at hcell
    have HS : Hid (openN (R.rdrs.take (k + 1)) = openN (R.rdrs.take k)) := by show _ = _; rw [hen] at hs; simpa using hs
    clear hs hen
    rw [hg] at c2
    go_wp2
    go_round
    case rel => exact ⟨k + 1, by omega, by go_num, by rw [HS.out]⟩
    case measure => simp [intOf]; omega
   | false =>
    rw [hen] at hcell
    have HS : Hid (openN (R.rdrs.take (k + 1)) = openN (R.rdrs.take k) + 1) := by show _ = _; rw [hen] at hs; simpa using hs
    clear hs hen
    rw [hg] at c2
    go_wp2
    go_round
    case rel => exact ⟨k + 1, by omega, by go_num, by rw [HS.out]; go_num⟩
    case measure => simp [intOf]; omega
  · have hk' : k = R.rdrs.length := by omega
   subst hk'
   rw [List.take_length] at ho ⊢
   by_cases h6 : 6 ≤ openN R.rdrs
   · go_wp2
    go_ret2
    exact .inl ⟨h6, rfl, rfl⟩
   · by_cases h200 : 200 ≤ R.rdrs.length
    · go_wp2
     go_ret2
     exact .inr (.inl ⟨by omega, h200, rfl, rfl⟩)
    · go_wp2_with (go_at_call 77; refine (rnewest _ b R HR.out HF.out).mono ?_; rintro e w' ⟨rfl, rfl⟩)
     have hp1 := HF.out.pmax
     have hp0 := HF.out.pos
     obtain ⟨i0, hi, hz0, hz1, hz2⟩ := info_parts Tryz.infoReader
     have HI : Hid (Tryz.prog.info? 162 = some i0 ∧ i0.zero = some (.agg #[.int .u64 0, .int .u64 0, .bool false]) ∧ i0.size = 3 ∧ i0.bytes = 24) := ⟨hi, hz0, hz1, hz2⟩
     clear hi hz0 hz1 hz2
     go_loopw [9] (fun _ wr => ∃ j : Nat, j < R.past.length ∧ Hid (∀ i, i < j → freshB R.past i (R.clock - limit) = false) ∧ Hid (Blk wr w.heap.size 88 #[.int .u64 (j : Int), .int .u64 ((R.past.length - 1 : Nat) : Int)]) ∧ Hid (Kept (fun _ => False) w wr) ∧ w.heap.size < wr.heap.size)
      (fun _ wr => R.past.length - cellN wr ⟨w.heap.size, 0, none⟩)
     case atStart => exact ⟨0, hp0, fun i hi => absurd hi (Nat.not_lt_zero _), Blk.new _ _ _, Kept.alloc _ _ _, by simp⟩
     case round =>
      obtain ⟨j, hj, HFr, HB, HK, hz⟩ := hrel
      have HRr : Hid (Ref wr b R) := HR.out.kept HK.out (fun _ _ => id)
      have q0 := HB.out.cell 0
      have q1 := HB.out.cell 1
      have qf := HB.out.free 0
      simp at q0 q1
      have d1 := HRr.out.c1
      have d2 := HRr.out.c2
      rw [HV.out] at d2
      have HFC := fun n => rfresh (wr.drewN n) b R j (R.clock - limit) (HRr.out.drewN n) HF.out hj
      have hms : cellN wr ⟨w.heap.size, 0, none⟩ = j := by simp [cellN, q0]
      clear c2
      cases hfr : freshB R.past j (R.clock - limit) with
      | true =>
       rw [hfr] at HFC
       have HC : Hid (∀ n, Calls Tryz.prog 84 #[.pointer (some ⟨b, 0, none⟩), .int .u64 j, .int .i64 (R.clock - limit)] (wr.drewN n) fun e w' => e = .returned (.bool true) ∧ w' = wr.drewN n) := fun n => (HFC n).mono fun _ _ h => ⟨h.1, h.2.symm⟩
       have HL : Hid (freshB R.past j (R.clock - limit) = true) := hfr
       clear HFC hfr hms
       go_wp2_with fail
       go_quiet ((go_at_call 84; exact Calls.quiet_of_same (HC.out _)))
       go_wp2
       have HRW : Hid (∀ W : World, (∀ k, k < wr.heap.size → W.heap[k]? = wr.heap[k]?) → Ref W b R) := fun W hW => HRr.out.same fun k hk => hW k (HRr.out.lt k hk)
       have hbb : b < wr.heap.size := HRr.out.blk.lt
       have HOwn : Hid (∀ W : World, (∀ k, k < wr.heap.size → W.heap[k]? = wr.heap[k]?) → Row W 162 3 (.slice ao R.rdrs.length cap) R.rdrs.length (R.rdrs.flatMap rdrC)) := fun W hW => by rw [← HV.out]; exact (HRW.out W hW).rdrs
       have b1 : R.rdrs.length + 1 ≤ maxLen := by unfold maxLen; omega
       have b2 : (R.rdrs.length + 1) * 24 ≤ 140737488355328 := by omega
       have HALL : Hid (∀ (m : Nat) (o : Obj) (k : Nat), k < wr.heap.size → ((wr.drewN m).alloc o).heap[k]? = wr.heap[k]?) := fun m o k hk => Below.heap_alloc (wr.drewN m) o k hk
       have dA : ∀ (m : Nat) (o : Obj), ((wr.drewN m).alloc o).cell? ⟨b, 2, none⟩ = some (.slice ao R.rdrs.length cap) := fun m o => by rw [(HRW.out _ (HALL.out m o)).c2, HV.out]
       go_region_law (refine step_append_mine rfl (.tmp 66) (.tmp 69) 81 rfl 162 i0 (.agg #[.int .u64 0, .int .u64 0, .bool false]) 3 24 Tryz.underlying81 HI.out.1 HI.out.2.1 HI.out.2.2.1 HI.out.2.2.2 rfl (Nat.succ_pos 2) (.slice ao R.rdrs.length cap) R.rdrs.length (R.rdrs.flatMap rdrC) rfl (HOwn.out _ (HALL.out _ _)) ⟨wr.heap.size, 0, none⟩ 1 1 [.int .u64 j, .int .u64 ((R.past.length - 1 : Nat) : Int), .bool false] rfl rfl (cell_three_new (wr.drewN _) _ _ _ _) (oneCell_rdr _ _ _) b1 b2 ?_; intro v' w' hA; obtain ⟨k2, k2f⟩ := begin_in (HRW.out _ (HALL.out _ _)) HV.out hA; obtain ⟨ao', cap', hv', _⟩ := hA.row.form; subst hv')
       all_goals
        rw [← HV.out] at hA
        obtain ⟨z1, z2, z3⟩ := Ref.beginR (HRW.out _ (HALL.out _ _)) j _ hA
        have HZ : Hid (Ref (w'.setCell ⟨b, 2, none⟩ (.slice ao' (R.rdrs.length + 1) cap')) b (R.beginR j (.slice ao' (R.rdrs.length + 1) cap')) ∧ Kept (R.fp b) w (w'.setCell ⟨b, 2, none⟩ (.slice ao' (R.rdrs.length + 1) cap')) ∧ (∀ k, (R.beginR j (.slice ao' (R.rdrs.length + 1) cap')).fp b k → R.fp b k ∨ w.heap.size ≤ k)) := by
         refine ⟨z1, ((HK.out.drewN _).trans (Kept.alloc _ _ (fun _ => False)) (fun _ => id) (fun _ _ => id)).trans z2 (fun _ => False.elim) (fun _ _ => id), fun k hk => (z3 k hk).imp id fun hh => ?_⟩
         simp only [World.size_alloc] at hh
         have h2 := HK.out.size
         have h3 : wr.heap.size + 1 ≤ k := hh
         omega
        clear z1 z2 z3 hA dA d1 d2 q0 q1 qf
        go_wp2
        go_ret2
        exact .inr (.inr ⟨by omega, by omega, j, _, ⟨hj, HL.out, HFr.out⟩, rfl, HZ.out⟩)
      | false =>
       rw [hfr] at HFC
       have HC : Hid (∀ n, Calls Tryz.prog 84 #[.pointer (some ⟨b, 0, none⟩), .int .u64 j, .int .i64 (R.clock - limit)] (wr.drewN n) fun e w' => e = .returned (.bool false) ∧ w' = wr.drewN n) := fun n => (HFC n).mono fun _ _ h => ⟨h.1, h.2.symm⟩
       have hjl : j + 1 < R.past.length := by
        by_cases hh : j + 1 < R.past.length
        · exact hh
        · rw [fresh_last R.past _ j (by omega) hj] at hfr; cases hfr
       have HL : Hid (freshB R.past j (R.clock - limit) = false) := hfr
       have HMS : Hid (cellN wr ⟨w.heap.size, 0, none⟩ = j) := hms
       clear HFC hfr hms
       go_wp2_with fail
       go_quiet ((go_at_call 84; exact Calls.quiet_of_same (HC.out _)))
       go_wp2
       obtain ⟨s1, s2, s3⟩ := span_next (wr := wr.drewN nq) (HB.out.same rfl) (HK.out.drewN _)
       go_roundw
       case rel =>
        refine ⟨j + 1, hjl, fun i hi => ?_, s1, s2, by simpa using hz⟩
        by_cases he : i = j
        · rw [he]; exact HL.out
        · exact HFr.out i (by omega)
       case measure => rw [s3, HMS.out]; omega
theorem rtouches (w : World) (b : Nat) (R : RefS) (t : Nat) (K : Int) (p : PastE) (h : Ref w b R) (hf : R.Fit) (hp : R.past[t]? = some p) :
  Calls Tryz.prog 141 #[.pointer (some ⟨b, 0, none⟩), .int .u64 t, .int .u8 K] w fun e w' => e = .returned (.bool (bits .and .u8 p.keys K != 0)) ∧ w = w' := by
 obtain ⟨hlt, hp'⟩ := List.getElem?_eq_some_iff.mp hp
 have hm := hf.pmax
 obtain ⟨g, cap, hv, ho, _⟩ := h.past.block (by omega)
 have c0 := h.c0
 rw [hv] at c0
 have hcell := h.past.cell ho (t * 10 + 8) _ (by rw [past_at R.past t hlt 8 (by omega), hp']; rfl)
 clear h hf hv ho hp hp'
 go_enter Tryz.func141, Tryz.ntmps141
 go_wp2
 go_ret
 exact ⟨rfl, rfl⟩
theorem rlast (w : World) (q : Value) (val : Int) (fr till kn hz : Nat) (op : Bool) (hq : ∃ s, q = .string s) (ht : op = false → 1 ≤ till) (hb : till ≤ 701 ∧ kn ≤ 700 ∧ hz ≤ 700) :
  Calls Tryz.prog 96 #[.agg #[q, .int .i32 val, .int .u64 fr, .int .u64 till, .bool op, .int .u64 kn], .int .u64 hz] w fun e w' => e = .returned (.int .u64 (((if op then max kn hz else till - 1) : Nat) : Int)) ∧ Below w.heap.size w w' := by
 obtain ⟨s, rfl⟩ := hq
 obtain ⟨hb1, hb2, hb3⟩ := hb
 cases op with
 | false =>
  have h1 : 1 ≤ till := ht rfl
  clear ht
  go_enter Tryz.func96, Tryz.ntmps96
  go_wp2
  go_ret
  exact ⟨rt_int (by omega), (Below.refl _ _).alloc (Nat.le_refl _) _⟩
 | true =>
  clear ht
  by_cases hc : hz < kn
  · go_enter Tryz.func96, Tryz.ntmps96
   go_wp2
   go_ret
   exact ⟨rt_int (by omega), (Below.refl _ _).alloc (Nat.le_refl _) _⟩
  · go_enter Tryz.func96, Tryz.ntmps96
   go_wp2
   go_ret
   exact ⟨rt_int (by omega), (Below.refl _ _).alloc (Nat.le_refl _) _⟩
theorem rboth (w : World) (a b c d : Nat) :
  Calls Tryz.prog 95 #[.agg #[.int .u64 a, .int .u64 b], .agg #[.int .u64 c, .int .u64 d]] w fun e w' =>
   e = .returned (.tuple #[.agg #[.int .u64 ((max a c : Nat) : Int), .int .u64 ((min b d : Nat) : Int)], .bool (decide (((max a c : Nat) : Int) ≤ ((min b d : Nat) : Int)))]) ∧ Below w.heap.size w w' := by
 obtain ⟨x, hx⟩ : ∃ x, x = max a c := ⟨_, rfl⟩
 obtain ⟨y, hy⟩ : ∃ y, y = min b d := ⟨_, rfl⟩
 rw [← hx, ← hy]
 by_cases h1 : a < c
 · by_cases h2 : d < b
  · obtain rfl : x = c := by omega
   obtain rfl : y = d := by omega
   clear hx hy
   go_enter Tryz.func95, Tryz.ntmps95
   go_wp2
   go_region
   all_goals
    go_wp2
    refine bodyPost_ret (v := .tuple #[.agg #[.int .u64 (x : Int), .int .u64 (y : Int)], .bool (decide ((x : Int) ≤ (y : Int)))]) (by simp [results, Tryz.results95, go_sem]) rfl ⟨rfl, ?_⟩
    exact ((((Below.refl _ _).alloc (Nat.le_refl _) _).alloc (by simp) _).alloc (by simp; omega) _).drew
  · obtain rfl : x = c := by omega
   obtain rfl : y = b := by omega
   clear hx hy
   go_enter Tryz.func95, Tryz.ntmps95
   go_wp2
   go_region
   all_goals
    go_wp2
    refine bodyPost_ret (v := .tuple #[.agg #[.int .u64 (x : Int), .int .u64 (y : Int)], .bool (decide ((x : Int) ≤ (y : Int)))]) (by simp [results, Tryz.results95, go_sem]) rfl ⟨rfl, ?_⟩
    exact ((((Below.refl _ _).alloc (Nat.le_refl _) _).alloc (by simp) _).alloc (by simp; omega) _).drew
 · by_cases h2 : d < b
  · obtain rfl : x = a := by omega
   obtain rfl : y = d := by omega
   clear hx hy
   go_enter Tryz.func95, Tryz.ntmps95
   go_wp2
   go_region
   all_goals
    go_wp2
    refine bodyPost_ret (v := .tuple #[.agg #[.int .u64 (x : Int), .int .u64 (y : Int)], .bool (decide ((x : Int) ≤ (y : Int)))]) (by simp [results, Tryz.results95, go_sem]) rfl ⟨rfl, ?_⟩
    exact ((((Below.refl _ _).alloc (Nat.le_refl _) _).alloc (by simp) _).alloc (by simp; omega) _).drew
  · obtain rfl : x = a := by omega
   obtain rfl : y = b := by omega
   clear hx hy
   go_enter Tryz.func95, Tryz.ntmps95
   go_wp2
   go_region
   all_goals
    go_wp2
    refine bodyPost_ret (v := .tuple #[.agg #[.int .u64 (x : Int), .int .u64 (y : Int)], .bool (decide ((x : Int) ≤ (y : Int)))]) (by simp [results, Tryz.results95, go_sem]) rfl ⟨rfl, ?_⟩
    exact ((((Below.refl _ _).alloc (Nat.le_refl _) _).alloc (by simp) _).alloc (by simp; omega) _).drew
end Go.Proofs.YtpfcacedpkaihaaGreat
