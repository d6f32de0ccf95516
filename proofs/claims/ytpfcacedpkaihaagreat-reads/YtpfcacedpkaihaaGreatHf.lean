/- The document's right (package almanacref), walked. -/
import Derived.Test.YtpfcacedpkaihaaGreatHaHbHcHdHe
namespace Go.Proofs.YtpfcacedpkaihaaGreat
open Go.RowKit
/-- what stands while an answer is made: nothing of before has turned, the answer so far, the place of the result. -/
structure Making (w wr : World) (P : Nat) (e : EntE) : Prop where
  low : Below w.heap.size w wr
  far : w.heap.size < P
  ans : Blk wr P 55 (entA e)
  res : Blk wr w.heap.size 55 zeroA

theorem Making.put {w wr : World} {P : Nat} {e e' : EntE} (h : Making w wr P e) (f : Nat) (v : Value) (he : (entA e).setIfInBounds f v = entA e') : Making w (wr.setCell ⟨P, f, none⟩ v) P e' :=
  ⟨⟨h.low.os, h.low.tape, h.low.output, by simpa [World.setCell] using h.low.size, fun k hk => ((Kept.setCell wr ⟨P, f, none⟩ v).block k (Nat.lt_of_lt_of_le hk h.low.size) (by have := h.far; simp only; omega)).trans (h.low.block k hk)⟩, h.far, by rw [← he]; exact h.ans.set f v, h.res.kept (Kept.setCell wr ⟨P, f, none⟩ v) (by have := h.far; simp only; omega)⟩

theorem right_first {w w1 : World} {c : Array Value} (h : Below (w.alloc (.cells c 55)).heap.size (w.alloc (.cells c 55)) w1) : Below w.heap.size w w1 ∧ Blk w1 w.heap.size 55 c ∧ w.heap.size < w1.heap.size := by
  have e : (w.alloc (.cells c 55)).heap.size = w.heap.size + 1 := by simp
  have k : Kept (fun _ => False) (w.alloc (.cells c 55)) w1 := Kept.of_below h _
  have hs := k.size
  refine ⟨((Kept.alloc w _ (fun _ => False)).trans k (fun _ => id) (fun _ _ => id)).below (Nat.le_refl _) (fun _ => False.elim), (Blk.new w _ c).kept k id, by omega⟩
theorem right_next {w w1 w2 : World} {c : Array Value} (h1 : Below w.heap.size w w1 ∧ Blk w1 w.heap.size 55 c ∧ w.heap.size < w1.heap.size) (h : Below w1.heap.size w1 w2) : Below w.heap.size w w2 ∧ Blk w2 w.heap.size 55 c ∧ w.heap.size < w2.heap.size := by
  have k : Kept (fun _ => False) w1 w2 := Kept.of_below h _
  have hs := k.size
  refine ⟨((Kept.of_below h1.1 (fun _ => False)).trans k (fun _ => id) (fun _ _ => id)).below (Nat.le_refl _) (fun _ => False.elim), h1.2.1.kept k id, by omega⟩

theorem right_start {w w2 : World} {e : EntE} (h : Below w.heap.size w w2 ∧ Blk w2 w.heap.size 55 zeroA ∧ w.heap.size < w2.heap.size) : Making w (w2.alloc (.cells (entA e) 55)) w2.heap.size e :=
  ⟨((Kept.of_below h.1 (fun _ => False)).trans (Kept.alloc w2 _ (fun _ => False)) (fun _ => id) (fun _ _ => id)).below (Nat.le_refl _) (fun _ => False.elim), h.2.2, Blk.new w2 _ _, h.2.1.kept (Kept.alloc w2 _ (fun _ => False)) id⟩

theorem right_end {w wr : World} {P : Nat} {e : EntE} (h : Making w wr P e) :
    Blk ((((((wr.setCell ⟨w.heap.size, 0, none⟩ (.string e.q)).setCell ⟨w.heap.size, 1, none⟩ (.int .i32 e.val)).setCell ⟨w.heap.size, 2, none⟩ (.int .u64 (e.fr : Int))).setCell ⟨w.heap.size, 3, none⟩ (.int .u64 (e.till : Int))).setCell ⟨w.heap.size, 4, none⟩ (.bool e.op)).setCell ⟨w.heap.size, 5, none⟩ (.int .u64 (e.kn : Int))) w.heap.size 55 (entA e) ∧
    Below w.heap.size w ((((((wr.setCell ⟨w.heap.size, 0, none⟩ (.string e.q)).setCell ⟨w.heap.size, 1, none⟩ (.int .i32 e.val)).setCell ⟨w.heap.size, 2, none⟩ (.int .u64 (e.fr : Int))).setCell ⟨w.heap.size, 3, none⟩ (.int .u64 (e.till : Int))).setCell ⟨w.heap.size, 4, none⟩ (.bool e.op)).setCell ⟨w.heap.size, 5, none⟩ (.int .u64 (e.kn : Int))) := by
  have st : ∀ (a : World) (f : Nat) (v : Value), Kept (fun k => k = w.heap.size) w a → Kept (fun k => k = w.heap.size) w (a.setCell ⟨w.heap.size, f, none⟩ v) := fun a f v ha => ha.trans (Kept.setCell a _ v) (fun _ => id) (fun _ _ hk => hk)
  exact ⟨(((((h.res.set 0 _).set 1 _).set 2 _).set 3 _).set 4 _).set 5 _, (st _ _ _ (st _ _ _ (st _ _ _ (st _ _ _ (st _ _ _ (st _ _ _ (Kept.of_below h.low _))))))).below (Nat.le_refl _) (fun k hk => by omega)⟩

set_option maxRecDepth 100000 in
set_option maxHeartbeats 4000000 in
theorem rright (w : World) (b : Nat) (R : RefS) (q : ByteArray) (l : Value) (t : Nat) (p : PastE) (K val : Int) (h : Ref w b R) (hf : R.Fit) (hp : R.past[t]? = some p) (hl : ∃ ao n cap, l = .slice ao n cap)
    (hK : ∀ W, Below w.heap.size w W → Calls Tryz.prog 73 #[l] W fun e w' => e = .returned (.int .u8 K) ∧ Below W.heap.size W w')
    (hW : ∀ W, Below w.heap.size w W → Calls Tryz.prog 140 #[l, .agg #[.int .i32 (p.st 0), .int .i32 (p.st 1), .int .i32 (p.st 2), .int .i32 (p.st 3), .int .i32 (p.st 4), .int .i32 (p.st 5), .int .i32 (p.st 6), .int .i32 (p.st 7)]] W fun e w' => e = .returned (.int .i32 val) ∧ Below W.heap.size W w') :
    Calls Tryz.prog 97 #[.pointer (some ⟨b, 0, none⟩), .string q, l, .int .u64 t] w fun e w' =>
      e = .returned (.agg (entA (rightE R.past q K val t))) ∧ Below w.heap.size w w' := by
  obtain ⟨lo, ln, lc, rfl⟩ := hl
  obtain ⟨hlt, hp'⟩ := List.getElem?_eq_some_iff.mp hp
  have hm := hf.pmax
  obtain ⟨g, cap, hv, ho, _⟩ := h.past.block (by omega)
  have HK : Hid (∀ W, Below w.heap.size w W → Calls Tryz.prog 73 #[.slice lo ln lc] W fun e w' => e = .returned (.int .u8 K) ∧ Below W.heap.size W w') := hK
  have HW : Hid (∀ W, Below w.heap.size w W → Calls Tryz.prog 140 #[.slice lo ln lc, .agg #[.int .i32 (p.st 0), .int .i32 (p.st 1), .int .i32 (p.st 2), .int .i32 (p.st 3), .int .i32 (p.st 4), .int .i32 (p.st 5), .int .i32 (p.st 6), .int .i32 (p.st 7)]] W fun e w' => e = .returned (.int .i32 val) ∧ Below W.heap.size W w') := hW
  have HR : Hid (∀ W, Below w.heap.size w W → Ref W b R) := fun W hb => h.kept (Kept.of_below hb (fun _ => False)) fun _ _ => id
  have HN : Hid (∀ W, Below w.heap.size w W → Calls Tryz.prog 77 #[.pointer (some ⟨b, 0, none⟩)] W fun e w' => e = .returned (.int .u64 ((R.past.length - 1 : Nat) : Int)) ∧ W = w') := fun W hb => rnewest W b R (HR.out W hb) hf
  have HT : Hid (∀ W, Below w.heap.size w W → ∀ f : Nat, f < R.past.length → Calls Tryz.prog 141 #[.pointer (some ⟨b, 0, none⟩), .int .u64 f, .int .u8 K] W fun e w' => e = .returned (.bool (touchB R.past K f)) ∧ W = w') := by
    intro W hb f hf2
    have hq : R.past[f]? = some R.past[f] := List.getElem?_eq_getElem hf2
    rw [touchB_some K hq]
    exact rtouches W b R f K _ (HR.out W hb) hf hq
  have HC : Hid (∀ W, Below w.heap.size w W → W.cell? ⟨b, 0, none⟩ = some (.slice (some ⟨g, 0, none⟩) R.past.length cap) ∧ W.cell? ⟨g, t * 10, none⟩ = some (.int .i32 (p.st 0)) ∧ W.cell? ⟨g, t * 10 + 1, none⟩ = some (.int .i32 (p.st 1)) ∧ W.cell? ⟨g, t * 10 + 2, none⟩ = some (.int .i32 (p.st 2)) ∧ W.cell? ⟨g, t * 10 + 3, none⟩ = some (.int .i32 (p.st 3)) ∧
      W.cell? ⟨g, t * 10 + 4, none⟩ = some (.int .i32 (p.st 4)) ∧ W.cell? ⟨g, t * 10 + 5, none⟩ = some (.int .i32 (p.st 5)) ∧ W.cell? ⟨g, t * 10 + 6, none⟩ = some (.int .i32 (p.st 6)) ∧ W.cell? ⟨g, t * 10 + 7, none⟩ = some (.int .i32 (p.st 7))) := by
    intro W hb
    have hr := HR.out W hb
    have hc : ∀ f, f < 10 → ∀ u, (pastC p)[f]? = some u → W.cell? ⟨g, t * 10 + f, none⟩ = some u := fun f hf u hu => hr.past.cell ho _ u (by rw [past_at R.past t hlt f hf, hp']; exact hu)
    exact ⟨by rw [hr.c0, hv], hc 0 (by omega) _ rfl, hc 1 (by omega) _ rfl, hc 2 (by omega) _ rfl, hc 3 (by omega) _ rfl, hc 4 (by omega) _ rfl, hc 5 (by omega) _ rfl, hc 6 (by omega) _ rfl, hc 7 (by omega) _ rfl⟩
  have hpos := hf.pos
  clear hK hW h hf hp hp' hv ho
  go_enter Tryz.func97, Tryz.ntmps97
  go_wp2_with first
    | (go_at_call 73; refine (HK.out _ ((Below.refl _ _).alloc (Nat.le_refl _) _)).mono ?_; rintro e w1 ⟨rfl, hb1⟩; have HB1 : Hid (Below w.heap.size w w1 ∧ Blk w1 w.heap.size 55 zeroA ∧ w.heap.size < w1.heap.size) := right_first hb1; clear hb1; obtain ⟨c0, s0, s1, s2, s3, s4, s5, s6, s7⟩ := HC.out w1 HB1.out.1)
    | (go_at_call 140; refine (HW.out _ HB1.out.1).mono ?_; rintro e w2 ⟨rfl, hb2⟩; have HB2 : Hid (Below w.heap.size w w2 ∧ Blk w2 w.heap.size 55 zeroA ∧ w.heap.size < w2.heap.size) := right_next HB1.out hb2; clear hb2 c0 s0 s1 s2 s3 s4 s5 s6 s7)
    | (go_at_call 77; refine (HN.out _ HB2.out.1).mono ?_; rintro e w3 ⟨rfl, rfl⟩)
  go_loopw [11] (fun i wr => ∃ f : Nat, f ≤ t ∧ i = .int .u64 (f + 1 : Nat) ∧ Hid (Making w wr w2.heap.size { q := q, val := val, fr := fromN R.past K f, till := 0, op := true, kn := R.past.length - 1 })) (fun i _ => t + 1 - (intOf i).toNat)
  case atStart => exact ⟨0, Nat.zero_le _, rfl, right_start (e := ⟨q, val, 0, 0, true, R.past.length - 1⟩) HB2.out⟩
  case round =>
    obtain ⟨f, hft, rfl, HM⟩ := hrel
    by_cases hlt2 : f < t
    · have f2 := HM.out.ans.free 2
      have a2 : wr.cell? ⟨w2.heap.size, 2, none⟩ = some (.int .u64 (fromN R.past K f : Int)) := HM.out.ans.cell 2
      have HF : Hid (fromN R.past K (f + 1) = if touchB R.past K (f + 1) then f + 1 else fromN R.past K f) := rfl
      have HT1 : Hid (Calls Tryz.prog 141 #[.pointer (some ⟨b, 0, none⟩), .int .u64 ((f + 1 : Nat) : Int), .int .u8 K] wr fun e w' => e = .returned (.bool (touchB R.past K (f + 1))) ∧ wr = w') := HT.out wr HM.out.low (f + 1) (by omega)
      cases hy : touchB R.past K (f + 1) with
      | true =>
        rw [hy] at HT1 HF
        clear hy
        go_wp2_with (go_at_call 141; refine HT1.out.mono ?_; rintro e w' ⟨rfl, rfl⟩)
        go_roundw
        case rel => exact ⟨f + 1, by omega, by go_num, by rw [HF.out]; exact HM.out.put 2 _ rfl⟩
        case measure => simp [intOf]; omega
      | false =>
        rw [hy] at HT1 HF
        clear hy
        go_wp2_with (go_at_call 141; refine HT1.out.mono ?_; rintro e w' ⟨rfl, rfl⟩)
        go_roundw
        case rel => exact ⟨f + 1, by omega, by go_num, by rw [HF.out]; exact HM.out⟩
        case measure => simp [intOf]; omega
    · obtain rfl : f = t := by omega
      go_wp2_with (go_at_call 77; refine (HN.out _ HM.out.low).mono ?_; rintro e w3 ⟨rfl, rfl⟩)
      go_loopw [13] (fun i wr => ∃ n : Nat, n ≤ R.past.length - 1 - f ∧ i = .int .u64 (R.past.length - 1 - n : Nat) ∧ Hid (Making w wr w2.heap.size { q := q, val := val, fr := fromN R.past K f, till := (tillN R.past K n).getD 0, op := (tillN R.past K n).isNone, kn := R.past.length - 1 })) (fun i _ => (intOf i).toNat)
      case atStart => exact ⟨0, Nat.zero_le _, rfl, HM⟩
      case round =>
        obtain ⟨n, hn, rfl, HM2⟩ := hrel
        by_cases hlt3 : n < R.past.length - 1 - f
        · obtain ⟨x, hx⟩ : ∃ x, x = R.past.length - 1 - n := ⟨_, rfl⟩
          have hx1 : f < x := by omega
          have hx2 : x < R.past.length := by omega
          have HX : Hid (x = R.past.length - 1 - n) := hx
          have f3 := HM2.out.ans.free 3
          have f4 := HM2.out.ans.free 4
          have HT1 : Hid (Calls Tryz.prog 141 #[.pointer (some ⟨b, 0, none⟩), .int .u64 (x : Int), .int .u8 K] wr fun e w' => e = .returned (.bool (touchB R.past K x)) ∧ wr = w') := HT.out wr HM2.out.low x (by omega)
          have a3 : wr.cell? ⟨w2.heap.size, 3, none⟩ = some (.int .u64 ((tillN R.past K n).getD 0 : Nat)) := HM2.out.ans.cell 3
          have a4 : wr.cell? ⟨w2.heap.size, 4, none⟩ = some (.bool (tillN R.past K n).isNone) := HM2.out.ans.cell 4
          have HF : Hid (tillN R.past K (n + 1) = if touchB R.past K x then some x else tillN R.past K n) := by rw [HX.out]; exact rfl
          rw [← hx]
          clear hx
          cases hy : touchB R.past K x with
          | true =>
            rw [hy] at HT1 HF
            clear hy
            go_wp2_with (go_at_call 141; refine HT1.out.mono ?_; rintro e w' ⟨rfl, rfl⟩)
            go_roundw
            case rel => exact ⟨n + 1, by omega, by have := HX.out; go_num, by rw [HF.out]; exact (HM2.out.put 4 (e' := { q := q, val := val, fr := fromN R.past K f, till := (tillN R.past K n).getD 0, op := false, kn := R.past.length - 1 }) (.bool false) rfl).put 3 _ rfl⟩
            case measure => simp [intOf]; omega
          | false =>
            rw [hy] at HT1 HF
            clear hy
            go_wp2_with (go_at_call 141; refine HT1.out.mono ?_; rintro e w' ⟨rfl, rfl⟩)
            go_roundw
            case rel => exact ⟨n + 1, by omega, by have := HX.out; go_num, by rw [HF.out]; exact HM2.out⟩
            case measure => simp [intOf]; omega
        · obtain ⟨x, hx⟩ : ∃ x, x = R.past.length - 1 - n := ⟨_, rfl⟩
          have hx1 : x = f := by omega
          have hnn : n = R.past.length - 1 - f := by omega
          rw [← hx, hx1]
          have HN2 : Hid (n = R.past.length - 1 - f) := hnn
          obtain ⟨e1, he1⟩ : ∃ e1 : EntE, e1 = { q := q, val := val, fr := fromN R.past K f, till := (tillN R.past K n).getD 0, op := (tillN R.past K n).isNone, kn := R.past.length - 1 } := ⟨_, rfl⟩
          rw [← he1] at HM2
          have HE : Hid (e1 = rightE R.past q K val f) := by rw [he1, hnn]; exact rfl
          have b0 : wr.cell? ⟨w2.heap.size, 0, none⟩ = some (.string e1.q) := HM2.out.ans.cell 0
          have b1 : wr.cell? ⟨w2.heap.size, 1, none⟩ = some (.int .i32 e1.val) := HM2.out.ans.cell 1
          have b2 : wr.cell? ⟨w2.heap.size, 2, none⟩ = some (.int .u64 (e1.fr : Int)) := HM2.out.ans.cell 2
          have b3 : wr.cell? ⟨w2.heap.size, 3, none⟩ = some (.int .u64 (e1.till : Int)) := HM2.out.ans.cell 3
          have b4 : wr.cell? ⟨w2.heap.size, 4, none⟩ = some (.bool e1.op) := HM2.out.ans.cell 4
          have b5 : wr.cell? ⟨w2.heap.size, 5, none⟩ = some (.int .u64 (e1.kn : Int)) := HM2.out.ans.cell 5
          have r0 : wr.cell? ⟨w.heap.size, 0, none⟩ = some (.string ⟨#[]⟩) := HM2.out.res.cell 0
          have r1 : wr.cell? ⟨w.heap.size, 1, none⟩ = some (.int .i32 0) := HM2.out.res.cell 1
          have r2 : wr.cell? ⟨w.heap.size, 2, none⟩ = some (.int .u64 0) := HM2.out.res.cell 2
          have r3 : wr.cell? ⟨w.heap.size, 3, none⟩ = some (.int .u64 0) := HM2.out.res.cell 3
          have r4 : wr.cell? ⟨w.heap.size, 4, none⟩ = some (.bool false) := HM2.out.res.cell 4
          have r5 : wr.cell? ⟨w.heap.size, 5, none⟩ = some (.int .u64 0) := HM2.out.res.cell 5
          have g0 := HM2.out.res.free 0
          have g1 := HM2.out.res.free 1
          have g2 := HM2.out.res.free 2
          have g3 := HM2.out.res.free 3
          have g4 := HM2.out.res.free 4
          have g5 := HM2.out.res.free 5
          clear hx hx1 hnn he1
          go_wp2
          obtain ⟨hB, hL⟩ := right_end HM2.out
          generalize World.setCell _ _ (Value.int .u64 (e1.kn : Int)) = W at hB hL ⊢
          have q0 : W.cell? ⟨w.heap.size, 0, none⟩ = some (.string e1.q) := hB.cell 0
          have q1 : W.cell? ⟨w.heap.size, 1, none⟩ = some (.int .i32 e1.val) := hB.cell 1
          have q2 : W.cell? ⟨w.heap.size, 2, none⟩ = some (.int .u64 (e1.fr : Int)) := hB.cell 2
          have q3 : W.cell? ⟨w.heap.size, 3, none⟩ = some (.int .u64 (e1.till : Int)) := hB.cell 3
          have q4 : W.cell? ⟨w.heap.size, 4, none⟩ = some (.bool e1.op) := hB.cell 4
          have q5 : W.cell? ⟨w.heap.size, 5, none⟩ = some (.int .u64 (e1.kn : Int)) := hB.cell 5
          rw [← HE.out]
          refine bodyPost_ret (v := .agg (entA e1)) (by simp [results, Tryz.results97, go_sem, q0, q1, q2, q3, q4, q5, entA]) rfl ⟨rfl, hL⟩

end Go.Proofs.YtpfcacedpkaihaaGreat
