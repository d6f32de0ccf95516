import Derived.Test.YtpfcacedpkaihaaGreatDfDgDh
import Derived.Test.YtpfcacedpkaihaaGreatNpWpIv
import Derived.BigQuiet
/- The program's nodes (package memory): what a change of a node leaves of the world; cover, use, goesAheadOf, walked. -/
namespace Go.Proofs.YtpfcacedpkaihaaGreat
open Go.RowKit

theorem Dev.c28 {w : World} {b : Nat} {D : DevS} (h : Dev w b D) : w.cell? ⟨b, 28, none⟩ = some D.vn := h.blk.cell 28

/-- node k has become another one, the rest is as it was. -/
def Turns (w : World) (b : Nat) (D : DevS) (k : Nat) (p : NodeP) (w' : World) : Prop := ∃ nd : DNodeE, nd.p = p ∧ DBecame w b D w' (D.putN k nd)
/-- the same, and its entries lie where they lay. -/
def TurnsE (w : World) (b : Nat) (D : DevS) (k : Nat) (p : NodeP) (v : Value) (w' : World) : Prop := ∃ nd : DNodeE, nd.p = p ∧ nd.en = v ∧ DBecame w b D w' (D.putN k nd)
theorem TurnsE.turns {w w' : World} {b k : Nat} {D : DevS} {p : NodeP} {v : Value} (h : TurnsE w b D k p v w') : Turns w b D k p w' := by
  obtain ⟨nd, e, _, hb⟩ := h
  exact ⟨nd, e, hb⟩
theorem putN_putN (D : DevS) (k : Nat) (a c : DNodeE) : (D.putN k a).putN k c = D.putN k c := by simp [DevS.putN]
theorem putN_at {D : DevS} {k : Nat} {nd : DNodeE} (a : DNodeE) (h : D.nodes[k]? = some nd) : (D.putN k a).nodes[k]? = some a := List.getElem?_set_self (List.getElem?_eq_some_iff.mp h).1
theorem putN_self {D : DevS} {k : Nat} {nd : DNodeE} (h : D.nodes[k]? = some nd) : D.putN k nd = D := by
  have : D.nodes.set k nd = D.nodes := set_self' h
  simp [DevS.putN, this]
theorem Turns.of_kept {w w' : World} {b k : Nat} {D : DevS} {nd : DNodeE} (h : Dev w b D) (hnd : D.nodes[k]? = some nd) (hk : Kept (fun _ => False) w w') : Turns w b D k nd.p w' := ⟨nd, rfl, by rw [putN_self hnd]; exact DBecame.of_kept h hk⟩
theorem Turns.trans {w w1 w2 : World} {b k : Nat} {D : DevS} {p1 p2 : NodeP} (h : Turns w b D k p1 w1) (h2 : ∀ nd : DNodeE, nd.p = p1 → Dev w1 b (D.putN k nd) → Turns w1 b (D.putN k nd) k p2 w2) : Turns w b D k p2 w2 := by
  obtain ⟨nd, e, hb⟩ := h
  obtain ⟨nd2, e2, hb2⟩ := h2 nd e hb.1
  refine ⟨nd2, e2, ?_⟩
  have := hb.trans hb2
  rwa [putN_putN] at this
/-- a call that turns nothing, ahead of it. -/
theorem Turns.from {w w1 w2 : World} {b k : Nat} {D : DevS} {p : NodeP} (hk : Kept (fun _ => False) w w1) (h : Turns w1 b D k p w2) : Turns w b D k p w2 := by
  obtain ⟨nd, e, hb⟩ := h
  exact ⟨nd, e, hb.1, hk.trans hb.2.1 (fun _ => False.elim) (fun _ _ => id), fun x hx => (hb.2.2 x hx).imp id fun hh => Nat.le_trans hk.size hh⟩
/-- a step that turns nothing old, behind it. -/
theorem Turns.then {w w1 w2 : World} {b k : Nat} {D : DevS} {p : NodeP} (h : Turns w b D k p w1) (hk : Kept (fun _ => False) w1 w2) : Turns w b D k p w2 := by
  obtain ⟨nd, e, hb⟩ := h
  exact ⟨nd, e, hb.1.kept hk (fun _ _ => id), hb.2.1.trans hk (fun _ => id) (fun _ _ => False.elim), hb.2.2⟩

/-- stores into a block that was made ahead of it, behind it. -/
theorem Turns.late {w W W1 W2 : World} {b k r : Nat} {D : DevS} {p : NodeP} (hW : Kept (fun _ => False) w W) (h : Turns W b D k p W1) (hD : ∀ j, D.fp b j → j < w.heap.size) (hr1 : w.heap.size ≤ r) (hr2 : r < W.heap.size) (hk : Kept (fun j => j = r) W1 W2) : Turns w b D k p W2 := by
  obtain ⟨nd, e, hb⟩ := h
  refine ⟨nd, e, hb.1.kept hk (fun j hj he => ?_), (hW.trans hb.2.1 (fun _ => False.elim) (fun _ _ => id)).trans hk (fun _ => id) (fun i hi he => by omega), fun x hx => (hb.2.2 x hx).imp id fun hh => Nat.le_trans hW.size hh⟩
  rcases hb.2.2 j hj with h1 | h1
  · have := hD j h1; omega
  · omega

set_option maxHeartbeats 1000000 in
/-- the stamps that an entry covers at a node of this horizon. -/
theorem dcover (w : World) (g o : Nat) (x : EntE) (hz : Nat) (hx : x.Fit) (hc : w.cell? ⟨g, o + 2, none⟩ = some (.int .u64 (hz : Int))) :
    Calls Tryz.prog 137 #[.pointer (some ⟨g, o, none⟩), .agg (entA x)] w fun e w' => e = .returned (.agg #[.int .u64 (x.fr : Int), .int .u64 (lastE x hz : Int)]) ∧ Kept (fun _ => False) w w' := by
  obtain ⟨L, hL⟩ : ∃ L, L = lastE x hz := ⟨_, rfl⟩
  rw [← hL]
  obtain ⟨h1, h2, h3⟩ := hx
  obtain ⟨q, val, fr, till, op, kn⟩ := x
  unfold entA
  dsimp only at *
  have hgl := World.block_lt_of_cell? w _ hc
  have hg0 : g ≠ w.heap.size := Nat.ne_of_lt hgl
  have hg1 : g ≠ w.heap.size + 1 := by have : g < w.heap.size := hgl; omega
  have kk : ∀ (a c : Obj), Kept (fun _ => False) w ((w.alloc a).alloc c) := fun a c => (Kept.alloc w a (fun _ => False)).trans (Kept.alloc _ c (fun _ => False)) (fun _ => id) (fun _ _ => id)
  cases op with
  | false =>
    have h4 := h1 rfl
    have hLL : L = till - 1 := by rw [hL]; rfl
    clear hL
    go_enter Tryz.func137, Tryz.ntmps137
    go_wp2
    refine bodyPost_ret (v := .agg #[.int .u64 (fr : Int), .int .u64 (L : Int)]) ?_ rfl ⟨by rw [hLL], kk _ _⟩
    simp [results, Tryz.results137, go_sem, hLL]
    go_num
  | true =>
    by_cases hlt : kn < hz
    · have hLL : L = hz := by rw [hL]; show max kn hz = hz; omega
      clear hL
      have hd : decide ((kn : Int) < (hz : Int)) = true := by simpa using hlt
      go_enter Tryz.func137, Tryz.ntmps137
      go_wp2
      go_region
      all_goals
        go_wp2
        go_region
        all_goals
          go_wp2
          refine bodyPost_ret (v := .agg #[.int .u64 (fr : Int), .int .u64 (L : Int)]) (by simp [results, Tryz.results137, go_sem, hLL]) rfl ⟨rfl, (kk _ _).drew.drew⟩
    · have hLL : L = kn := by rw [hL]; show max kn hz = kn; omega
      clear hL
      have hd : decide ((kn : Int) < (hz : Int)) = false := by simpa using hlt
      go_enter Tryz.func137, Tryz.ntmps137
      go_wp2
      go_region
      all_goals
        go_wp2
        refine bodyPost_ret (v := .agg #[.int .u64 (fr : Int), .int .u64 (L : Int)]) (by simp [results, Tryz.results137, go_sem, hLL]) rfl ⟨rfl, (kk _ _).drew⟩

set_option maxHeartbeats 1000000 in
theorem dahead (w : World) (x y : HeldE) :
    Calls Tryz.prog 168 #[.agg (heldC x).toArray, .agg (heldC y).toArray] w fun e w' => e = .returned (.bool (aheadB x y)) ∧ Kept (fun _ => False) w w' := by
  obtain ⟨⟨q, val, fr, till, op, kn⟩, us⟩ := x
  obtain ⟨⟨q2, val2, fr2, till2, op2, kn2⟩, us2⟩ := y
  unfold Go.Proofs.YtpfcacedpkaihaaGreat.heldC aheadB
  dsimp only
  have kk : ∀ (a c : Obj), Kept (fun _ => False) w ((w.alloc a).alloc c) := fun a c => (Kept.alloc w a (fun _ => False)).trans (Kept.alloc _ c (fun _ => False)) (fun _ => id) (fun _ _ => id)
  cases op <;> cases op2 <;>
  · go_enter Tryz.func168, Tryz.ntmps168
    go_wp2
    go_ret
    exact ⟨rfl, kk _ _⟩

set_option maxHeartbeats 1000000 in
theorem duse (w : World) (b k g ge j : Nat) (D : DevS) (nd : DNodeE) (x : HeldE) (h : Dev w b D) (hnd : D.nodes[k]? = some nd) (ho : D.vn.ownBlock = some g) (he : nd.en.ownBlock = some ge) (hx : nd.p.ents[j]? = some x) (hu : nd.p.uses < 9223372036854775808) :
    Calls Tryz.prog 136 #[.pointer (some ⟨g, k * 8, none⟩), .pointer (some ⟨ge, j * 7, none⟩)] w fun e w' => e = .returned (.tuple #[]) ∧ Hid (TurnsE w b D k (nd.p.use j x) nd.en w') := by
  have c5 : w.cell? ⟨g, k * 8 + 6, none⟩ = some (.int .u64 (nd.p.uses : Int)) := h.nodeC hnd ho 6 (by omega) _ rfl
  have f5 : w.frozen? ⟨g, k * 8 + 6, none⟩ = false := h.nodes.free ho _
  have e6 : w.cell? ⟨ge, j * 7 + 6, none⟩ = some (.int .u64 (x.used : Int)) := h.heldC hnd he hx 6 (by omega) _ rfl
  have ef := h.heldF hnd he (j * 7 + 6)
  have hne : g ≠ ge := fun e => (h.ents nd (List.mem_of_getElem? hnd)).ne_row h.nodes (by decide) ge he (by rw [ho, e])
  have hne2 := Ne.symm hne
  have HP : Hid (TurnsE w b D k (nd.p.use j x) nd.en ((w.setCell ⟨g, k * 8 + 6, none⟩ (.int .u64 ((nd.p.uses + 1 : Nat) : Int))).setCell ⟨ge, j * 7 + 6, none⟩ (.int .u64 ((nd.p.uses + 1 : Nat) : Int)))) := by
    obtain ⟨hj, hx'⟩ := List.getElem?_eq_some_iff.mp hx
    have s1 := h.cellN hnd ho 6 (by omega) (.int .u64 ((nd.p.uses + 1 : Nat) : Int)) (y := { nd with p := { nd.p with uses := nd.p.uses + 1 } }) rfl rfl
    have hnd1 := putN_at { nd with p := { nd.p with uses := nd.p.uses + 1 } } hnd
    have r1 := (s1.1.ents _ (List.mem_of_getElem? hnd1)).set (g := ge) he (j * 7 + 6) (.int .u64 ((nd.p.uses + 1 : Nat) : Int))
    rw [flat_set Go.Proofs.YtpfcacedpkaihaaGreat.heldC 7 (fun _ => rfl) nd.p.ents j hj 6 (by omega) _ { x with used := nd.p.uses + 1 } (by rw [hx']; rfl)] at r1
    have s2 := s1.1.turnEnts hnd1 (nd.p.ents.set j { x with used := nd.p.uses + 1 }) ((Kept.setCell _ ⟨ge, j * 7 + 6, none⟩ _).mono fun i hi => by rw [hi]; exact he) (by rw [List.length_set]; exact r1)
    have s3 := s1.trans s2
    rw [putN_putN] at s3
    exact ⟨{ nd with p := nd.p.use j x }, rfl, rfl, s3⟩
  clear h hnd ho he hx
  go_enter Tryz.func136, Tryz.ntmps136
  go_wp2
  go_end0
  refine ⟨rfl, ?_⟩
  have := HP.out
  show TurnsE _ _ _ _ _ _ _
  simpa using this

end Go.Proofs.YtpfcacedpkaihaaGreat

/- The program's nodes (package memory): merge, walked. -/
namespace Go.Proofs.YtpfcacedpkaihaaGreat
open Go.RowKit

/-- a cell of an entry in a row of entries is written. -/
theorem Row.held {W : World} {v : Value} {ge n j f : Nat} {l : List HeldE} {x y : HeldE} {u : Value} (h : Row W 227 7 v n (l.flatMap Go.Proofs.YtpfcacedpkaihaaGreat.heldC)) (hg : v.ownBlock = some ge) (hx : l[j]? = some x) (hf : f < 7) (hy : Go.Proofs.YtpfcacedpkaihaaGreat.heldC y = (Go.Proofs.YtpfcacedpkaihaaGreat.heldC x).set f u) :
    Row (W.setCell ⟨ge, j * 7 + f, none⟩ u) 227 7 v n ((l.set j y).flatMap Go.Proofs.YtpfcacedpkaihaaGreat.heldC) := by
  obtain ⟨hj, hx'⟩ := List.getElem?_eq_some_iff.mp hx
  have := h.set hg (j * 7 + f) u
  rw [flat_set Go.Proofs.YtpfcacedpkaihaaGreat.heldC 7 (fun _ => rfl) l j hj f hf u y (by rw [hx']; exact hy)] at this
  exact this

set_option maxRecDepth 100000 in
set_option maxHeartbeats 1000000 in
theorem dmerge (w : World) (b k ge j : Nat) (D : DevS) (nd : DNodeE) (x : HeldE) (p : EntE) (h : Dev w b D) (hnd : D.nodes[k]? = some nd) (he : nd.en.ownBlock = some ge) (hx : nd.p.ents[j]? = some x) :
    Calls Tryz.prog 144 #[.pointer (some ⟨ge, j * 7, none⟩), .agg #[.string p.q, .int .i32 p.val, .int .u64 (p.fr : Int), .int .u64 (p.till : Int), .bool p.op, .int .u64 (p.kn : Int)]] w fun e w' => e = .returned (.tuple #[]) ∧ Hid (TurnsE w b D k (nd.p.merge j x p) nd.en w') := by
  have hgl : ge < w.heap.size := (h.ents nd (List.mem_of_getElem? hnd)).lt ge he
  have hg0 : ge ≠ w.heap.size := Nat.ne_of_lt hgl
  have hg1 := Ne.symm hg0
  have hj := (List.getElem?_eq_some_iff.mp hx).1
  have HT : Hid (∀ (W : World) (y : HeldE), Kept (fun i => i = ge) w W → Row W 227 7 nd.en nd.p.ents.length ((nd.p.ents.set j y).flatMap Go.Proofs.YtpfcacedpkaihaaGreat.heldC) → y = ⟨mergedE x.e p, x.used⟩ → TurnsE w b D k (nd.p.merge j x p) nd.en W) := fun W y hk hr hy => by
    subst hy
    exact ⟨{ nd with p := nd.p.merge j x p }, rfl, rfl, h.turnEnts hnd _ (hk.mono fun i hi => by rw [hi]; exact he) (by rw [List.length_set]; exact hr)⟩
  have HR0 : Hid (∀ o, Row (w.alloc o) 227 7 nd.en nd.p.ents.length (nd.p.ents.flatMap Go.Proofs.YtpfcacedpkaihaaGreat.heldC)) := fun o => (h.ents nd (List.mem_of_getElem? hnd)).kept (Kept.alloc w o (fun _ => False)) (fun _ _ => id)
  have HRW : Hid (Row w 227 7 nd.en nd.p.ents.length (nd.p.ents.flatMap Go.Proofs.YtpfcacedpkaihaaGreat.heldC)) := h.ents nd (List.mem_of_getElem? hnd)
  have HK0 : Hid (∀ o, Kept (fun i => i = ge) w (w.alloc o)) := fun o => Kept.alloc w o _
  have HX : Hid (nd.p.ents[j]? = some x ∧ nd.en.ownBlock = some ge ∧ j < nd.p.ents.length) := ⟨hx, he, hj⟩
  have e3 : w.cell? ⟨ge, j * 7 + 3, none⟩ = some (.int .u64 (x.e.till : Int)) := h.heldC hnd he hx 3 (by omega) _ rfl
  have e4 : w.cell? ⟨ge, j * 7 + 4, none⟩ = some (.bool x.e.op) := h.heldC hnd he hx 4 (by omega) _ rfl
  have e5 : w.cell? ⟨ge, j * 7 + 5, none⟩ = some (.int .u64 (x.e.kn : Int)) := h.heldC hnd he hx 5 (by omega) _ rfl
  have ef : ∀ f, w.frozen? ⟨ge, f, none⟩ = false := fun f => h.heldF hnd he f
  have st : ∀ {W : World} (f : Nat) (u : Value), Kept (fun i => i = ge) w W → Kept (fun i => i = ge) w (W.setCell ⟨ge, f, none⟩ u) := fun f u hk => hk.trans (Kept.setCell _ ⟨ge, f, none⟩ u) (fun _ => id) (fun _ _ hk => hk)
  have HST : Hid (∀ {W : World} (f : Nat) (u : Value), Kept (fun i => i = ge) w W → Kept (fun i => i = ge) w (W.setCell ⟨ge, f, none⟩ u)) := st
  clear h hnd he hx st hj
  obtain ⟨⟨xq, xv, xf, xt, xo, xk⟩, us⟩ := x
  obtain ⟨pq, pv, pf, pt, po, pk⟩ := p
  dsimp only at *
  by_cases hk : xk < pk
  · have hd : decide ((xk : Int) < (pk : Int)) = true := by simpa using hk
    have hmx : max xk pk = pk := by omega
    have hcase : (xo = true ∧ po = false) ∨ ¬ (xo = true ∧ po = false) := Classical.em _
    rcases hcase with ⟨rfl, rfl⟩ | hno
    · go_enter Tryz.func144, Tryz.ntmps144
      go_wp2_with fail
      go_quiet (fail)
      go_wp2
      go_end0
      refine ⟨rfl, HT.out _ ⟨⟨xq, xv, xf, pt, false, pk⟩, us⟩ ?_ ?_ ?_⟩
      · exact HST.out _ _ (((HST.out _ _ (HST.out _ _ (Kept.refl _ _))).allocNew _).drewN _)
      · have r1 := HRW.out.held (y := ⟨⟨xq, xv, xf, xt, false, xk⟩, us⟩) (u := .bool false) HX.out.2.1 HX.out.1 (f := 4) (by omega) rfl
        have r2 := r1.held (y := ⟨⟨xq, xv, xf, pt, false, xk⟩, us⟩) (u := .int .u64 (pt : Int)) HX.out.2.1 (List.getElem?_set_self HX.out.2.2) (f := 3) (by omega) rfl
        rw [List.set_set] at r2
        have r4 : ∀ (o : Obj) (n : Nat), Row ((((((w.setCell ⟨ge, j * 7 + 4, none⟩ (.bool false)).setCell ⟨ge, j * 7 + 3, none⟩ (.int .u64 (pt : Int))).alloc o).drewN n)).setCell ⟨ge, j * 7 + 5, none⟩ (.int .u64 (pk : Int))) 227 7 nd.en nd.p.ents.length ((nd.p.ents.set j ⟨⟨xq, xv, xf, pt, false, pk⟩, us⟩).flatMap Go.Proofs.YtpfcacedpkaihaaGreat.heldC) := fun o n => by
          have q1 := r2.kept (Kept.alloc _ o (fun _ => False)) (fun _ _ => id)
          have q2 : Row ((((w.setCell ⟨ge, j * 7 + 4, none⟩ (.bool false)).setCell ⟨ge, j * 7 + 3, none⟩ (.int .u64 (pt : Int))).alloc o).drewN n) 227 7 nd.en nd.p.ents.length ((nd.p.ents.set j ⟨⟨xq, xv, xf, pt, false, xk⟩, us⟩).flatMap Go.Proofs.YtpfcacedpkaihaaGreat.heldC) := q1.same (fun _ _ => rfl)
          have q3 := q2.held (x := ⟨⟨xq, xv, xf, pt, false, xk⟩, us⟩) (y := ⟨⟨xq, xv, xf, pt, false, pk⟩, us⟩) (u := .int .u64 (pk : Int)) HX.out.2.1 (List.getElem?_set_self HX.out.2.2) (f := 5) (by omega) rfl
          rw [List.set_set] at q3
          exact q3
        exact r4 _ _
      · simp [mergedE, hmx]
    · have hmm : mergedE ⟨xq, xv, xf, xt, xo, xk⟩ ⟨pq, pv, pf, pt, po, pk⟩ = ⟨xq, xv, xf, xt, xo, pk⟩ := by
        cases xo <;> cases po <;> simp_all [mergedE]
      have HM : Hid (mergedE ⟨xq, xv, xf, xt, xo, xk⟩ ⟨pq, pv, pf, pt, po, pk⟩ = ⟨xq, xv, xf, xt, xo, pk⟩) := hmm
      have hB : xo = false ∨ (xo = true ∧ po = true) := by cases xo <;> cases po <;> simp_all
      clear hmm hno
      rcases hB with rfl | ⟨rfl, rfl⟩ <;>
      · go_enter Tryz.func144, Tryz.ntmps144
        go_wp2_with fail
        go_quiet (fail)
        go_wp2
        go_end0
        refine ⟨rfl, HT.out _ _ ?_ ?_ (by rw [HM.out])⟩
        · exact HST.out _ _ ((HK0.out _).drewN _)
        · exact ((HR0.out _).same (w' := World.drewN _ _) (fun _ _ => rfl)).held (u := .int .u64 (pk : Int)) HX.out.2.1 HX.out.1 (f := 5) (by omega) rfl
  · have hd : decide ((xk : Int) < (pk : Int)) = false := by simpa using hk
    have hmx : max xk pk = xk := by omega
    have hcase : (xo = true ∧ po = false) ∨ ¬ (xo = true ∧ po = false) := Classical.em _
    rcases hcase with ⟨rfl, rfl⟩ | hno
    · go_enter Tryz.func144, Tryz.ntmps144
      go_wp2_with fail
      go_quiet (fail)
      go_wp2
      go_end0
      refine ⟨rfl, HT.out _ ⟨⟨xq, xv, xf, pt, false, xk⟩, us⟩ ?_ ?_ ?_⟩
      · exact ((HST.out _ _ (HST.out _ _ (Kept.refl _ _))).allocNew _).drewN _
      · have r1 := HRW.out.held (y := ⟨⟨xq, xv, xf, xt, false, xk⟩, us⟩) (u := .bool false) HX.out.2.1 HX.out.1 (f := 4) (by omega) rfl
        have r2 := r1.held (y := ⟨⟨xq, xv, xf, pt, false, xk⟩, us⟩) (u := .int .u64 (pt : Int)) HX.out.2.1 (List.getElem?_set_self HX.out.2.2) (f := 3) (by omega) rfl
        rw [List.set_set] at r2
        exact (r2.kept (Kept.alloc _ _ (fun _ => False)) (fun _ _ => id)).same (fun _ _ => rfl)
      · simp [mergedE, hmx]
    · have hmm : mergedE ⟨xq, xv, xf, xt, xo, xk⟩ ⟨pq, pv, pf, pt, po, pk⟩ = ⟨xq, xv, xf, xt, xo, xk⟩ := by
        cases xo <;> cases po <;> simp_all [mergedE]
      have HM : Hid (mergedE ⟨xq, xv, xf, xt, xo, xk⟩ ⟨pq, pv, pf, pt, po, pk⟩ = ⟨xq, xv, xf, xt, xo, xk⟩) := hmm
      have hB : xo = false ∨ (xo = true ∧ po = true) := by cases xo <;> cases po <;> simp_all
      clear hmm hno
      rcases hB with rfl | ⟨rfl, rfl⟩ <;>
      · go_enter Tryz.func144, Tryz.ntmps144
        go_wp2_with fail
        go_quiet (fail)
        go_wp2
        go_end0
        refine ⟨rfl, HT.out _ _ ?_ ?_ (by rw [HM.out])⟩
        · exact (HK0.out _).drewN _
        · rw [set_self' HX.out.1]
          exact (HR0.out _).same (fun _ _ => rfl)

end Go.Proofs.YtpfcacedpkaihaaGreat
