import Derived.Test.YtpfcacedpkaihaaGreatC33
import Derived.Test.YtpfcacedpkaihaaGreatC26
namespace Go.Proofs.YtpfcacedpkaihaaGreat
open Go.RowKit
set_option maxRecDepth 100000
set_option maxHeartbeats 16000000
def RefS.spanR (R : RefS) (j : Nat) (x : RdrE) (lo hi : Nat) : RefS := { R with rdrs := R.rdrs.set j { x with lo := lo, hi := hi } }
theorem Ref.spanR {w : World} {b : Nat} {R : RefS} (h : Ref w b R) (j g : Nat) (x : RdrE) (lo hi : Nat) (hx : R.rdrs[j]? = some x) (ho : R.vr.ownBlock = some g) :
 Became w b R ((w.setCell ⟨g, j * 3, none⟩ (.int .u64 (lo : Int))).setCell ⟨g, j * 3 + 1, none⟩ (.int .u64 (hi : Int))) (R.spanR j x lo hi) := by
 have k : Kept (fun i => i = g) w ((w.setCell ⟨g, j * 3, none⟩ (.int .u64 (lo : Int))).setCell ⟨g, j * 3 + 1, none⟩ (.int .u64 (hi : Int))) := (Kept.setCell w ⟨g, j * 3, none⟩ _).trans (Kept.setCell _ ⟨g, j * 3 + 1, none⟩ _) (fun _ => id) (fun _ _ => id)
 obtain ⟨hj, hx'⟩ := List.getElem?_eq_some_iff.mp hx
 have e1 : (R.rdrs.flatMap rdrC).set (j * 3 + 0) (.int .u64 (lo : Int)) = (R.rdrs.set j { x with lo := lo }).flatMap rdrC :=
  flat_set rdrC 3 (fun _ => rfl) R.rdrs j hj 0 (by omega) (.int .u64 (lo : Int)) { x with lo := lo } (by rw [hx']; rfl)
 have e2 : ((R.rdrs.set j { x with lo := lo }).flatMap rdrC).set (j * 3 + 1) (.int .u64 (hi : Int)) = ((R.rdrs.set j { x with lo := lo }).set j { x with lo := lo, hi := hi }).flatMap rdrC :=
  flat_set rdrC 3 (fun _ => rfl) _ j (by rw [List.length_set]; exact hj) 1 (by omega) (.int .u64 (hi : Int)) { x with lo := lo, hi := hi } (by rw [List.getElem_set_self]; rfl)
 rw [List.set_set] at e2
 refine ⟨h.turn 1 ⟨162, 3, R.vr, R.rdrs.length, R.rdrs.flatMap rdrC⟩ ⟨162, 3, R.vr, (R.rdrs.set j { x with lo := lo, hi := hi }).length, (R.rdrs.set j { x with lo := lo, hi := hi }).flatMap rdrC⟩ rfl (k.mono fun i hi => by show R.vr.ownBlock = some i; rw [ho, hi]) ?_ rfl rfl rfl, k.mono fun i hi => fp_vr (by rw [ho, hi]), fun y hy => .inl ?_⟩
 · show Row _ _ 3 R.vr (R.rdrs.set j _).length ((R.rdrs.set j _).flatMap rdrC)
   rw [List.length_set, ← e2, ← e1]
   exact (h.rdrs.set ho _ _).set ho _ _
 · rcases hy with hy | ⟨r, hr, hy⟩
   · exact .inl hy
   · simp only [RefS.rows, List.mem_cons] at hr
     rcases hr with rfl | rfl | rfl | rfl | rfl | hr
     · exact fp_vp hy
     · exact fp_vr hy
     · exact fp_vn hy
     · exact .inr ⟨_, List.mem_of_getElem? (i := 3) rfl, hy⟩
     · exact .inr ⟨_, List.mem_of_getElem? (i := 4) rfl, hy⟩
     · exact .inr ⟨r, by simp only [RefS.rows, List.mem_cons]; exact .inr (.inr (.inr (.inr (.inr hr)))), hy⟩
theorem Tryz.infoInt : (Tryz.prog.info? 3).map (fun i => (i.zero, i.size, i.bytes)) = some (some (.int .i64 0), 1, 8) := by kernel_rfl
theorem news_one (w : World) (a : Value) (t : TypeId) : ∀ j u, [a][j]? = some u → (w.alloc (.cells #[a] t)).cell? ((⟨w.heap.size, 0, none⟩ : Addr).add j) = some u := by
 intro j u hj
 match j, hj with
 | 0, hj => simp at hj; subst hj; simp [Addr.add]
 | j + 1, hj => simp at hj
theorem oneCell_int (a : Int) : ∀ u ∈ [Value.int .i64 a], u.oneCell' = true := by intro u hu; simp at hu; subst hu; rfl
theorem app_of {w w' : World} {o : Obj} {e : TypeId} {size : Nat} {v v' : Value} {n m : Nat} {xs news : List Value} (h : Appended ((w.alloc o).drew) w' e size v v' n m xs news) : Appended w w' e size v v' n m xs news := by
 have ka := (Kept.alloc w o (fun _ => False)).drew
 refine ⟨h.row, ka.trans h.kept (fun _ => False.elim) (fun _ _ => id), ?_⟩
 rcases h.own with e | e
 · exact .inl e
 · exact .inr fun k hk => Nat.le_trans ka.size (e k hk)
theorem use_in {W w' : World} {b N ge o1 : Nat} {R : RefS} {v' c5 val : Value} {news xs : List Value} {n : Nat} {o : Obj} (h : Ref W b R) (hN : ¬ R.fp b N) (n5 : W.cell? ⟨N, 5, none⟩ = some c5) (hge : R.vs.ownBlock ≠ some ge) (e1 : W.cell? ⟨ge, o1, none⟩ = some val) (hA : Appended ((W.alloc o).drew) w' 3 1 R.vs v' n 1 xs news) :
 w'.cell? ⟨b, 6, none⟩ = some R.vs ∧ w'.frozen? ⟨b, 6, none⟩ = false ∧ w'.cell? ⟨N, 5, none⟩ = some c5 ∧ w'.cell? ⟨ge, o1, none⟩ = some val ∧ Appended W w' 3 1 R.vs v' n 1 xs news := by
 have hk : Kept (fun x => R.vs.ownBlock = some x) W w' := (((Kept.alloc W o (fun _ => False)).drew).trans hA.kept (fun _ => False.elim) (fun _ _ => id))
 have blk1 := h.blk.kept hk fun e => h.uses.ne_block h.blk (by decide) e
 exact ⟨by rw [blk1.cell 6]; rfl, blk1.free 6, hk.keep (fun e => hN (.inr ⟨_, List.mem_of_getElem? (i := 4) rfl, e⟩)) n5, hk.keep hge e1, app_of hA⟩
def HitPost (w : World) (b : Nat) (R : RefS) (j : Nat) (x : RdrE) (y : EntE) (hz : Nat) (nm : Int) (e : Ending) (w' : World) : Prop :=
 e = .returned (.tuple #[.int .i32 y.val, .bool true, .int .i64 0]) ∧ ∃ v, Became w b R w' ((R.spanR j x (max x.lo y.fr) (min x.hi (lastE y hz))).pushUse nm v)
theorem wread_hit (w : World) (b : Nat) (R : RefS) (j i : Nat) (q : ByteArray) (x : RdrE) (nd : NodeE) (y : EntE) (nm : Int) (K : Int) (val : PastE → Int) (h : Ref w b R) (hf : R.Fit) (hx : R.rdrs[j]? = some x) (hne : x.ended = false)
 (hq : q.size ≤ 40) (hnd : R.nodes[sumB q.data.toList % R.nodes.length]? = some nd) (hel : nd.ents.length ≤ 1000) (hfi : ∀ e ∈ nd.ents, e.Fit) (han : ansN nd.up nd.horizon q x.lo x.hi nd.ents nd.ents.length = (i : Int)) (hy : nd.ents[i]? = some y) (hnm : nd.nms[i]? = some nm) (hus : (R.uses.length + 1) * 8 ≤ 140737488355328)
 (hrd : Calls Tryz.prog 72 #[.string q] w fun e w' => ∃ l, e = .returned (.tuple #[l, .int .i64 0]) ∧ Below w.heap.size w w' ∧ Taken w' l K val) :
 Calls Tryz.prog 39 #[.pointer (some ⟨b, 0, none⟩), .int .i64 j, .string q] w fun e w' => HitPost w b R j x y nd.horizon nm e w' := by
 obtain ⟨hj, hx'⟩ := List.getElem?_eq_some_iff.mp hx
 have hrm := hf.rmax
 have hg : goneB R.rdrs j = false := by
  have a : ¬ (j : Int) < 0 := by omega
  have c : ¬ (R.rdrs.length : Int) ≤ (j : Int) := by omega
  simp [goneB, a, hx, hne]; omega
 have HG := rgone w b R j h hf
 rw [hg] at HG
 have HG' : Hid (Calls Tryz.prog 86 #[.pointer (some ⟨b, 0, none⟩), .int .i64 j] w fun e w' => e = .returned (.bool false) ∧ w = w') := HG
 have HRD : Hid (Calls Tryz.prog 72 #[.string q] w fun e w' => ∃ l, e = .returned (.tuple #[l, .int .i64 0]) ∧ Below w.heap.size w w' ∧ Taken w' l K val) := hrd
 have HR : Hid (∀ W, Below w.heap.size w W → Ref W b R) := fun W hb => h.kept (Kept.of_below hb (fun _ => False)) fun _ _ => id
 obtain ⟨k, hk⟩ : ∃ k, k = sumB q.data.toList % R.nodes.length := ⟨_, rfl⟩
 rw [← hk] at hnd
 obtain ⟨hkl, hnd'⟩ := List.getElem?_eq_some_iff.mp hnd
 have hnmx := hf.nmax
 obtain ⟨gr, capr, hvr, hor, _⟩ := h.rdrs.block (by omega)
 obtain ⟨gn, capn, hvn, hon, _⟩ := h.nodes.block (by omega)
 have HNO : Hid (∀ W : World, W.cell? ⟨b, 3, none⟩ = some (.slice (some ⟨gn, 0, none⟩) R.nodes.length capn) → Calls Tryz.prog 93 #[.pointer (some ⟨b, 0, none⟩), .string q] W fun e w' => e = .returned (.int .i64 (k : Int)) ∧ W = w') := fun W hc => by rw [hk]; exact rnodeOf_c W b _ R.nodes.length capn q hc (by omega) hnmx hq
 obtain ⟨hil, hy'⟩ := List.getElem?_eq_some_iff.mp hy
 obtain ⟨hml, hnm'⟩ := List.getElem?_eq_some_iff.mp hnm
 obtain ⟨ge, ce, hev', hoe, _⟩ := (h.ents nd (List.mem_of_getElem? hnd)).block (by omega)
 obtain ⟨af, cf, hfv, _⟩ := (h.fls nd (List.mem_of_getElem? hnd)).form
 obtain ⟨aw, cw, hwv, _⟩ := (h.wts nd (List.mem_of_getElem? hnd)).form
 obtain ⟨gm, cm, hmv, hom, _⟩ := (h.nms nd (List.mem_of_getElem? hnd)).block (by omega)
 have HEN : Hid (∀ W R1, Ref W b R1 → R1.nodes = R.nodes → (W.cell? ⟨ge, i * 6, none⟩ = some (.string y.q) ∧ W.cell? ⟨ge, i * 6 + 1, none⟩ = some (.int .i32 y.val) ∧ W.cell? ⟨ge, i * 6 + 2, none⟩ = some (.int .u64 (y.fr : Int)) ∧ W.cell? ⟨ge, i * 6 + 3, none⟩ = some (.int .u64 (y.till : Int)) ∧ W.cell? ⟨ge, i * 6 + 4, none⟩ = some (.bool y.op) ∧ W.cell? ⟨ge, i * 6 + 5, none⟩ = some (.int .u64 (y.kn : Int))) ∧ W.cell? ⟨gm, i, none⟩ = some (.int .i64 nm)) := fun W R1 hr hR1 => by
  have hmm : nd ∈ R1.nodes := by rw [hR1]; exact List.mem_of_getElem? hnd
  have hc : ∀ f, f < 6 → ∀ u, (entC y)[f]? = some u → W.cell? ⟨ge, i * 6 + f, none⟩ = some u := fun f hf u hu => (hr.ents nd hmm).cell hoe _ u (by rw [ent_at nd.ents i hil f hf, hy']; exact hu)
  exact ⟨⟨hc 0 (by omega) _ rfl, hc 1 (by omega) _ rfl, hc 2 (by omega) _ rfl, hc 3 (by omega) _ rfl, hc 4 (by omega) _ rfl, hc 5 (by omega) _ rfl⟩, (hr.nms nd hmm).cell hom i _ (by rw [i64s, List.getElem?_map, hnm]; rfl)⟩
 have hyf : y.Fit := hfi y (List.mem_of_getElem? hy)
 have HC : Hid (∀ W, Below w.heap.size w W → W.cell? ⟨b, 2, none⟩ = some (.slice (some ⟨gr, 0, none⟩) R.rdrs.length capr) ∧ W.cell? ⟨b, 3, none⟩ = some (.slice (some ⟨gn, 0, none⟩) R.nodes.length capn) ∧ W.cell? ⟨gr, j * 3, none⟩ = some (.int .u64 (x.lo : Int)) ∧ W.cell? ⟨gr, j * 3 + 1, none⟩ = some (.int .u64 (x.hi : Int)) ∧
  W.cell? ⟨gn, k * 7, none⟩ = some (.bool nd.up) ∧ W.cell? ⟨gn, k * 7 + 1, none⟩ = some (.int .u64 (nd.since : Int)) ∧ W.cell? ⟨gn, k * 7 + 2, none⟩ = some (.int .u64 (nd.horizon : Int)) ∧ W.cell? ⟨gn, k * 7 + 3, none⟩ = some (.slice af nd.fls.length cf) ∧ W.cell? ⟨gn, k * 7 + 4, none⟩ = some (.slice aw nd.wts.length cw) ∧ W.cell? ⟨gn, k * 7 + 5, none⟩ = some (.slice (some ⟨ge, 0, none⟩) nd.ents.length ce) ∧ W.cell? ⟨gn, k * 7 + 6, none⟩ = some (.slice (some ⟨gm, 0, none⟩) nd.nms.length cm)) := by
  intro W hb
  have hr := HR.out W hb
  have hc : ∀ f, f < 3 → ∀ u, (rdrC x)[f]? = some u → W.cell? ⟨gr, j * 3 + f, none⟩ = some u := fun f hf u hu => hr.rdrs.cell hor _ u (by rw [rdr_at R.rdrs j hj f hf, hx']; exact hu)
  have hn : ∀ f, f < 7 → ∀ u, (nodeC nd)[f]? = some u → W.cell? ⟨gn, k * 7 + f, none⟩ = some u := fun f hf u hu => hr.nodes.cell hon _ u (by rw [node_at R.nodes k hkl f hf, hnd']; exact hu)
  exact ⟨by rw [hr.c2, hvr], by rw [hr.c3, hvn], hc 0 (by omega) _ rfl, hc 1 (by omega) _ rfl, hn 0 (by omega) _ rfl, hn 1 (by omega) _ rfl, hn 2 (by omega) _ rfl, by rw [← hfv]; exact hn 3 (by omega) _ rfl, by rw [← hwv]; exact hn 4 (by omega) _ rfl, by rw [← hev']; exact hn 5 (by omega) _ rfl, by rw [← hmv]; exact hn 6 (by omega) _ rfl⟩
 have HANS : Hid (∀ W, Below w.heap.size w W → Calls Tryz.prog 94 #[.agg #[.bool nd.up, .int .u64 (nd.since : Int), .int .u64 (nd.horizon : Int), .slice af nd.fls.length cf, .slice aw nd.wts.length cw, .slice (some ⟨ge, 0, none⟩) nd.ents.length ce, .slice (some ⟨gm, 0, none⟩) nd.nms.length cm], .string q, .agg #[.int .u64 (x.lo : Int), .int .u64 (x.hi : Int)]] W fun e w' => e = .returned (.int .i64 (i : Int)) ∧ Below W.heap.size W w') := fun W hb => by
  have := ranswer_any W b R nd q x.lo x.hi (HR.out W hb) (List.mem_of_getElem? hnd) hel hfi (hf.fmax nd (List.mem_of_getElem? hnd)).2.1
  rw [han, hfv, hwv, hev', hmv] at this
  exact this
 have HFit : Hid R.Fit := hf
 have hzz := (hf.fmax nd (List.mem_of_getElem? hnd)).2.1
 obtain ⟨L, hL⟩ : ∃ L, L = lastE y nd.horizon := ⟨_, rfl⟩
 have HLA : Hid (∀ W, Calls Tryz.prog 96 #[.agg #[.string y.q, .int .i32 y.val, .int .u64 (y.fr : Int), .int .u64 (y.till : Int), .bool y.op, .int .u64 (y.kn : Int)], .int .u64 (nd.horizon : Int)] W fun e w' => e = .returned (.int .u64 (L : Int)) ∧ (∀ b f, b < W.heap.size → w'.cell? ⟨b, f, none⟩ = W.cell? ⟨b, f, none⟩) ∧ (∀ b f, b < W.heap.size → w'.frozen? ⟨b, f, none⟩ = W.frozen? ⟨b, f, none⟩) ∧ W.heap.size ≤ w'.heap.size ∧ Hid (Kept (fun _ => False) W w')) := fun W => by
  rw [hL]
  refine (rlast W (.string y.q) y.val y.fr y.till y.kn nd.horizon y.op ⟨_, rfl⟩ hyf.1 ⟨hyf.2.1, hyf.2.2, hzz⟩).mono fun e w' hp => ?_
  obtain ⟨e1, hb⟩ := hp
  exact ⟨e1, fun b f hbl => World.cell?_of_block (a := ⟨b, f, none⟩) (hb.block b hbl), fun b f hbl => World.frozen?_of_block (a := ⟨b, f, none⟩) (hb.block b hbl), hb.size, Kept.of_below hb _⟩
 obtain ⟨m1, hm1⟩ : ∃ m1, m1 = max x.lo y.fr := ⟨_, rfl⟩
 obtain ⟨m2, hm2⟩ : ∃ m2, m2 = min x.hi L := ⟨_, rfl⟩
 obtain ⟨mb, hmb⟩ : ∃ mb, mb = decide (((max x.lo y.fr : Nat) : Int) ≤ ((min x.hi L : Nat) : Int)) := ⟨_, rfl⟩
 have HLB : Hid (∀ W, Calls Tryz.prog 95 #[.agg #[.int .u64 (x.lo : Int), .int .u64 (x.hi : Int)], .agg #[.int .u64 (y.fr : Int), .int .u64 (L : Int)]] W fun e w' => e = .returned (.tuple #[.agg #[.int .u64 (m1 : Int), .int .u64 (m2 : Int)], .bool mb]) ∧ (∀ b f, b < W.heap.size → w'.cell? ⟨b, f, none⟩ = W.cell? ⟨b, f, none⟩) ∧ (∀ b f, b < W.heap.size → w'.frozen? ⟨b, f, none⟩ = W.frozen? ⟨b, f, none⟩) ∧ W.heap.size ≤ w'.heap.size ∧ Hid (Kept (fun _ => False) W w')) := fun W => by
  rw [hmb, hm1, hm2]
  refine (rboth W x.lo x.hi y.fr L).mono fun e w' hp => ?_
  obtain ⟨e1, hb⟩ := hp
  exact ⟨e1, fun b f hbl => World.cell?_of_block (a := ⟨b, f, none⟩) (hb.block b hbl), fun b f hbl => World.frozen?_of_block (a := ⟨b, f, none⟩) (hb.block b hbl), hb.size, Kept.of_below hb _⟩
 have HPO : Hid (∀ W v, Became w b R W ((R.spanR j x m1 m2).pushUse nm v) → HitPost w b R j x y nd.horizon nm (.returned (.tuple #[.int .i32 y.val, .bool true, .int .i64 0])) W) := fun W v hB => ⟨rfl, v, by rw [← hL, ← hm1, ← hm2]; exact hB⟩
 have HX : Hid (R.rdrs[j]? = some x ∧ R.vr.ownBlock = some gr) := ⟨hx, hor⟩
 have HH : Hid (Ref w b R) := h
 have HGE : Hid (nd.en.ownBlock = some ge ∧ nd ∈ R.nodes) := ⟨hoe, List.mem_of_getElem? hnd⟩
 clear HG h hf hg hrd hx hx' hnd hnd' hev' hfv hwv hmv hvr hvn hfi han hk hne hy hnm hy' hnm' hyf hL hm1 hm2 hmb hoe hom
 go_enter Tryz.func39, Tryz.ntmps39
 go_wp2_with first
  | (go_at_call 86; refine HG'.out.mono ?_; rintro e w' ⟨rfl, rfl⟩)
  | (go_at_call 72; refine HRD.out.mono ?_; rintro e w1 ⟨l, rfl, hb1, ht1⟩; obtain ⟨lo, ln, lc, rfl⟩ := ht1.form; have HB1 : Hid (Below w.heap.size w w1 ∧ Taken w1 (.slice lo ln lc) K val) := ⟨hb1, ht1⟩; obtain ⟨c2, c3, x0, x1, n0, n1, n2, n3, n4, n5, n6⟩ := HC.out w1 hb1; clear hb1 ht1)
 have HB2 : Hid (Below w.heap.size w (w1.alloc (.cells #[.int .u64 (x.lo : Int), .int .u64 (x.hi : Int)] 88)) ∧ Blk (w1.alloc (.cells #[.int .u64 (x.lo : Int), .int .u64 (x.hi : Int)] 88)) w1.heap.size 88 #[.int .u64 (x.lo : Int), .int .u64 (x.hi : Int)] ∧ Below w1.heap.size w1 (w1.alloc (.cells #[.int .u64 (x.lo : Int), .int .u64 (x.hi : Int)] 88)) ∧ w1.heap.size < (w1.alloc (.cells #[.int .u64 (x.lo : Int), .int .u64 (x.hi : Int)] 88)).heap.size) :=
  ⟨HB1.out.1.alloc HB1.out.1.size _, Blk.new _ _ _, (Below.refl _ _).alloc (Nat.le_refl _) _, by simp⟩
 clear c2 c3 x0 x1 n0 n1 n2 n3 n4 n5 n6
 generalize w1.alloc (.cells #[.int .u64 (x.lo : Int), .int .u64 (x.hi : Int)] 88) = W2 at HB2 ⊢
 obtain ⟨c2, c3, x0, x1, n0, n1, n2, n3, n4, n5, n6⟩ := HC.out W2 HB2.out.1
 have hk3 : (k : Int) < (R.nodes.length : Int) := by omega
 have hk0 : (0 : Int) ≤ (k : Int) := by omega
 have y3 := World.new_ne W2 _ c3
 have y4 := World.new_ne W2 _ n0
 have y5 := World.new_ne W2 _ n1
 have y6 := World.new_ne W2 _ n2
 have y7 := World.new_ne W2 _ n3
 have y8 := World.new_ne W2 _ n4
 have y9 := World.new_ne W2 _ n5
 have y10 := World.new_ne W2 _ n6
 go_cut [13] (fun v wx => ∃ N, v = .pointer (some ⟨N, 0, none⟩) ∧ W2.heap.size ≤ N ∧ Hid (Below W2.heap.size W2 wx ∧ Blk wx N 146 #[.bool nd.up, .int .u64 (nd.since : Int), .int .u64 (nd.horizon : Int), .slice af nd.fls.length cf, .slice aw nd.wts.length cw, .slice (some ⟨ge, 0, none⟩) nd.ents.length ce, .slice (some ⟨gm, 0, none⟩) nd.nms.length cm]))
 case first =>
  go_region_held3 (fun w' => w'.cell? ⟨b, 3, none⟩ = some (.slice (some ⟨gn, 0, none⟩) R.nodes.length capn) ∧ w'.cell? ⟨gn, k * 7, none⟩ = some (.bool nd.up) ∧ w'.cell? ⟨gn, k * 7 + 1, none⟩ = some (.int .u64 (nd.since : Int)) ∧ w'.cell? ⟨gn, k * 7 + 2, none⟩ = some (.int .u64 (nd.horizon : Int)) ∧ w'.cell? ⟨gn, k * 7 + 3, none⟩ = some (.slice af nd.fls.length cf) ∧ w'.cell? ⟨gn, k * 7 + 4, none⟩ = some (.slice aw nd.wts.length cw) ∧ w'.cell? ⟨gn, k * 7 + 5, none⟩ = some (.slice (some ⟨ge, 0, none⟩) nd.ents.length ce) ∧ w'.cell? ⟨gn, k * 7 + 6, none⟩ = some (.slice (some ⟨gm, 0, none⟩) nd.nms.length cm)) (go_keep) ((go_at_call 93; refine (HNO.out _ ?_).mono ?_; (simp [*]); rintro e w' ⟨rfl, rfl⟩))
  all_goals
   go_wp2
   go_meet
   case rel => exact ⟨_, rfl, Nat.le_refl _, ((Below.refl _ _).alloc (Nat.le_refl _) _).drew, Blk.same (Blk.new W2 _ _) rfl⟩
 case rest =>
  obtain ⟨N, rfl, hN, HCN⟩ := hcut
  clear c2 c3 x0 x1 n0 n1 n2 n3 n4 n5 n6 y3 y4 y5 y6 y7 y8 y9 y10
  have HG4 : Hid (Reading w w1 wc x) := Reading.next ⟨HB2.out.1, HB2.out.2.2.1, HB2.out.2.1, HB2.out.2.2.2⟩ HCN.out.1
  have m0 : wc.cell? ⟨N, 0, none⟩ = some (.bool nd.up) := HCN.out.2.cell 0
  have m1' : wc.cell? ⟨N, 1, none⟩ = some (.int .u64 (nd.since : Int)) := HCN.out.2.cell 1
  have m2' : wc.cell? ⟨N, 2, none⟩ = some (.int .u64 (nd.horizon : Int)) := HCN.out.2.cell 2
  have m3 : wc.cell? ⟨N, 3, none⟩ = some (.slice af nd.fls.length cf) := HCN.out.2.cell 3
  have m4 : wc.cell? ⟨N, 4, none⟩ = some (.slice aw nd.wts.length cw) := HCN.out.2.cell 4
  have m5 : wc.cell? ⟨N, 5, none⟩ = some (.slice (some ⟨ge, 0, none⟩) nd.ents.length ce) := HCN.out.2.cell 5
  have m6 : wc.cell? ⟨N, 6, none⟩ = some (.slice (some ⟨gm, 0, none⟩) nd.nms.length cm) := HCN.out.2.cell 6
  have t0 : wc.cell? ⟨w1.heap.size, 0, none⟩ = some (.int .u64 (x.lo : Int)) := HG4.out.span.cell 0
  have t1 : wc.cell? ⟨w1.heap.size, 1, none⟩ = some (.int .u64 (x.hi : Int)) := HG4.out.span.cell 1
  go_wp2_with (go_at_call 94; refine (HANS.out _ HG4.out.low).mono ?_; rintro e w4 ⟨rfl, hb4⟩; have HG5 : Hid (Reading w w1 w4 x) := HG4.out.next hb4; have HN4 : Hid (Blk w4 N 146 #[.bool nd.up, .int .u64 (nd.since : Int), .int .u64 (nd.horizon : Int), .slice af nd.fls.length cf, .slice aw nd.wts.length cw, .slice (some ⟨ge, 0, none⟩) nd.ents.length ce, .slice (some ⟨gm, 0, none⟩) nd.nms.length cm]) := HCN.out.2.same (hb4.block N HCN.out.2.lt); clear hb4 m0 m1' m2' m3 m4 m5 m6 t0 t1)
  have v0 : w4.cell? ⟨w1.heap.size, 0, none⟩ = some (.int .u64 (x.lo : Int)) := HG5.out.span.cell 0
  have v1 : w4.cell? ⟨w1.heap.size, 1, none⟩ = some (.int .u64 (x.hi : Int)) := HG5.out.span.cell 1
  have u2 : w4.cell? ⟨N, 2, none⟩ = some (.int .u64 (nd.horizon : Int)) := HN4.out.cell 2
  have u5 : w4.cell? ⟨N, 5, none⟩ = some (.slice (some ⟨ge, 0, none⟩) nd.ents.length ce) := HN4.out.cell 5
  obtain ⟨⟨x0, x1, x2, x3, x4, x5⟩, _⟩ := HEN.out w4 R (HR.out w4 HG5.out.low) rfl
  have hi0 : (0 : Int) ≤ (i : Int) := by omega
  have hi1 : (i : Int) < (nd.ents.length : Int) := by omega
  have z1 : ge < w4.heap.size := World.block_lt_of_cell? w4 _ x0
  have z2 : N < w4.heap.size := HN4.out.lt
  have z3 : w1.heap.size < w4.heap.size := HG5.out.gt
  have tt1 : ge ≠ w4.heap.size := by omega
  have tt2 : N ≠ w4.heap.size := by omega
  have tt3 : w1.heap.size ≠ w4.heap.size := by omega
  have tt4 := tt1.symm
  have tt5 := tt2.symm
  have tt6 := tt3.symm
  go_cut [15] (fun v wx => ∃ S, v = .pointer (some ⟨S, 0, none⟩) ∧ Hid (Kept (fun _ => False) w4 wx ∧ Blk wx S 88 #[.int .u64 (m1 : Int), .int .u64 (m2 : Int)] ∧ w4.heap.size ≤ S))
  case first =>
   go_region_held3 (fun w' => w'.cell? ⟨ge, i * 6, none⟩ = some (.string y.q) ∧ w'.cell? ⟨ge, i * 6 + 1, none⟩ = some (.int .i32 y.val) ∧ w'.cell? ⟨ge, i * 6 + 2, none⟩ = some (.int .u64 (y.fr : Int)) ∧ w'.cell? ⟨ge, i * 6 + 3, none⟩ = some (.int .u64 (y.till : Int)) ∧ w'.cell? ⟨ge, i * 6 + 4, none⟩ = some (.bool y.op) ∧ w'.cell? ⟨ge, i * 6 + 5, none⟩ = some (.int .u64 (y.kn : Int)) ∧ w'.cell? ⟨N, 2, none⟩ = some (.int .u64 (nd.horizon : Int)) ∧ w'.cell? ⟨N, 5, none⟩ = some (.slice (some ⟨ge, 0, none⟩) nd.ents.length ce) ∧ w'.cell? ⟨w1.heap.size, 0, none⟩ = some (.int .u64 (x.lo : Int)) ∧ w'.cell? ⟨w1.heap.size, 1, none⟩ = some (.int .u64 (x.hi : Int))) (first | exact ⟨hold_al b0, hold_al b1, hold_al b2, hold_al b3, hold_al b4, hold_al b5, hold_al b6, hold_al b7, hold_al b8, hold_al b9⟩ | exact ⟨b0, b1, b2, b3, b4, b5, b6, b7, b8, b9⟩ | exact ⟨a0, a1, a2, a3, a4, a5, a6, a7, a8, a9⟩ | exact ⟨hold_al a0, hold_al a1, hold_al a2, hold_al a3, hold_al a4, hold_al a5, hold_al a6, hold_al a7, hold_al a8, hold_al a9⟩ | exact ⟨hold_set2 y1 b0, hold_set2 y1 b1, hold_set2 y1 b2, hold_set2 y1 b3, hold_set2 y1 b4, hold_set2 y1 b5, hold_set2 y2 b6, hold_set2 y2 b7, hold_set2 y3 b8, hold_set2 y3 b9⟩ | exact ⟨hold_set2 z1 b0, hold_set2 z1 b1, hold_set2 z1 b2, hold_set2 z1 b3, hold_set2 z1 b4, hold_set2 z1 b5, hold_set2 z2 b6, hold_set2 z2 b7, hold_set2 z3 b8, hold_set2 z3 b9⟩ | go_keep) (first
    | (go_at_call 96; refine (HLA.out _).mono ?_; rintro e wa ⟨rfl, ca, fa, sa, HKa⟩; have za : w4.heap.size ≤ wa.heap.size := (by first | exact HKa.out.size | exact Nat.le_trans (Nat.le_succ _) (by simpa using HKa.out.size)); (try have q1 : w4.heap.size < wa.heap.size := (size_al sa)); have y1 : ge < wa.heap.size := (by omega); have y2 : N < wa.heap.size := (by omega); have y3 : w1.heap.size < wa.heap.size := (by omega); have a0 := HKa.out.hold (by first | exact x0 | exact hold_al x0); have a1 := HKa.out.hold (by first | exact x1 | exact hold_al x1); have a2 := HKa.out.hold (by first | exact x2 | exact hold_al x2); have a3 := HKa.out.hold (by first | exact x3 | exact hold_al x3); have a4 := HKa.out.hold (by first | exact x4 | exact hold_al x4); have a5 := HKa.out.hold (by first | exact x5 | exact hold_al x5); have a6 := HKa.out.hold (by first | exact u2 | exact hold_al u2); have a7 := HKa.out.hold (by first | exact u5 | exact hold_al u5); have a8 := HKa.out.hold (by first | exact v0 | exact hold_al v0); have a9 := HKa.out.hold (by first | exact v1 | exact hold_al v1))
    | (go_at_call 95; refine (HLB.out _).mono ?_; rintro e wb ⟨rfl, cb, fb, sb, HKb⟩; have b0 := HKb.out.hold (by first | exact a0 | exact hold_al a0); have b1 := HKb.out.hold (by first | exact a1 | exact hold_al a1); have b2 := HKb.out.hold (by first | exact a2 | exact hold_al a2); have b3 := HKb.out.hold (by first | exact a3 | exact hold_al a3); have b4 := HKb.out.hold (by first | exact a4 | exact hold_al a4); have b5 := HKb.out.hold (by first | exact a5 | exact hold_al a5); have b6 := HKb.out.hold (by first | exact a6 | exact hold_al a6); have b7 := HKb.out.hold (by first | exact a7 | exact hold_al a7); have b8 := HKb.out.hold (by first | exact a8 | exact hold_al a8); have b9 := HKb.out.hold (by first | exact a9 | exact hold_al a9)))
   all_goals
    go_wp2
    go_meet
    case rel =>
     first
     | exact ⟨wb.heap.size, rfl, kchain (by first | exact Kept.refl _ _ | exact (Kept.refl _ _).drew | exact (Kept.refl _ _).drew.trans (Kept.alloc _ _ (fun _ => False)) (fun _ => id) (fun _ _ => id)) HKa.out (by first | exact Kept.refl _ _ | exact (Kept.refl _ _).drew | exact Kept.alloc _ _ _ | exact (Kept.refl _ _).drew.trans (Kept.alloc _ _ (fun _ => False)) (fun _ => id) (fun _ _ => id)) HKb.out (by first | exact Kept.alloc _ _ _ | exact kset2 za | exact kset2 (Nat.le_refl _) | exact (Kept.alloc _ _ _).drew | exact (kset2 za).drew), Blk.new wb _ _, Nat.le_trans za HKb.out.size⟩
     | exact ⟨wb.heap.size, rfl, kchain (by first | exact Kept.refl _ _ | exact (Kept.refl _ _).drew | exact (Kept.refl _ _).drew.trans (Kept.alloc _ _ (fun _ => False)) (fun _ => id) (fun _ _ => id)) HKa.out (by first | exact Kept.refl _ _ | exact (Kept.refl _ _).drew | exact Kept.alloc _ _ _ | exact (Kept.refl _ _).drew.trans (Kept.alloc _ _ (fun _ => False)) (fun _ => id) (fun _ _ => id)) HKb.out (by first | exact Kept.alloc _ _ _ | exact kset2 za | exact kset2 (Nat.le_refl _) | exact (Kept.alloc _ _ _).drew | exact (kset2 za).drew), Blk.new wb _ _, Nat.le_trans za HKb.out.size⟩
     | exact ⟨wa.heap.size, rfl, kchain (by first | exact Kept.refl _ _ | exact (Kept.refl _ _).drew | exact (Kept.refl _ _).drew.trans (Kept.alloc _ _ (fun _ => False)) (fun _ => id) (fun _ _ => id)) HKa.out (by first | exact Kept.refl _ _ | exact (Kept.refl _ _).drew | exact Kept.alloc _ _ _ | exact (Kept.refl _ _).drew.trans (Kept.alloc _ _ (fun _ => False)) (fun _ => id) (fun _ _ => id)) HKb.out (by first | exact Kept.alloc _ _ _ | exact kset2 za | exact kset2 (Nat.le_refl _) | exact (Kept.alloc _ _ _).drew | exact (kset2 za).drew), (((Blk.new wa 88 #[.int .u64 0, .int .u64 0]).kept HKb.out id).set 0 _).set 1 _, za⟩
     | exact ⟨w4.heap.size, rfl, kchain (by first | exact Kept.refl _ _ | exact (Kept.refl _ _).drew | exact (Kept.refl _ _).drew.trans (Kept.alloc _ _ (fun _ => False)) (fun _ => id) (fun _ _ => id)) HKa.out (by first | exact Kept.refl _ _ | exact (Kept.refl _ _).drew | exact Kept.alloc _ _ _ | exact (Kept.refl _ _).drew.trans (Kept.alloc _ _ (fun _ => False)) (fun _ => id) (fun _ _ => id)) HKb.out (by first | exact Kept.alloc _ _ _ | exact kset2 za | exact kset2 (Nat.le_refl _) | exact (Kept.alloc _ _ _).drew | exact (kset2 za).drew), (((((Blk.new w4 88 #[.int .u64 0, .int .u64 0]).same (w' := w4.drew.alloc (.cells #[.int .u64 0, .int .u64 0] 88)) rfl).kept HKa.out id).kept HKb.out id).set 0 _).set 1 _, Nat.le_refl _⟩
     | exact ⟨w4.heap.size, rfl, kchain (by first | exact Kept.refl _ _ | exact (Kept.refl _ _).drew | exact (Kept.refl _ _).drew.trans (Kept.alloc _ _ (fun _ => False)) (fun _ => id) (fun _ _ => id)) HKa.out (by first | exact Kept.refl _ _ | exact (Kept.refl _ _).drew | exact Kept.alloc _ _ _ | exact (Kept.refl _ _).drew.trans (Kept.alloc _ _ (fun _ => False)) (fun _ => id) (fun _ _ => id)) HKb.out (by first | exact Kept.alloc _ _ _ | exact kset2 za | exact kset2 (Nat.le_refl _) | exact (Kept.alloc _ _ _).drew | exact (kset2 za).drew), ((((Blk.new w4 88 #[.int .u64 0, .int .u64 0]).kept HKa.out id).kept HKb.out id).set 0 _).set 1 _, Nat.le_refl _⟩
  case rest =>
   obtain ⟨S, rfl, HS⟩ := hcut
   have HLW : Hid (Below w.heap.size w wc) := below_trans HG5.out.low (Nat.le_refl _) (below_of_kept HS.out.1)
   have HNB : Hid (Blk wc N 146 #[.bool nd.up, .int .u64 (nd.since : Int), .int .u64 (nd.horizon : Int), .slice af nd.fls.length cf, .slice aw nd.wts.length cw, .slice (some ⟨ge, 0, none⟩) nd.ents.length ce, .slice (some ⟨gm, 0, none⟩) nd.nms.length cm]) := HN4.out.kept HS.out.1 id
   clear v0 v1 u2 u5 x0 x1 x2 x3 x4 x5 z1 z2 z3 tt1 tt2 tt3 tt4 tt5 tt6 HLA HLB
   have HRW : Hid (Ref wc b R) := HR.out wc HLW.out
   obtain ⟨c2, _⟩ := HC.out wc HLW.out
   have s0 : wc.cell? ⟨S, 0, none⟩ = some (.int .u64 (m1 : Int)) := HS.out.2.1.cell 0
   have s1 : wc.cell? ⟨S, 1, none⟩ = some (.int .u64 (m2 : Int)) := HS.out.2.1.cell 1
   have hgrl : gr < w.heap.size := HH.out.lt gr (fp_vr HX.out.2)
   have hSw : w.heap.size ≤ S := Nat.le_trans HG5.out.low.size HS.out.2.2
   have hgS : gr ≠ S := by omega
   have hgb : gr ≠ b := fun e => HRW.out.rdrs.ne_block HRW.out.blk (by decide) (by rw [HX.out.2, e])
   have hbg : b ≠ gr := Ne.symm hgb
   have hSg : S ≠ gr := by omega
   have df0 : wc.frozen? ⟨gr, j * 3, none⟩ = false := HRW.out.rdrs.free HX.out.2 _
   have df1 : wc.frozen? ⟨gr, j * 3 + 1, none⟩ = false := HRW.out.rdrs.free HX.out.2 _
   have dg0 : ∃ u, wc.cell? ⟨gr, j * 3, none⟩ = some u := ⟨_, (HC.out wc HLW.out).2.2.1⟩
   have hj0 : (0 : Int) ≤ (j : Int) := by omega
   have hj1 : (j : Int) < (R.rdrs.length : Int) := by omega
   have HSP : Hid (Became wc b R ((wc.setCell ⟨gr, j * 3, none⟩ (.int .u64 (m1 : Int))).setCell ⟨gr, j * 3 + 1, none⟩ (.int .u64 (m2 : Int))) (R.spanR j x m1 m2)) := HRW.out.spanR j gr x m1 m2 HX.out.1 HX.out.2
   have gx0 := (HC.out wc HLW.out).2.2.1
   have gx1 := (HC.out wc HLW.out).2.2.2.1
   go_wp2_with fail
   go_cut [15] (fun v wx => Hid (Became wc b R wx (R.spanR j x m1 m2)))
   case first =>
    go_region_held3 (fun w' => w'.cell? ⟨b, 2, none⟩ = some (.slice (some ⟨gr, 0, none⟩) R.rdrs.length capr) ∧ w'.cell? ⟨S, 0, none⟩ = some (.int .u64 (m1 : Int)) ∧ w'.cell? ⟨S, 1, none⟩ = some (.int .u64 (m2 : Int))) (go_keep) (fail)
    all_goals
     go_wp2
     go_meet
     case rel => exact HSP.out.drew
   case rest =>
    have HC1 := hcut
    have hNl : N < _ := HNB.out.lt
    have hNf : ¬ R.fp b N := fun hh => by have := HH.out.lt N hh; have := HB2.out.1.size; omega
    have hNf2 : ¬ (R.spanR j x m1 m2).fp b N := fun hh => by
     rcases HC1.out.2.2 N hh with h1 | h1
     · exact hNf h1
     · omega
    have HBW : Hid (Became w b R wc (R.spanR j x m1 m2)) := (Became.kept HH.out (Kept.of_below HLW.out _)).trans HC1.out
    have HNW : Hid (Blk wc N 146 #[.bool nd.up, .int .u64 (nd.since : Int), .int .u64 (nd.horizon : Int), .slice af nd.fls.length cf, .slice aw nd.wts.length cw, .slice (some ⟨ge, 0, none⟩) nd.ents.length ce, .slice (some ⟨gm, 0, none⟩) nd.nms.length cm]) := HNB.out.kept HC1.out.2.1 hNf
    clear hcut c2 s0 s1 df0 df1 dg0 gx0 gx1 HSP hgS hSg hSw hgrl hgb hbg
    obtain ⟨⟨_, x1, _⟩, xn⟩ := HEN.out wc _ HBW.out.1 rfl
    obtain ⟨au, cu, hvs, _⟩ := HBW.out.1.uses.form
    have hvs' : R.vs = .slice au R.uses.length cu := hvs
    have HVS : Hid (R.vs = .slice au R.uses.length cu) := hvs'
    have c6 : wc.cell? ⟨b, 6, none⟩ = some (.slice au R.uses.length cu) := by rw [← hvs']; exact HBW.out.1.blk.cell 6
    have n5 : wc.cell? ⟨N, 5, none⟩ = some (.slice (some ⟨ge, 0, none⟩) nd.ents.length ce) := HNW.out.cell 5
    have n6 : wc.cell? ⟨N, 6, none⟩ = some (.slice (some ⟨gm, 0, none⟩) nd.nms.length cm) := HNW.out.cell 6
    have hge : (R.spanR j x m1 m2).vs.ownBlock ≠ some ge := (HBW.out.1.ents nd HGE.out.2).ne_row HBW.out.1.uses (by decide) ge HGE.out.1
    have hgeb : ge ≠ b := fun e => (HBW.out.1.ents nd HGE.out.2).ne_block HBW.out.1.blk (by decide) (by rw [HGE.out.1, e])
    have hbge : b ≠ ge := Ne.symm hgeb
    have hNb : N ≠ b := fun e => hNf (.inl e)
    have hbN : b ≠ N := Ne.symm hNb
    have HI : Hid (∃ i0, Tryz.prog.info? 3 = some i0 ∧ i0.zero = some (.int .i64 0) ∧ i0.size = 1 ∧ i0.bytes = 8) := by
     obtain ⟨i0, hi0, hz0, hz1, hz2⟩ := info_parts Tryz.infoInt
     exact ⟨i0, hi0, hz0, hz1, hz2⟩
    obtain ⟨i0, hI0⟩ := HI.out
    have HI0 : Hid (Tryz.prog.info? 3 = some i0 ∧ i0.zero = some (.int .i64 0) ∧ i0.size = 1 ∧ i0.bytes = 8) := hI0
    clear hI0 HI hvs hvs'
    have hbr : b < wc.heap.size := HBW.out.1.blk.lt
    have qb : ∀ o : Obj, (wc.alloc o).cell? ⟨b, 6, none⟩ = some (.slice au R.uses.length cu) := fun o => (World.cell?_alloc_past _ _ _ hbr).trans c6
    have HROW : Hid (∀ o : Obj, Row ((wc.alloc o).drew) 3 1 (.slice au R.uses.length cu) R.uses.length (i64s R.uses)) := fun o => by rw [← HVS.out]; exact HBW.out.1.uses.kept ((Kept.alloc wc o (fun _ => False)).drew) (fun _ _ => id)
    have HAP : Hid (∀ (o : Obj) (w' : World) (v' : Value) (news : List Value), Appended ((wc.alloc o).drew) w' 3 1 (.slice au R.uses.length cu) v' R.uses.length 1 (i64s R.uses) news → w'.cell? ⟨b, 6, none⟩ = some (.slice au R.uses.length cu) ∧ w'.frozen? ⟨b, 6, none⟩ = false ∧ w'.cell? ⟨N, 5, none⟩ = some (.slice (some ⟨ge, 0, none⟩) nd.ents.length ce) ∧ w'.cell? ⟨ge, i * 6 + 1, none⟩ = some (.int .i32 y.val) ∧ Appended wc w' 3 1 (.slice au R.uses.length cu) v' R.uses.length 1 (i64s R.uses) news) := fun o w' v' news hA => by
     rw [← HVS.out] at hA ⊢
     exact use_in (R := R.spanR j x m1 m2) HBW.out.1 hNf2 n5 hge x1 hA
    have k1 : R.uses.length + 1 ≤ maxLen := by unfold maxLen; omega
    have hml' : (i : Int) < (nd.nms.length : Int) := by omega
    go_wp2_with fail
    go_region_law (refine step_append_mine rfl (.tmp 85) (.tmp 91) 24 rfl 3 i0 (.int .i64 0) 1 8 Tryz.underlying24 HI0.out.1 HI0.out.2.1 HI0.out.2.2.1 HI0.out.2.2.2 rfl (Nat.succ_pos 0) (.slice au R.uses.length cu) R.uses.length (i64s R.uses) rfl (HROW.out _) ⟨wc.heap.size, 0, none⟩ 1 1 [.int .i64 nm] rfl rfl (fun j u hj => news_one wc _ _ j u hj) (oneCell_int nm) k1 hus ?_; intro v' w' hA; obtain ⟨p1, p2, p3, p4, p5⟩ := HAP.out _ _ _ _ hA; clear hA; obtain ⟨ao', cap', hv', _⟩ := p5.row.form; subst hv')
    all_goals
     have HZ : Hid (Became w b R (w'.setCell ⟨b, 6, none⟩ (.slice ao' (R.uses.length + 1) cap')) ((R.spanR j x m1 m2).pushUse nm (.slice ao' (R.uses.length + 1) cap'))) := HBW.out.trans (HBW.out.1.pushUse nm _ (by show Appended wc w' 3 1 R.vs _ R.uses.length 1 (i64s R.uses) _; rw [HVS.out]; exact p5))
     clear p5 qb c6 n5 n6 x1 xn
     go_wp2
     exact bodyPost_ret (v := .tuple #[.int .i32 y.val, .bool true, .int .i64 0]) (by simp [results, Tryz.results39, go_sem]) rfl (HPO.out _ _ HZ.out)
end Go.Proofs.YtpfcacedpkaihaaGreat
