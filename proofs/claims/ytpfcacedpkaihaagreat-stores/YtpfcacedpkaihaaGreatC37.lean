import Derived.Deep.RegionLawGrows
import Derived.Deep.RegionWith
import Derived.Test.YtpfcacedpkaihaaGreatC8
import Derived.Test.YtpfcacedpkaihaaGreatC36
import Derived.Test.YtpfcacedpkaihaaGreatC2
namespace Go.Proofs.YtpfcacedpkaihaaGreat
open Go.RowKit
set_option maxRecDepth 100000
set_option maxHeartbeats 16000000
def newP (room : Int) : NodeP := ⟨true, room, 0, [], [], [], 0, []⟩
def newDN (room : Int) : DNodeE := ⟨newP room, nilV, nilV, nilV, nilV⟩
def newD (room : Int) (k : Nat) (vn : Value) : DevS := ⟨0, [], 0, fun _ => ⟨false, 0, 0, 0⟩, [], nilV, nilV, List.replicate k (newDN room), vn⟩
theorem newDN_nil (room : Int) : ∀ r ∈ dnodeR (newDN room), r.v = .slice none 0 0 ∧ r.n = 0 ∧ r.xs = [] := by
 intro r hr
 simp only [dnodeR, newDN, List.mem_cons, List.not_mem_nil, or_false] at hr
 rcases hr with rfl | rfl | rfl | rfl <;> exact ⟨rfl, rfl, rfl⟩
theorem newD_fp {room : Int} {k b x : Nat} {vn : Value} (h : (newD room k vn).fp b x) : x = b ∨ vn.ownBlock = some x := by
 rcases h with h | ⟨r, hr, hx⟩
 · exact .inl h
 · simp only [DevS.rows, newD, List.mem_cons, List.mem_flatMap] at hr
  rcases hr with rfl | rfl | rfl | ⟨nd, hnd, hr⟩
  · simp [nilV, Value.ownBlock] at hx
  · simp [nilV, Value.ownBlock] at hx
  · exact .inr hx
  · obtain rfl := List.eq_of_mem_replicate hnd
   rw [(newDN_nil room r hr).1] at hx; simp [Value.ownBlock] at hx
structure NewDL (w wr : World) (room : Int) (k : Nat) (vn : Value) : Prop where
 dev : Dev wr w.heap.size (newD room k vn)
 kept : Kept (fun _ => False) w wr
 own : ∀ x, vn.ownBlock = some x → w.heap.size ≤ x
theorem NewDL.start (w : World) (room : Int) : NewDL w (w.alloc (.cells (newD room 0 nilV).cells 129)) room 0 nilV := by
 refine ⟨⟨Blk.new _ _ _, rows_nil fun r hr => ?_⟩, Kept.alloc _ _ _, fun x hx => by simp [nilV, Value.ownBlock] at hx⟩
 simp only [DevS.rows, newD, List.replicate_zero, List.flatMap_nil, List.mem_cons, List.not_mem_nil, or_false] at hr
 rcases hr with rfl | rfl | rfl <;> exact ⟨rfl, rfl, rfl⟩
theorem NewDL.next {w wr w' : World} {room : Int} {k : Nat} {vn v : Value} (h : NewDL w wr room k vn) (hA : Appended wr w' 139 8 vn v k 1 ((List.replicate k (newDN room)).flatMap dnodeC) (dnodeC (newDN room))) :
  NewDL w (w'.setCell ⟨w.heap.size, 28, none⟩ v) room (k + 1) v := by
 have r := h.dev
 have k1 := hA.kept
 have k2 := Kept.setCell w' ⟨w.heap.size, 28, none⟩ v
 have ownv : ∀ x, v.ownBlock = some x → vn.ownBlock = some x ∨ wr.heap.size ≤ x := fun x hx => hA.own.imp (fun e => by rw [← e]; exact hx) (fun e => e x hx)
 have blk1 : Blk w' w.heap.size _ _ := r.blk.kept k1 fun he => r.nodes.ne_block r.blk (by decide) he
 have hn : RowD.Is w' ⟨139, 8, v, (List.replicate (k + 1) (newDN room)).length, (List.replicate (k + 1) (newDN room)).flatMap dnodeC⟩ := by
  show Row w' _ 8 v (List.replicate (k + 1) (newDN room)).length ((List.replicate (k + 1) (newDN room)).flatMap dnodeC)
  rw [List.length_replicate, List.replicate_succ', List.flatMap_append]
  simpa using hA.row
 have all1 := (r.all.put 2 (newD room k vn).nodeD ⟨139, 8, v, (List.replicate (k + 1) (newDN room)).length, (List.replicate (k + 1) (newDN room)).flatMap dnodeC⟩ rfl k1 hn ownv).more (newDN_nil room)
 have er : (newD room (k + 1) v).rows = ((newD room k vn).rows.set 2 ⟨139, 8, v, (List.replicate (k + 1) (newDN room)).length, (List.replicate (k + 1) (newDN room)).flatMap dnodeC⟩) ++ dnodeR (newDN room) := by
  show _ :: _ :: _ :: (List.replicate (k + 1) (newDN room)).flatMap dnodeR = _ :: _ :: _ :: ((List.replicate k (newDN room)).flatMap dnodeR ++ dnodeR (newDN room))
  have e : (List.replicate (k + 1) (newDN room)).flatMap dnodeR = (List.replicate k (newDN room)).flatMap dnodeR ++ dnodeR (newDN room) := by rw [List.replicate_succ', List.flatMap_append]; simp
  rw [e]; rfl
 refine ⟨⟨blk1.set 28 v, ?_⟩, h.kept.trans (k1.trans k2 (H := fun x => vn.ownBlock = some x ∨ x = w.heap.size) (fun x hx => .inl hx) (fun x _ hx => .inr hx)) (fun _ => id) (fun x hx hf => ?_), fun x hx => ?_⟩
 · rw [er]
  refine all1.kept k2 ?_
  rintro j ⟨a, ha, hj⟩ he
  subst he
  exact (all1.row a ha).ne_block blk1 (drows_ne_world (D := newD room (k + 1) v) (by rw [er]; exact ha)) hj
 · rcases hf with hf | hf
  · have := h.own x hf; omega
  · omega
 · rcases ownv x hx with e | e
  · exact h.own x e
  · exact Nat.le_trans h.kept.size e
def newA (room : Int) : Array Value := #[.bool true, .int .i64 room, .int .u64 0, .slice none 0 0, .slice none 0 0, .slice none 0 0, .int .u64 0]
theorem dmnew (room : Int) (w : World) : Calls Tryz.prog 70 #[.int .i64 room] w fun e w' => e = .returned (.agg (newA room)) ∧ Kept (fun _ => False) w w' := by
 go_enter Tryz.func70, Tryz.ntmps70
 go_wp2
 exact bodyPost_ret (v := .agg (newA room)) (by simp [results, Tryz.results70, go_sem, newA]) rfl ⟨rfl, Kept.alloc _ _ _⟩
theorem Tryz.infoSite : (Tryz.prog.info? 139).map (fun i => (i.zero, i.size, i.bytes)) = some (some (.agg #[.bool false, .int .i64 0, .int .u64 0, .slice none 0 0, .slice none 0 0, .slice none 0 0, .int .u64 0, .slice none 0 0]), 8, 128) := by kernel_rfl
theorem oneCell_dnode (room : Int) : ∀ u ∈ dnodeC (newDN room), u.oneCell' = true := by
 intro u hu; simp [dnodeC, newDN, nilV] at hu; rcases hu with rfl | rfl | rfl | rfl | rfl | rfl | rfl | rfl <;> rfl
theorem news_dnode (w : World) (room : Int) (t : TypeId) : ∀ j u, (dnodeC (newDN room))[j]? = some u → (w.alloc (.cells #[.bool true, .int .i64 room, .int .u64 0, .slice none 0 0, .slice none 0 0, .slice none 0 0, .int .u64 0, .slice none 0 0] t)).cell? ((⟨w.heap.size, 0, none⟩ : Addr).add j) = some u := by
 intro j u hj
 have e : (⟨w.heap.size, 0, none⟩ : Addr).add j = ⟨w.heap.size, j, none⟩ := by cases j <;> simp [Addr.add]
 rw [e, World.cell?_alloc_at _ _ _ _ rfl]
 simpa [dnodeC, newDN, newP, nilV] using hj
theorem step_call {P : Program} {w : World} {ops : Array Oper} {o : Oper} {a : Act} {K : Act → World → Prop} {Q : Exit → Act → World → Prop} {E : Prop} (hgd : o.guard = none) (f : FuncId) (A : Array Operand) (ts : Array TypeId) (ho : o.op = .call { callee := .value (.func f), args := A, argTypes := ts }) (args : Array Value) (hargs : A.toList.map a.eval = args.toList) (v : Value) (Post : World → Prop)
  (hrun : (Deferred.ofValue (a.eval (.func f)) args).run P w = .ok ⟨.fn (.func f) #[], args⟩ w) (hrun2 : (invoke (.fn (.func f) #[]) args).run P w = .ok (.enter f args) w) (hc : Calls P f args w fun e w' => e = .returned v ∧ Post w') (h : ∀ w', Post w' → K (a.put o.dst v) w') : if Region.wanted o (yielded ops a.tmps) = true then Oper.wp P o a w K Q else E := by
 have hw : Region.wanted o (yielded ops a.tmps) = true := by simp [Region.wanted, hgd]
 rw [if_pos hw]
 unfold Oper.wp
 have hargs : A.map a.eval = args := Array.ext' (by rw [Array.toList_map]; exact hargs)
 have hr : (execOp a.eval o).run P w = .ok (.enter f args) w := by
  simp [execOp, ho, resolve, hargs, hrun, hrun2, Result.andThen]
 rw [hr, Oper.upon_enter]
 refine hc.mono fun e w'' hh => ?_
 obtain ⟨rfl, hp⟩ := hh
 exact h _ hp
theorem kdrew0 {W w : World} {n : Nat} (h : Kept (fun _ => False) (W.drewN n) w) : Kept (fun _ => False) W w := ((Kept.refl (fun _ => False) W).drewN n).trans h (fun _ => id) (fun _ _ => id)
theorem NewDL.row {w wr : World} {r : Int} {k : Nat} {v : Value} (h : NewDL w wr r k v) (o : Obj) : Row (wr.alloc o) 139 8 v k ((List.replicate k (newDN r)).flatMap dnodeC) := by
 have := h.dev.nodes.kept (Kept.alloc wr o (fun _ => False)) (fun _ _ => id)
 have e : (newD r k v).nodes.length = k := by simp [newD]
 rw [e] at this
 exact this
theorem NewDL.after {w wr w' : World} {r : Int} {k : Nat} {v v' : Value} {o : Obj} (h : NewDL w wr r k v) (hA : Appended (wr.alloc o) w' 139 8 v v' k 1 ((List.replicate k (newDN r)).flatMap dnodeC) (dnodeC (newDN r))) :
  w'.cell? ⟨w.heap.size, 28, none⟩ = some v ∧ w'.frozen? ⟨w.heap.size, 28, none⟩ = false ∧ Hid (NewDL w (w'.setCell ⟨w.heap.size, 28, none⟩ v') r (k + 1) v') := by
 have hA := hA.of_alloc
 have bb := h.dev.blk.kept hA.kept fun he => h.dev.nodes.ne_block h.dev.blk (by decide) he
 exact ⟨bb.cell 28, bb.free 28, h.next hA⟩
def DNewPost (w : World) (n : Nat) (room : Int) (e : Ending) (w' : World) : Prop :=
 e = .returned (.tuple #[.pointer (some ⟨w.heap.size, 0, none⟩), .int .i64 0]) ∧ ∃ vn, NewDL w w' room n vn
theorem dnew (n : Nat) (r : Int) (w : World) (h1 : 1 ≤ n) (h2 : n ≤ 3) (h3 : 1 ≤ r) (h4 : r ≤ 6) :
  Calls Tryz.prog 23 #[.int .i64 n, .int .i64 r] w fun e w' => DNewPost w n r e w' := by
 have hd0 : decide ((n : Int) < 1) = false := by simp; omega
 have hd1 : decide (r < 1) = false := by simp; omega
 obtain ⟨i1, hi, hz0, hz1, hz2⟩ := info_parts Tryz.infoSite
 have HN : Hid (Tryz.prog.info? 139 = some i1 ∧ i1.zero = some (.agg #[.bool false, .int .i64 0, .int .u64 0, .slice none 0 0, .slice none 0 0, .slice none 0 0, .int .u64 0, .slice none 0 0]) ∧ i1.size = 8 ∧ i1.bytes = 128) := ⟨hi, hz0, hz1, hz2⟩
 clear hi hz0 hz1 hz2
 have HNEW : Hid (∀ W, Calls Tryz.prog 70 #[.int .i64 r] W fun e w' => e = .returned (.agg #[.bool true, .int .i64 r, .int .u64 0, .slice none 0 0, .slice none 0 0, .slice none 0 0, .int .u64 0]) ∧ Kept (fun _ => False) W w') := fun W => dmnew r W
 have HST : Hid (NewDL w (w.alloc (.cells (newD r 0 nilV).cells 129)) r 0 nilV) := NewDL.start w r
 go_enter Tryz.func23, Tryz.ntmps23
 go_wp2
 go_loopw [22] (fun i wr => ∃ k : Nat, k ≤ n ∧ i = .int .i64 k ∧ Hid (∃ vn, NewDL w wr r k vn)) (fun i _ => n - (intOf i).toNat)
 case atStart => exact ⟨0, Nat.zero_le _, rfl, _, HST.out⟩
 case round =>
  obtain ⟨k, hk, rfl, HL⟩ := hrel
  obtain ⟨vn, hL⟩ := HL.out
  obtain ⟨ao, cap, hvn, _⟩ := hL.dev.nodes.form
  have hvn' : vn = .slice ao k cap := by have : (newD r k vn).nodes.length = k := by simp [newD]
                                         rw [this] at hvn; exact hvn
  subst hvn'
  have c28 : wr.cell? ⟨w.heap.size, 28, none⟩ = some (.slice ao k cap) := hL.dev.blk.cell 28
  have hz := hL.dev.blk.lt
  have HLL : Hid (NewDL w wr r k (.slice ao k cap)) := hL
  by_cases hlt : k < n
  · have HKW : Hid (∀ W, Kept (fun _ => False) wr W → NewDL w W r k (.slice ao k cap)) := fun W hW => ⟨hL.dev.kept hW (fun _ _ => id), hL.kept.trans hW (fun _ => id) (fun _ _ => id), hL.own⟩
   have k1 : k + 1 ≤ maxLen := by unfold maxLen; omega
   have k2 : (k + 1) * 128 ≤ 140737488355328 := by omega
   clear hL hvn
   go_wp2_with fail
   go_region_law first
    | (refine step_call rfl 70 #[.tmp 29] #[3] rfl #[.int .i64 r] rfl _ _ rfl (by simp [invoke, go_sem]) (HNEW.out _) ?_; intro w1 hk1; have HL1 : Hid (NewDL w w1 r k (.slice ao k cap)) := HKW.out _ (kdrew0 hk1); have d28 : w1.cell? ⟨w.heap.size, 28, none⟩ = some (.slice ao k cap) := HL1.out.dev.blk.cell 28; have e28 : ∀ o : Obj, (w1.alloc o).cell? ⟨w.heap.size, 28, none⟩ = some (.slice ao k cap) := fun o => (Kept.alloc w1 o (fun _ => False)).keep id d28; have HROW : Hid (∀ (o : Obj), Row (w1.alloc o) 139 8 (.slice ao k cap) k ((List.replicate k (newDN r)).flatMap dnodeC)) := fun o => HL1.out.row o; have HAFT : Hid (∀ (o : Obj) (w' : World) (v' : Value), Appended (w1.alloc o) w' 139 8 (.slice ao k cap) v' k 1 ((List.replicate k (newDN r)).flatMap dnodeC) (dnodeC (newDN r)) → w'.cell? ⟨w.heap.size, 28, none⟩ = some (.slice ao k cap) ∧ w'.frozen? ⟨w.heap.size, 28, none⟩ = false ∧ Hid (NewDL w (w'.setCell ⟨w.heap.size, 28, none⟩ v') r (k + 1) v')) := fun o w' v' hA => HL1.out.after hA; clear hk1)
    | (refine step_append_mine rfl (.tmp 28) (.tmp 32) 127 rfl 139 i1 (.agg #[.bool false, .int .i64 0, .int .u64 0, .slice none 0 0, .slice none 0 0, .slice none 0 0, .int .u64 0, .slice none 0 0]) 8 128 Tryz.underlying127 HN.out.1 HN.out.2.1 HN.out.2.2.1 HN.out.2.2.2 rfl (Nat.succ_pos 7) (.slice ao k cap) k ((List.replicate k (newDN r)).flatMap dnodeC) rfl (HROW.out _) ⟨w1.heap.size, 0, none⟩ 1 1 (dnodeC (newDN r)) rfl rfl (fun j u hj => news_dnode w1 r _ j u hj) (oneCell_dnode r) k1 k2 ?_; intro v' w' hA; obtain ⟨p1, p2, p3⟩ := HAFT.out _ _ _ hA; obtain ⟨ao', cap', hv', _⟩ := hA.row.form; clear hA; subst hv')
   all_goals
    go_wp2
    go_roundw
    case rel => exact ⟨k + 1, by omega, by go_num, _, p3.out⟩
    case measure => simp [intOf]; omega
  · have hkk : k = n := by omega
   subst hkk
   clear hL hvn
   go_wp2
   go_ret2
   exact ⟨rfl, _, HLL.out⟩
theorem Tryz.infoPair : (Tryz.prog.info? 44).map (fun i => (i.zero, i.size, i.bytes)) = some (some (.agg #[.pointer none, .pointer none]), 2, 16) := by kernel_rfl
theorem newP_good0 {r : Int} (h1 : 1 ≤ r) (h2 : r ≤ 6) : (newP r).Good 0 0 :=
 ⟨h1, h2, Nat.le_refl _, by simp [newP], by simp [newP], by simp [newP], by simp [newP]; omega, by simp [newP], by simp [newP], by simp [newP], by simp [newP], by simp [newP]⟩
theorem newD_pu (r : Int) (n : Nat) (vn : Value) : (newD r n vn).pu.sites = List.replicate n (newP r) := by simp [DevS.pu, newD, newDN]
theorem newD_good {r : Int} {n : Nat} (vn : Value) (h1 : 1 ≤ n) (h2 : n ≤ 3) (h3 : 1 ≤ r) (h4 : r ≤ 6) : (newD r n vn).pu.Good 0 := by
 have e := newD_pu r n vn
 refine ⟨by simp [DevS.pu, newD], by simp [DevS.pu, newD], by simp [DevS.pu, newD], by simp [DevS.pu, newD], by simp [DevS.pu, newD], by rw [e, List.length_replicate]; omega, by rw [e, List.length_replicate]; omega, fun s hs => ?_, by simp [DevS.pu, newD]⟩
 rw [e] at hs
 obtain rfl := List.eq_of_mem_replicate hs
 exact newP_good0 h3 h4
theorem new_names (n : Nat) : (List.replicate n upN).flatMap (·.nms) = [] := by
 rw [List.flatMap_eq_nil_iff]
 intro x hx
 obtain rfl := List.eq_of_mem_replicate hx
 rfl
theorem sim_new (r : Int) (n : Nat) (vd vp vn : Value) : Sim (newD r n vd).pu (newR r n vp vn) := by
 have en := newD_pu r n vd
 have nn : (newR r n vp vn).nodes.flatMap (·.nms) = [] := new_names n
 refine ⟨rfl, rfl, ⟨rfl, ?_, ?_, ?_, rfl, ?_⟩, rfl, fun p hp => (by simp [DevS.pu, newD] at hp), ?_, ?_, ?_, by rw [nn]; exact List.nodup_nil, by rw [nn]; intro x hx; cases hx⟩
 · intro i _ h; cases h
 · intro j x h; simp [newR] at h
 · intro i k _ _ h; cases h
 · intro x h; simp [newR] at h
 · rw [en, List.length_replicate]
  show (List.replicate n upN).length = n
  rw [List.length_replicate]
 · intro k s nd hs hnd
  rw [en] at hs
  obtain rfl := List.eq_of_mem_replicate (List.mem_of_getElem? hs)
  obtain rfl := List.eq_of_mem_replicate (List.mem_of_getElem? (show (List.replicate n upN)[k]? = some nd from hnd))
  exact ⟨rfl, rfl, Nat.le_refl _, rfl, rfl, by simp [newP], rfl, by simp [newP], rfl, by show 0 < 1; omega, rfl, by simp [newP], by simp [newP]⟩
 · intro s hs
  rw [en] at hs
  obtain rfl := List.eq_of_mem_replicate hs
  rfl
theorem fit_new (r : Int) (n : Nat) (vp vn : Value) (h1 : 1 ≤ n) (h3 : n ≤ 3) : (newR r n vp vn).Fit := by
 refine ⟨by simp [newR], by simp [newR], by simp [newR], by simp [newR], by simp [newR], ?_, ?_, ?_⟩
 · show 0 < (List.replicate n upN).length; rw [List.length_replicate]; omega
 · show (List.replicate n upN).length ≤ 3; rw [List.length_replicate]; omega
 · intro nd h
  have : nd = upN := List.eq_of_mem_replicate h
  subst this
  exact ⟨by simp [upN, zeroN], by simp [upN, zeroN], by simp [upN, zeroN]⟩
theorem pair_new {w w1 w2 : World} {r : Int} {n : Nat} {xb : Nat} {vd vp vn : Value} (h1 : 1 ≤ n) (h3 : n ≤ 3) (h4 : 1 ≤ r) (h5 : r ≤ 6) (hd : Dev w1 xb (newD r n vd)) (hx : w.heap.size ≤ xb) (hv : ∀ x, vd.ownBlock = some x → w.heap.size ≤ x) (hL : NewL w1 w2 r n vp vn) :
  Pair w2 xb w1.heap.size (newD r n vd) (newR r n vp vn) ∧ (∀ k, pfp xb w1.heap.size (newD r n vd) (newR r n vp vn) k → w.heap.size ≤ k ∧ k < w2.heap.size) := by
 have hp : Pair w2 xb w1.heap.size (newD r n vd) (newR r n vp vn) := ⟨hd.kept hL.kept (fun _ _ => id), hL.ref, sim_new r n vd vp vn, newD_good vd h1 h3 h4 h5, fit_new r n vp vn h1 h3, Int.le_refl _, Int.le_refl _, fun k hk hr => by
  have := hd.lt k hk
  have := hL.new k hr
  omega⟩
 refine ⟨hp, fun k hk => ⟨?_, hp.lt k hk⟩⟩
 rcases hk with hk | hk
 · rcases newD_fp hk with e | e
  · rw [e]; exact hx
  · exact hv k e
 · have := hL.new k hk
  have := hd.blk.lt
  omega
def OpenPost (w : World) (pb : Nat) (vps b0 b1 b2 : Value) (commits most : Int) (m : Nat) (xs : List Value) (e : Ending) (w' : World) : Prop :=
 e = .returned (.bool true) ∧ (Kept (fun _ => False) w w' ∨ ∃ (xb cb : Nat) (D : DevS) (R : RefS) (v : Value), Pair w' xb cb D R ∧ R.uses.length = 0 ∧ Row w' 44 2 v (m + 1) (xs ++ [.pointer (some ⟨xb, 0, none⟩), .pointer (some ⟨cb, 0, none⟩)]) ∧
  Blk w' pb 34 (playC v b0 b1 b2 commits most) ∧ Kept (fun k => k = pb ∨ vps.ownBlock = some k) w w' ∧ (∀ k, pfp xb cb D R k → w.heap.size ≤ k) ∧
  (∀ k, v.ownBlock = some k → vps.ownBlock = some k ∨ w.heap.size ≤ k) ∧ (∀ k, pfp xb cb D R k → v.ownBlock ≠ some k))
theorem open_done {w w2 w3 : World} {pb xb cb : Nat} {D : DevS} {R : RefS} {vps b0 b1 b2 v : Value} {commits most : Int} {m : Nat} {xs : List Value} {o : Obj} (hblk : Blk w pb 34 (playC vps b0 b1 b2 commits most)) (hrow : Row w 44 2 vps m xs)
  (k2 : Kept (fun _ => False) w w2) (hp : Pair w2 xb cb D R) (h0 : R.uses.length = 0) (hf : ∀ k, pfp xb cb D R k → w.heap.size ≤ k ∧ k < w2.heap.size)
  (hA : Appended (w2.alloc o) w3 44 2 vps v m 1 xs [.pointer (some ⟨xb, 0, none⟩), .pointer (some ⟨cb, 0, none⟩)]) :
  OpenPost w pb vps b0 b1 b2 commits most m xs (.returned (.bool true)) (w3.setCell ⟨pb, 0, none⟩ v) := by
 have hA := hA.of_alloc
 have hvlt := hrow.lt
 have hpl := hblk.lt
 have k3 : Kept (fun k => vps.ownBlock = some k) w w3 := k2.trans hA.kept (fun _ => False.elim) (fun _ _ => id)
 have blk3 : Blk w3 pb 34 (playC vps b0 b1 b2 commits most) := hblk.kept k3 fun he => hrow.ne_block hblk (by decide) he
 have kS := Kept.setCell w3 ⟨pb, 0, none⟩ v
 have hp3 : Pair w3 xb cb D R := hp.kept hA.kept fun j hj he => by have := (hf j hj).1; have := hvlt j he; omega
 refine ⟨rfl, .inr ⟨xb, cb, D, R, v, hp3.kept kS fun j hj he => ?_, h0, hA.row.kept kS fun j hj he => ?_, blk3.set 0 v, k3.trans kS (fun _ => .inr) (fun _ _ => .inl), fun k hk => (hf k hk).1, fun k hk => ?_, fun k hk he => ?_⟩⟩
 · have := (hf j hj).1; simp at he; omega
 · subst he
  exact Row.ne_block hA.row blk3 (by decide) hj
 · rcases hA.own with h | h
  · left; rw [← h]; exact hk
  · right; have := h k hk; have := k2.size; omega
 · obtain ⟨a, c⟩ := hf k hk
  rcases hA.own with h | h
  · rw [h] at he; have := hvlt k he; omega
  · have := h k he; omega
theorem oneCell_ptrs (a b : Option Addr) : ∀ u ∈ [Value.pointer a, Value.pointer b], u.oneCell' = true := by
 intro u hu; simp at hu; rcases hu with rfl | rfl <;> rfl
theorem cell_two_new (w : World) (a b : Value) (t : TypeId) : ∀ j u, [a, b][j]? = some u → (w.alloc (.cells #[a, b] t)).cell? ((⟨w.heap.size, 0, none⟩ : Addr).add j) = some u := by
 intro j u hj
 match j, hj with
 | 0, hj => simp at hj; subst hj; simp [Addr.add]
 | 1, hj => simp at hj; subst hj; simp [Addr.add]
 | j + 2, hj => simp at hj
theorem opened_mid {w w1 w2 : World} {o : Obj} {pb q : Nat} {c : Int} {vps b0 b1 b2 : Value} {commits most : Int} {m : Nat} {xs : List Value} (h1 : 1 ≤ q) (h2 : q ≤ 3) (h3 : 1 ≤ c) (h4 : c ≤ 6) (hblk : Blk w pb 34 (playC vps b0 b1 b2 commits most)) (hrow : Row w 44 2 vps m xs)
  (hd : ∃ vd, NewDL (w.alloc o) w1 c q vd) (hL : ∃ vp vn, NewL w1 w2 c q vp vn) :
  w2.cell? ⟨pb, 0, none⟩ = some vps ∧ pb < w2.heap.size ∧ Hid (∀ o, Row (w2.alloc o) 44 2 vps m xs) ∧
   Hid (∀ (o : Obj) (w3 : World) (v : Value), Appended (w2.alloc o) w3 44 2 vps v m 1 xs [.pointer (some ⟨w.heap.size + 1, 0, none⟩), .pointer (some ⟨w1.heap.size, 0, none⟩)] →
    w3.cell? ⟨pb, 0, none⟩ = some vps ∧ w3.frozen? ⟨pb, 0, none⟩ = false ∧ OpenPost w pb vps b0 b1 b2 commits most m xs (.returned (.bool true)) (w3.setCell ⟨pb, 0, none⟩ v)) := by
 obtain ⟨vp, vn, hL⟩ := hL
 obtain ⟨vd, hd⟩ := hd
 have hsz : (w.alloc o).heap.size = w.heap.size + 1 := by simp
 have hdv := hd.dev
 rw [hsz] at hdv
 have k1 : Kept (fun _ => False) w w1 := (Kept.alloc w o (fun _ => False)).trans hd.kept (fun _ => id) (fun _ _ => id)
 have k2 : Kept (fun _ => False) w w2 := k1.trans hL.kept (fun _ => id) (fun _ _ => id)
 have blk2 := hblk.kept k2 id
 have hp := pair_new (w := w) h1 h2 h3 h4 hdv (Nat.le_succ _) (fun x hx => by have := hd.own x hx; omega) hL
 refine ⟨blk2.cell 0, blk2.lt, fun o => (hrow.kept k2 fun _ _ => id).kept (Kept.alloc w2 o (fun _ => False)) (fun _ _ => id), fun o w3 v hA => ?_⟩
 have blk3 : Blk w3 pb 34 (playC vps b0 b1 b2 commits most) := blk2.kept hA.of_alloc.kept fun he => (hrow.kept k2 fun _ _ => id).ne_block blk2 (by decide) he
 exact ⟨blk3.cell 0, blk3.free 0, open_done hblk hrow k2 hp.1 rfl hp.2 hA⟩
theorem opened_bad (w : World) (pb : Nat) (kd a b c : Int) (s : ByteArray) (ao : Option Addr) (n cap : Nat) (vps b0 b1 b2 : Value) (commits most : Int) (m : Nat) (xs : List Value) (r : Int)
  (h0 : ∀ W, Calls Tryz.prog 23 #[.int .i64 b, .int .i64 c] W fun e w' => e = .returned (.tuple #[.pointer none, .int .i64 r]) ∧ W = w')
  (h1 : ∀ W, Calls Tryz.prog 24 #[.int .i64 b, .int .i64 c] W fun e w' => e = .returned (.tuple #[.pointer none, .int .i64 r]) ∧ W = w') :
  Calls Tryz.prog 11 #[.pointer (some ⟨pb, 0, none⟩), .agg #[.int .i64 kd, .int .i64 a, .int .i64 b, .int .i64 c, .string s, .slice ao n cap]] w fun e w' => OpenPost w pb vps b0 b1 b2 commits most m xs e w' := by
 have H0 : Hid (∀ W, Calls Tryz.prog 23 #[.int .i64 b, .int .i64 c] W fun e w' => e = .returned (.tuple #[.pointer none, .int .i64 r]) ∧ W = w') := h0
 have H1 : Hid (∀ W, Calls Tryz.prog 24 #[.int .i64 b, .int .i64 c] W fun e w' => e = .returned (.tuple #[.pointer none, .int .i64 r]) ∧ W = w') := h1
 clear h0 h1
 go_enter Tryz.func11, Tryz.ntmps11
 go_wp2_with first
  | (go_at_call 23; refine (H0.out _).mono ?_; rintro e w1 ⟨rfl, rfl⟩)
  | (go_at_call 24; refine (H1.out _).mono ?_; rintro e w1 ⟨rfl, rfl⟩)
 go_ret
 exact ⟨rfl, .inl (Kept.alloc _ _ _)⟩
theorem opened_good (w : World) (pb : Nat) (kd a c : Int) (q : Nat) (s : ByteArray) (ao : Option Addr) (n cap : Nat) (vps b0 b1 b2 : Value) (commits most : Int) (m : Nat) (xs : List Value) (h1 : 1 ≤ q) (h2 : q ≤ 3) (h3 : 1 ≤ c) (h4 : c ≤ 6)
  (hblk : Blk w pb 34 (playC vps b0 b1 b2 commits most)) (hrow : Row w 44 2 vps m xs) (hm : (m + 1) * 16 ≤ 140737488355328) :
  Calls Tryz.prog 11 #[.pointer (some ⟨pb, 0, none⟩), .agg #[.int .i64 kd, .int .i64 a, .int .i64 (q : Int), .int .i64 c, .string s, .slice ao n cap]] w fun e w' => OpenPost w pb vps b0 b1 b2 commits most m xs e w' := by
 obtain ⟨i0, hi, hz0, hz1, hz2⟩ := info_parts Tryz.infoPair
 have HI : Hid (Tryz.prog.info? 44 = some i0 ∧ i0.zero = some (.agg #[.pointer none, .pointer none]) ∧ i0.size = 2 ∧ i0.bytes = 16) := ⟨hi, hz0, hz1, hz2⟩
 clear hi hz0 hz1 hz2
 obtain ⟨av, cv, hv, _⟩ := hrow.form
 have HR : Hid (Row w 44 2 (.slice av m cv) m xs) := by rw [← hv]; exact hrow
 have HB : Hid (Blk w pb 34 (playC (.slice av m cv) b0 b1 b2 commits most)) := by rw [← hv]; exact hblk
 have hpl := hblk.lt
 subst hv
 have HN0 : Hid (∀ W, Calls Tryz.prog 23 #[.int .i64 (q : Int), .int .i64 c] W fun e w' => e = .returned (.tuple #[.pointer (some ⟨W.heap.size, 0, none⟩), .int .i64 0]) ∧ Hid (∃ vd, NewDL W w' c q vd)) := fun W => dnew q c W h1 h2 h3 h4
 have HN1 : Hid (∀ W, Calls Tryz.prog 24 #[.int .i64 (q : Int), .int .i64 c] W fun e w' => e = .returned (.tuple #[.pointer (some ⟨W.heap.size, 0, none⟩), .int .i64 0]) ∧ Hid (∃ vp vn, NewL W w' c q vp vn)) := fun W => rnew q c W h1 h2 h3 h4
 have b1' : m + 1 ≤ maxLen := by unfold maxLen; omega
 have HA0 : Hid (∀ w1, Kept (fun _ => False) (w.alloc (.cells #[.int .i64 kd, .int .i64 a, .int .i64 (q : Int), .int .i64 c, .string s, .slice ao n cap] 37)) w1 → w1.cell? ⟨w.heap.size, 2, none⟩ = some (.int .i64 (q : Int)) ∧ w1.cell? ⟨w.heap.size, 3, none⟩ = some (.int .i64 c)) := fun w1 k => ⟨k.keep id (by simp), k.keep id (by simp)⟩
 clear hblk hrow
 go_enter Tryz.func11, Tryz.ntmps11
 go_wp2_with first
  | (go_at_call 23; refine (HN0.out _).mono ?_; rintro e w1 ⟨rfl, hd⟩; obtain ⟨y2, y3⟩ := HA0.out _ (have ⟨_, x⟩ := hd.out; x.kept))
  | (go_at_call 24; refine (HN1.out _).mono ?_; rintro e w2 ⟨rfl, hL⟩; obtain ⟨p0, hp2, HROW, HAFT⟩ := opened_mid h1 h2 h3 h4 HB.out HR.out hd.out hL.out)
  | (at_builtin; go_must (refine wpList_append_mine _ rfl (.tmp 41) (.tmp 45) 27 rfl 44 i0 (.agg #[.pointer none, .pointer none]) 2 16 Tryz.underlying27 HI.out.1 HI.out.2.1 HI.out.2.2.1 HI.out.2.2.2 rfl (by decide) (.slice av m cv) m xs rfl (HROW.out _) ⟨w2.heap.size, 0, none⟩ 1 1 [.pointer (some ⟨w.heap.size + 1, 0, none⟩), .pointer (some ⟨w1.heap.size, 0, none⟩)] rfl rfl (cell_two_new w2 _ _ _) (oneCell_ptrs _ _) b1' hm ?_); intro v' w3 hA; obtain ⟨r0, r1, r2⟩ := HAFT.out _ _ _ hA; have HDONE : Hid (OpenPost w pb (.slice av m cv) b0 b1 b2 commits most m xs (.returned (.bool true)) (w3.setCell ⟨pb, 0, none⟩ v')) := r2; clear r2; obtain ⟨ao', cap', hv', _⟩ := hA.row.form; clear hA; subst hv')
 go_ret
 exact HDONE.out
theorem lopened (w : World) (pb : Nat) (kd a b c : Int) (s : ByteArray) (ao : Option Addr) (n cap : Nat) (vps b0 b1 b2 : Value) (commits most : Int) (m : Nat) (xs : List Value)
  (hblk : Blk w pb 34 (playC vps b0 b1 b2 commits most)) (hrow : Row w 44 2 vps m xs) (hm : (m + 1) * 16 ≤ 140737488355328) :
  Calls Tryz.prog 11 #[.pointer (some ⟨pb, 0, none⟩), .agg #[.int .i64 kd, .int .i64 a, .int .i64 b, .int .i64 c, .string s, .slice ao n cap]] w fun e w' => OpenPost w pb vps b0 b1 b2 commits most m xs e w' := by
 by_cases hb : b < 1 ∨ 3 < b
 · exact opened_bad w pb kd a b c s ao n cap vps b0 b1 b2 commits most m xs 1 (fun W => dnew_nodes b c W hb) (fun W => rnew_nodes b c W hb)
 · by_cases hc : c < 1 ∨ 6 < c
  · exact opened_bad w pb kd a b c s ao n cap vps b0 b1 b2 commits most m xs 2 (fun W => dnew_room b c W (by omega) (by omega) hc) (fun W => rnew_room b c W (by omega) (by omega) hc)
  · obtain ⟨q, rfl⟩ : ∃ q : Nat, b = q := ⟨b.toNat, by omega⟩
   exact opened_good w pb kd a c q s ao n cap vps b0 b1 b2 commits most m xs (by omega) (by omega) (by omega) (by omega) hblk hrow hm
def pickN (c : Int) (n : Nat) : Nat := (if c < 0 then (-(c + 1)).toNat else c.toNat) % n
theorem pickN_lt (c : Int) {n : Nat} (h : 0 < n) : pickN c n < n := Nat.mod_lt _ h
theorem rpick (w : World) (c : Int) (n : Nat) (h0 : -9223372036854775808 ≤ c) (h1 : c ≤ 9223372036854775807) (hn : 0 < n) (hm : n ≤ 4611686018427387904) :
  Calls Tryz.prog 13 #[.int .i64 c, .int .i64 n] w fun e w' => e = .returned (.int .i64 (pickN c n : Int)) ∧ w = w' := by
 have hnz : ((n : Int) == 0) = false := beq_eq_false_iff_ne.mpr (by omega)
 have hn1 : ((n : Int) == -1) = false := beq_eq_false_iff_ne.mpr (by omega)
 by_cases hc : c < 0
 · obtain ⟨m, hm'⟩ : ∃ m : Nat, -(c + 1) = (m : Int) := ⟨(-(c + 1)).toNat, by omega⟩
  obtain rfl : c = -(m : Int) - 1 := by omega
  have HP : Hid (((m % n : Nat) : Int) = (pickN (-(m : Int) - 1) n : Int)) := by
   show _ = _
   have : (-(-(m : Int) - 1 + 1)).toNat = m := by omega
   rw [pickN, if_pos hc, this]
  have hmn := Nat.mod_lt m hn
  have hmm : m % n ≤ m := Nat.mod_le _ _
  clear hm'
  go_enter Tryz.func13, Tryz.ntmps13
  go_wp2
  go_ret
  refine ⟨rt_int ?_, rfl⟩
  rw [← HP.out]
  simp
 · obtain ⟨m, rfl⟩ : ∃ m : Nat, c = (m : Int) := ⟨c.toNat, by omega⟩
  have HP : Hid (((m % n : Nat) : Int) = (pickN (m : Int) n : Int)) := by
   show _ = _
   rw [pickN, if_neg hc, Int.toNat_natCast]
  have hmn := Nat.mod_lt m hn
  have hmm : m % n ≤ m := Nat.mod_le _ _
  go_enter Tryz.func13, Tryz.ntmps13
  go_wp2
  go_ret
  refine ⟨rt_int ?_, rfl⟩
  rw [← HP.out]
  simp
end Go.Proofs.YtpfcacedpkaihaaGreat
