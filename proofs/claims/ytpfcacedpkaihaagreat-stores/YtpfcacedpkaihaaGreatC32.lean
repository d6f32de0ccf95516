import Derived.Test.YtpfcacedpkaihaaGreatC17
import Derived.Test.YtpfcacedpkaihaaGreatC31
import Derived.Deep.RegionLawGrows
import Derived.Deep.RegionWith
import Derived.Test.YtpfcacedpkaihaaGreatC23
import Derived.Test.YtpfcacedpkaihaaGreatC8
namespace Go.Proofs.YtpfcacedpkaihaaGreat
open Go.RowKit
set_option maxRecDepth 100000
set_option maxHeartbeats 16000000
structure DP.Good (P : DP) (n : Nat) : Prop where
 pmax : P.past.length ≤ 700
 clk0 : 0 ≤ P.clock
 clk1 : P.clock ≤ 100000
 bmax : P.begun ≤ 200
 qmax : P.puts.length ≤ 10
 s1 : 0 < P.sites.length
 s3 : P.sites.length ≤ 3
 sites : ∀ s ∈ P.sites, s.Good P.past.length n
 puts : ∀ e ∈ P.puts, EntOk e P.past.length
theorem DP.Good.walk {D : DevS} {n : Nat} (h : D.pu.Good n) (hn : n < 9223372036854775807) : D.Walk := by
 have e : D.pu.sites = D.nodes.map (·.p) := rfl
 have hl : D.pu.sites.length = D.nodes.length := by rw [e, List.length_map]
 refine ⟨⟨h.pmax, h.clk0, h.clk1, h.bmax, h.qmax⟩, by rw [← hl]; exact h.s1, by rw [← hl]; exact h.s3, fun nd hnd => ?_, fun x hx => (h.puts x hx).q40⟩
 exact (h.sites nd.p (by rw [e]; exact List.mem_map_of_mem hnd)).walk h.pmax hn
theorem DP.Good.more {P : DP} {n n' : Nat} (h : P.Good n) (hn : n ≤ n') : P.Good n' :=
 ⟨h.pmax, h.clk0, h.clk1, h.bmax, h.qmax, h.s1, h.s3, fun s hs => (h.sites s hs).more (Nat.le_refl _) hn, h.puts⟩
theorem DP.Good.put {P : DP} {n : Nat} (h : P.Good n) (k : Int) {s : NodeP} (hs : s.Good P.past.length n) : (P.put k s).Good n := by
 refine ⟨h.pmax, h.clk0, h.clk1, h.bmax, h.qmax, by show 0 < (P.sites.set _ _).length; rw [List.length_set]; exact h.s1, by show (P.sites.set _ _).length ≤ 3; rw [List.length_set]; exact h.s3, fun x hx => ?_, h.puts⟩
 rcases List.mem_or_eq_of_mem_set hx with hx | rfl
 · exact h.sites x hx
 · exact hs
theorem DP.Good.drop {P : DP} {n : Nat} (h : P.Good n) (i : Int) : (P.drop i).2.Good n := by
 unfold DP.drop
 split
 · exact h
 · have hle := List.length_eraseIdx_le P.puts i.toNat
   exact ⟨h.pmax, h.clk0, h.clk1, h.bmax, by have := h.qmax; show (P.puts.eraseIdx _).length ≤ 10; omega, h.s1, h.s3, h.sites, fun e he => h.puts e (List.mem_of_mem_eraseIdx he)⟩
theorem DP.Good.store {P : DP} {n : Nat} (h : P.Good n) (i : Int) : (P.store i).2.2.Good (n + 1) := by
 unfold DP.store
 split
 · exact h.more (Nat.le_succ _)
 · cases he : P.puts[i.toNat]? with
   | none => exact h.more (Nat.le_succ _)
   | some e =>
    dsimp only
    cases hs : P.sites[P.nodeN e.q]? with
    | none => exact h.more (Nat.le_succ _)
    | some s =>
     dsimp only
     have hle := List.length_eraseIdx_le P.puts i.toNat
     refine ⟨h.pmax, h.clk0, h.clk1, h.bmax, by have := h.qmax; show (P.puts.eraseIdx _).length ≤ 10; omega, by show 0 < (P.sites.set _ _).length; rw [List.length_set]; exact h.s1, by show (P.sites.set _ _).length ≤ 3; rw [List.length_set]; exact h.s3, fun x hx => ?_, fun y hy => h.puts y (List.mem_of_mem_eraseIdx hy)⟩
     rcases List.mem_or_eq_of_mem_set hx with hx | rfl
     · exact (h.sites x hx).more (Nat.le_refl _) (Nat.le_succ _)
     · exact (h.sites s (List.mem_of_getElem? hs)).store (h.puts e (List.mem_of_getElem? he))
theorem DP.Good.push {P : DP} {n : Nat} (h : P.Good n) (q : PastE) (hp : P.past.length < 700) : (P.push q).Good n := by
 have e : (P.past ++ [q]).length = P.past.length + 1 := by simp
 refine ⟨by show (P.past ++ [q]).length ≤ 700; omega, h.clk0, h.clk1, h.bmax, h.qmax, by show 0 < (P.sites.map _).length; rw [List.length_map]; exact h.s1, by show (P.sites.map _).length ≤ 3; rw [List.length_map]; exact h.s3, fun x hx => ?_, fun y hy => (h.puts y hy).more (by show P.past.length ≤ (P.past ++ [q]).length; omega)⟩
 obtain ⟨s, hs, rfl⟩ := List.mem_map.mp hx
 show NodeP.Good _ (P.past ++ [q]).length n
 rw [e]
 exact (h.sites s hs).tell q.keys
theorem till_le {l : List PastE} {K : Int} {s : Nat} : ∀ n, tillN l K n = some s → s ≤ l.length - 1
 | 0, h => by simp [tillN] at h
 | n + 1, h => by
  simp only [tillN] at h
  split at h
  · injection h with h; omega
  · exact till_le n h
theorem readL_len {l : List UInt8} {ts : List (Nat × Nat)} (h : Q.readL l = (0, ts)) : l.length ≤ 40 := by
 unfold Q.readL at h
 split at h
 · simp at h
 · omega
theorem answer_ok {P : DP} {q : ByteArray} {ts : List (Nat × Nat)} {t : Nat} (hq : Q.readL q.data.toList = (0, ts)) (ht : t ≤ P.past.length) : EntOk (P.answer q ts t) P.past.length := by
 have hl := readL_len hq
 have hql : q.data.toList.length = q.size := by rw [Array.length_toList]; rfl
 have e : (zeroP :: P.past).length - 1 = P.past.length := by simp
 have hfr := fromN_le (zeroP :: P.past) (keysL ts) t
 refine ⟨by show q.size ≤ 40; omega, by show (zeroP :: P.past).length - 1 ≤ _; omega, ?_, fun ho => ?_, fun ho => ?_⟩
 · show (tillN (zeroP :: P.past) (keysL ts) ((zeroP :: P.past).length - 1 - t)).getD 0 ≤ _
   cases h : tillN (zeroP :: P.past) (keysL ts) ((zeroP :: P.past).length - 1 - t) with
   | none => simp
   | some s => have := till_le _ h; simp only [Option.getD_some]; omega
 · have ho' : (tillN (zeroP :: P.past) (keysL ts) ((zeroP :: P.past).length - 1 - t)).isNone = false := ho
   show fromN _ _ t < (tillN (zeroP :: P.past) (keysL ts) ((zeroP :: P.past).length - 1 - t)).getD 0
   cases h : tillN (zeroP :: P.past) (keysL ts) ((zeroP :: P.past).length - 1 - t) with
   | none => rw [h] at ho'; cases ho'
   | some s => have := till_pos _ (by omega) h; simp only [Option.getD_some]; omega
 · show fromN _ _ t ≤ (zeroP :: P.past).length - 1
   omega
theorem DP.Good.hit {P : DP} {n j k i : Nat} {s : NodeP} {x : HeldE} (h : P.Good n) (hs : P.sites[k]? = some s) (hx : s.ents[i]? = some x) : (P.hit j k i s x).Good (n + 1) := by
 refine ⟨h.pmax, h.clk0, h.clk1, h.bmax, h.qmax, by show 0 < (P.sites.set _ _).length; rw [List.length_set]; exact h.s1, by show (P.sites.set _ _).length ≤ 3; rw [List.length_set]; exact h.s3, fun y hy => ?_, h.puts⟩
 rcases List.mem_or_eq_of_mem_set hy with hy | rfl
 · exact (h.sites y hy).more (Nat.le_refl _) (Nat.le_succ _)
 · exact (h.sites s (List.mem_of_getElem? hs)).use hx
theorem DP.Good.miss {P : DP} {n j : Nat} {e : EntE} (h : P.Good n) (he : EntOk e P.past.length) : (P.miss j e).Good n := by
 have hq := h.qmax
 refine ⟨h.pmax, h.clk0, h.clk1, h.bmax, ?_, h.s1, h.s3, h.sites, fun y hy => ?_⟩
 · show (if P.puts.length < 10 then P.puts ++ [e] else P.puts).length ≤ 10
   split
   · simp; omega
   · exact hq
 · have hy' : y ∈ (if P.puts.length < 10 then P.puts ++ [e] else P.puts) := hy
   split at hy'
   · rw [List.mem_append, List.mem_singleton] at hy'
     rcases hy' with hy' | rfl
     · exact h.puts y hy'
     · exact he
   · exact h.puts y hy'
theorem DP.Good.seats {P : DP} {n : Nat} (h : P.Good n) (f : Nat → SeatE) (m : Nat) (hm : m ≤ 200) : ({ P with seats := f, begun := m } : DP).Good n := ⟨h.pmax, h.clk0, h.clk1, hm, h.qmax, h.s1, h.s3, h.sites, h.puts⟩
def newP (room : Int) : NodeP := ⟨true, room, 0, [], [], [], 0, []⟩
def newDN (room : Int) : DNodeE := ⟨newP room, nilV, nilV, nilV, nilV⟩
def newD (room : Int) (k : Nat) (vn : Value) : DevS := ⟨0, [], 0, fun _ => ⟨false, 0, 0, 0⟩, [], nilV, nilV, List.replicate k (newDN room), vn⟩
theorem newDN_nil (room : Int) : ∀ r ∈ dnodeR (newDN room), r.v = .slice none 0 0 ∧ r.n = 0 ∧ r.xs = [] := by
 intro r hr
 simp only [dnodeR, newDN, List.mem_cons, List.not_mem_nil, or_false] at hr
 rcases hr with rfl | rfl | rfl | rfl <;> exact ⟨rfl, rfl, rfl⟩
theorem newD_fp {room : Int} {k b x : Nat} {vn : Value} (h : (newD room k vn).fp b x) : x = b ∨ vn.ownBlock = some x := by
 rcases h with h | ⟨r, hr, hx⟩
 · exact .inl h
 · simp only [DevS.rows, newD, List.mem_cons, List.mem_flatMap] at hr
   rcases hr with rfl | rfl | rfl | ⟨nd, hnd, hr⟩
   · simp [nilV, Value.ownBlock] at hx
   · simp [nilV, Value.ownBlock] at hx
   · exact .inr hx
   · obtain rfl := List.eq_of_mem_replicate hnd
     rw [(newDN_nil room r hr).1] at hx; simp [Value.ownBlock] at hx
structure NewDL (w wr : World) (room : Int) (k : Nat) (vn : Value) : Prop where
 dev : Dev wr w.heap.size (newD room k vn)
 kept : Kept (fun _ => False) w wr
 own : ∀ x, vn.ownBlock = some x → w.heap.size ≤ x
theorem NewDL.start (w : World) (room : Int) : NewDL w (w.alloc (.cells (newD room 0 nilV).cells 129)) room 0 nilV := by
 refine ⟨⟨Blk.new _ _ _, rows_nil fun r hr => ?_⟩, Kept.alloc _ _ _, fun x hx => by simp [nilV, Value.ownBlock] at hx⟩
 simp only [DevS.rows, newD, List.replicate_zero, List.flatMap_nil, List.mem_cons, List.not_mem_nil, or_false] at hr
 rcases hr with rfl | rfl | rfl <;> exact ⟨rfl, rfl, rfl⟩
theorem NewDL.next {w wr w' : World} {room : Int} {k : Nat} {vn v : Value} (h : NewDL w wr room k vn) (hA : Appended wr w' 139 8 vn v k 1 ((List.replicate k (newDN room)).flatMap dnodeC) (dnodeC (newDN room))) :
 NewDL w (w'.setCell ⟨w.heap.size, 28, none⟩ v) room (k + 1) v := by
 have r := h.dev
 have k1 := hA.kept
 have k2 := Kept.setCell w' ⟨w.heap.size, 28, none⟩ v
 have ownv : ∀ x, v.ownBlock = some x → vn.ownBlock = some x ∨ wr.heap.size ≤ x := fun x hx => hA.own.imp (fun e => by rw [← e]; exact hx) (fun e => e x hx)
 have blk1 : Blk w' w.heap.size _ _ := r.blk.kept k1 fun he => r.nodes.ne_block r.blk (by decide) he
 have hn : RowD.Is w' ⟨139, 8, v, (List.replicate (k + 1) (newDN room)).length, (List.replicate (k + 1) (newDN room)).flatMap dnodeC⟩ := by
  show Row w' _ 8 v (List.replicate (k + 1) (newDN room)).length ((List.replicate (k + 1) (newDN room)).flatMap dnodeC)
  rw [List.length_replicate, List.replicate_succ', List.flatMap_append]
  simpa using hA.row
 have all1 := (r.all.put 2 (newD room k vn).nodeD ⟨139, 8, v, (List.replicate (k + 1) (newDN room)).length, (List.replicate (k + 1) (newDN room)).flatMap dnodeC⟩ rfl k1 hn ownv).more (newDN_nil room)
 have er : (newD room (k + 1) v).rows = ((newD room k vn).rows.set 2 ⟨139, 8, v, (List.replicate (k + 1) (newDN room)).length, (List.replicate (k + 1) (newDN room)).flatMap dnodeC⟩) ++ dnodeR (newDN room) := by
  show _ :: _ :: _ :: (List.replicate (k + 1) (newDN room)).flatMap dnodeR = _ :: _ :: _ :: ((List.replicate k (newDN room)).flatMap dnodeR ++ dnodeR (newDN room))
  have e : (List.replicate (k + 1) (newDN room)).flatMap dnodeR = (List.replicate k (newDN room)).flatMap dnodeR ++ dnodeR (newDN room) := by rw [List.replicate_succ', List.flatMap_append]; simp
  rw [e]; rfl
 refine ⟨⟨blk1.set 28 v, ?_⟩, h.kept.trans (k1.trans k2 (H := fun x => vn.ownBlock = some x ∨ x = w.heap.size) (fun x hx => .inl hx) (fun x _ hx => .inr hx)) (fun _ => id) (fun x hx hf => ?_), fun x hx => ?_⟩
 · rw [er]
   refine all1.kept k2 ?_
   rintro j ⟨a, ha, hj⟩ he
   subst he
   exact (all1.row a ha).ne_block blk1 (drows_ne_world (D := newD room (k + 1) v) (by rw [er]; exact ha)) hj
 · rcases hf with hf | hf
   · have := h.own x hf; omega
   · omega
 · rcases ownv x hx with e | e
   · exact h.own x e
   · exact Nat.le_trans h.kept.size e
def newA (room : Int) : Array Value := #[.bool true, .int .i64 room, .int .u64 0, .slice none 0 0, .slice none 0 0, .slice none 0 0, .int .u64 0]
theorem dmnew (room : Int) (w : World) : Calls Tryz.prog 70 #[.int .i64 room] w fun e w' => e = .returned (.agg (newA room)) ∧ Kept (fun _ => False) w w' := by
 go_enter Tryz.func70, Tryz.ntmps70
 go_wp2
 exact bodyPost_ret (v := .agg (newA room)) (by simp [results, Tryz.results70, go_sem, newA]) rfl ⟨rfl, Kept.alloc _ _ _⟩
theorem Tryz.infoSite : (Tryz.prog.info? 139).map (fun i => (i.zero, i.size, i.bytes)) = some (some (.agg #[.bool false, .int .i64 0, .int .u64 0, .slice none 0 0, .slice none 0 0, .slice none 0 0, .int .u64 0, .slice none 0 0]), 8, 128) := by kernel_rfl
theorem oneCell_dnode (room : Int) : ∀ u ∈ dnodeC (newDN room), u.oneCell' = true := by
 intro u hu; simp [dnodeC, newDN, nilV] at hu; rcases hu with rfl | rfl | rfl | rfl | rfl | rfl | rfl | rfl <;> rfl
theorem news_dnode (w : World) (room : Int) (t : TypeId) : ∀ j u, (dnodeC (newDN room))[j]? = some u → (w.alloc (.cells #[.bool true, .int .i64 room, .int .u64 0, .slice none 0 0, .slice none 0 0, .slice none 0 0, .int .u64 0, .slice none 0 0] t)).cell? ((⟨w.heap.size, 0, none⟩ : Addr).add j) = some u := by
 intro j u hj
 have e : (⟨w.heap.size, 0, none⟩ : Addr).add j = ⟨w.heap.size, j, none⟩ := by cases j <;> simp [Addr.add]
 rw [e, World.cell?_alloc_at _ _ _ _ rfl]
 simpa [dnodeC, newDN, newP, nilV] using hj
theorem step_call {P : Program} {w : World} {ops : Array Oper} {o : Oper} {a : Act} {K : Act → World → Prop} {Q : Exit → Act → World → Prop} {E : Prop} (hgd : o.guard = none) (f : FuncId) (A : Array Operand) (ts : Array TypeId) (ho : o.op = .call { callee := .value (.func f), args := A, argTypes := ts }) (args : Array Value) (hargs : A.toList.map a.eval = args.toList) (v : Value) (Post : World → Prop)
 (hrun : (Deferred.ofValue (a.eval (.func f)) args).run P w = .ok ⟨.fn (.func f) #[], args⟩ w) (hrun2 : (invoke (.fn (.func f) #[]) args).run P w = .ok (.enter f args) w) (hc : Calls P f args w fun e w' => e = .returned v ∧ Post w') (h : ∀ w', Post w' → K (a.put o.dst v) w') : if Region.wanted o (yielded ops a.tmps) = true then Oper.wp P o a w K Q else E := by
 have hw : Region.wanted o (yielded ops a.tmps) = true := by simp [Region.wanted, hgd]
 rw [if_pos hw]
 unfold Oper.wp
 have hargs : A.map a.eval = args := Array.ext' (by rw [Array.toList_map]; exact hargs)
 have hr : (execOp a.eval o).run P w = .ok (.enter f args) w := by
  simp [execOp, ho, resolve, hargs, hrun, hrun2, Result.andThen]
 rw [hr, Oper.upon_enter]
 refine hc.mono fun e w'' hh => ?_
 obtain ⟨rfl, hp⟩ := hh
 exact h _ hp
theorem kdrew0 {W w : World} {n : Nat} (h : Kept (fun _ => False) (W.drewN n) w) : Kept (fun _ => False) W w := ((Kept.refl (fun _ => False) W).drewN n).trans h (fun _ => id) (fun _ _ => id)
theorem NewDL.row {w wr : World} {r : Int} {k : Nat} {v : Value} (h : NewDL w wr r k v) (o : Obj) : Row (wr.alloc o) 139 8 v k ((List.replicate k (newDN r)).flatMap dnodeC) := by
 have := h.dev.nodes.kept (Kept.alloc wr o (fun _ => False)) (fun _ _ => id)
 have e : (newD r k v).nodes.length = k := by simp [newD]
 rw [e] at this
 exact this
theorem NewDL.after {w wr w' : World} {r : Int} {k : Nat} {v v' : Value} {o : Obj} (h : NewDL w wr r k v) (hA : Appended (wr.alloc o) w' 139 8 v v' k 1 ((List.replicate k (newDN r)).flatMap dnodeC) (dnodeC (newDN r))) :
 w'.cell? ⟨w.heap.size, 28, none⟩ = some v ∧ w'.frozen? ⟨w.heap.size, 28, none⟩ = false ∧ Hid (NewDL w (w'.setCell ⟨w.heap.size, 28, none⟩ v') r (k + 1) v') := by
 have hA := hA.of_alloc
 have bb := h.dev.blk.kept hA.kept fun he => h.dev.nodes.ne_block h.dev.blk (by decide) he
 exact ⟨bb.cell 28, bb.free 28, h.next hA⟩
def DNewPost (w : World) (n : Nat) (room : Int) (e : Ending) (w' : World) : Prop :=
 e = .returned (.tuple #[.pointer (some ⟨w.heap.size, 0, none⟩), .int .i64 0]) ∧ ∃ vn, NewDL w w' room n vn
theorem dnew (n : Nat) (r : Int) (w : World) (h1 : 1 ≤ n) (h2 : n ≤ 3) (h3 : 1 ≤ r) (h4 : r ≤ 6) :
 Calls Tryz.prog 23 #[.int .i64 n, .int .i64 r] w fun e w' => DNewPost w n r e w' := by
 have hd0 : decide ((n : Int) < 1) = false := by simp; omega
 have hd1 : decide (r < 1) = false := by simp; omega
 obtain ⟨i1, hi, hz0, hz1, hz2⟩ := info_parts Tryz.infoSite
 have HN : Hid (Tryz.prog.info? 139 = some i1 ∧ i1.zero = some (.agg #[.bool false, .int .i64 0, .int .u64 0, .slice none 0 0, .slice none 0 0, .slice none 0 0, .int .u64 0, .slice none 0 0]) ∧ i1.size = 8 ∧ i1.bytes = 128) := ⟨hi, hz0, hz1, hz2⟩
 clear hi hz0 hz1 hz2
 have HNEW : Hid (∀ W, Calls Tryz.prog 70 #[.int .i64 r] W fun e w' => e = .returned (.agg #[.bool true, .int .i64 r, .int .u64 0, .slice none 0 0, .slice none 0 0, .slice none 0 0, .int .u64 0]) ∧ Kept (fun _ => False) W w') := fun W => dmnew r W
 have HST : Hid (NewDL w (w.alloc (.cells (newD r 0 nilV).cells 129)) r 0 nilV) := NewDL.start w r
 go_enter Tryz.func23, Tryz.ntmps23
 go_wp2
 go_loopw [22] (fun i wr => ∃ k : Nat, k ≤ n ∧ i = .int .i64 k ∧ Hid (∃ vn, NewDL w wr r k vn)) (fun i _ => n - (intOf i).toNat)
 case atStart => exact ⟨0, Nat.zero_le _, rfl, _, HST.out⟩
 case round =>
  obtain ⟨k, hk, rfl, HL⟩ := hrel
  obtain ⟨vn, hL⟩ := HL.out
  obtain ⟨ao, cap, hvn, _⟩ := hL.dev.nodes.form
  have hvn' : vn = .slice ao k cap := by have : (newD r k vn).nodes.length = k := by simp [newD]
                                         rw [this] at hvn; exact hvn
  subst hvn'
  have c28 : wr.cell? ⟨w.heap.size, 28, none⟩ = some (.slice ao k cap) := hL.dev.blk.cell 28
  have hz := hL.dev.blk.lt
  have HLL : Hid (NewDL w wr r k (.slice ao k cap)) := hL
  by_cases hlt : k < n
  · have HKW : Hid (∀ W, Kept (fun _ => False) wr W → NewDL w W r k (.slice ao k cap)) := fun W hW => ⟨hL.dev.kept hW (fun _ _ => id), hL.kept.trans hW (fun _ => id) (fun _ _ => id), hL.own⟩
    have k1 : k + 1 ≤ maxLen := by unfold maxLen; omega
    have k2 : (k + 1) * 128 ≤ 140737488355328 := by omega
    clear hL hvn
    go_wp2_with fail
    go_region_law first
     | (refine step_call rfl 70 #[.tmp 29] #[3] rfl #[.int .i64 r] rfl _ _ rfl (by simp [invoke, go_sem]) (HNEW.out _) ?_; intro w1 hk1; have HL1 : Hid (NewDL w w1 r k (.slice ao k cap)) := HKW.out _ (kdrew0 hk1); have d28 : w1.cell? ⟨w.heap.size, 28, none⟩ = some (.slice ao k cap) := HL1.out.dev.blk.cell 28; have e28 : ∀ o : Obj, (w1.alloc o).cell? ⟨w.heap.size, 28, none⟩ = some (.slice ao k cap) := fun o => (Kept.alloc w1 o (fun _ => False)).keep id d28; have HROW : Hid (∀ (o : Obj), Row (w1.alloc o) 139 8 (.slice ao k cap) k ((List.replicate k (newDN r)).flatMap dnodeC)) := fun o => HL1.out.row o; have HAFT : Hid (∀ (o : Obj) (w' : World) (v' : Value), Appended (w1.alloc o) w' 139 8 (.slice ao k cap) v' k 1 ((List.replicate k (newDN r)).flatMap dnodeC) (dnodeC (newDN r)) → w'.cell? ⟨w.heap.size, 28, none⟩ = some (.slice ao k cap) ∧ w'.frozen? ⟨w.heap.size, 28, none⟩ = false ∧ Hid (NewDL w (w'.setCell ⟨w.heap.size, 28, none⟩ v') r (k + 1) v')) := fun o w' v' hA => HL1.out.after hA; clear hk1)
     | (refine step_append_mine rfl (.tmp 28) (.tmp 32) 127 rfl 139 i1 (.agg #[.bool false, .int .i64 0, .int .u64 0, .slice none 0 0, .slice none 0 0, .slice none 0 0, .int .u64 0, .slice none 0 0]) 8 128 Tryz.underlying127 HN.out.1 HN.out.2.1 HN.out.2.2.1 HN.out.2.2.2 rfl (Nat.succ_pos 7) (.slice ao k cap) k ((List.replicate k (newDN r)).flatMap dnodeC) rfl (HROW.out _) ⟨w1.heap.size, 0, none⟩ 1 1 (dnodeC (newDN r)) rfl rfl (fun j u hj => news_dnode w1 r _ j u hj) (oneCell_dnode r) k1 k2 ?_; intro v' w' hA; obtain ⟨p1, p2, p3⟩ := HAFT.out _ _ _ hA; obtain ⟨ao', cap', hv', _⟩ := hA.row.form; clear hA; subst hv')
    all_goals
     go_wp2
     go_roundw
     case rel => exact ⟨k + 1, by omega, by go_num, _, p3.out⟩
     case measure => simp [intOf]; omega
  · have hkk : k = n := by omega
    subst hkk
    clear hL hvn
    go_wp2
    go_ret2
    exact ⟨rfl, _, HLL.out⟩
def u8C (x : Int) : List Value := [.int .u8 x]
def numS (t : Nat) : Int := bits .and .u64 (t : Int) 255 % 256
def waitN (p : NodeP) (n : Nat) : List Int := ((List.range n).filter fun i => waitsB p.waits (p.horizon + 2 + i)).map fun i => numS (p.horizon + 2 + i)
theorem waitN_yes {p : NodeP} {n : Nat} (h : waitsB p.waits (p.horizon + 2 + n) = true) : waitN p (n + 1) = waitN p n ++ [numS (p.horizon + 2 + n)] := by
 unfold waitN
 rw [List.range_succ, List.filter_append, List.map_append]
 simp [h]
theorem waitN_no {p : NodeP} {n : Nat} (h : waitsB p.waits (p.horizon + 2 + n) = false) : waitN p (n + 1) = waitN p n := by
 unfold waitN
 rw [List.range_succ, List.filter_append, List.map_append]
 simp [h]
theorem waitN_len (p : NodeP) (n : Nat) : (waitN p n).length ≤ n := by
 unfold waitN
 rw [List.length_map]
 have := List.length_filter_le (fun i => waitsB p.waits (p.horizon + 2 + i)) (List.range n)
 rw [List.length_range] at this
 exact this
theorem Kept.setO {A : Nat} {W X : World} (h : Kept (fun j => j = A) W X) (f : Nat) (v : Value) : Kept (fun j => j = A) W (X.setCell ⟨A, f, none⟩ v) :=
 h.trans (Kept.setCell X ⟨A, f, none⟩ v) (fun _ => id) (fun _ _ he => he)
theorem Tryz.infoU8 : (Tryz.prog.info? 5).map (fun i => (i.zero, i.size, i.bytes)) = some (some (.int .u8 0), 1, 1) := by kernel_rfl
theorem oneCell_u8 (x : Int) : ∀ u ∈ u8C x, u.oneCell' = true := by
 intro u hu; simp [u8C] at hu; subst hu; rfl
theorem news_u8 (w : World) (x : Int) (t : TypeId) : ∀ j u, (u8C x)[j]? = some u → (w.alloc (.cells #[.int .u8 x] t)).cell? ((⟨w.heap.size, 0, none⟩ : Addr).add j) = some u := by
 intro j u hj
 have e' : (⟨w.heap.size, 0, none⟩ : Addr).add j = ⟨w.heap.size, j, none⟩ := by cases j <;> simp [Addr.add]
 rw [e', World.cell?_alloc_at _ _ _ _ rfl]
 simpa [u8C] using hj
theorem oneCell_ent1 (x : EntE) : ∀ u ∈ entC x, u.oneCell' = true := by
 intro u hu; simp [entC] at hu; rcases hu with rfl | rfl | rfl | rfl | rfl | rfl <;> rfl
theorem news_ent1 (w : World) (e : EntE) (t : TypeId) : ∀ j u, (entC e)[j]? = some u → (w.alloc (.cells #[.string e.q, .int .i32 e.val, .int .u64 (e.fr : Int), .int .u64 (e.till : Int), .bool e.op, .int .u64 (e.kn : Int)] t)).cell? ((⟨w.heap.size, 0, none⟩ : Addr).add j) = some u := by
 intro j u hj
 have e' : (⟨w.heap.size, 0, none⟩ : Addr).add j = ⟨w.heap.size, j, none⟩ := by cases j <;> simp [Addr.add]
 rw [e', World.cell?_alloc_at _ _ _ _ rfl]
 simpa [entC] using hj
theorem dnumbers (w : World) (b k g : Nat) (D : DevS) (nd : DNodeE) (h : Dev w b D) (hnd : D.nodes[k]? = some nd) (ho : D.vn.ownBlock = some g) (hw : nd.p.Walk) :
 Calls Tryz.prog 150 #[.pointer (some ⟨g, k * 8, none⟩)] w fun e w' => ∃ ao cap, e = .returned (.slice ao (waitN nd.p 4).length cap) ∧ Hid (Grow 5 1 u8C w w' (.slice ao (waitN nd.p 4).length cap) (waitN nd.p 4)) := by
 have c2 : w.cell? ⟨g, k * 8 + 2, none⟩ = some (.int .u64 (nd.p.horizon : Int)) := h.nodeC hnd ho 2 (by omega) _ rfl
 have c4 : w.cell? ⟨g, k * 8 + 4, none⟩ = some nd.wt := h.nodeC hnd ho 4 (by omega) _ rfl
 have hz := hw.ok.hz
 have HW : Hid (∀ (W : World) (t : Nat), Kept (fun _ => False) w W → Calls Tryz.prog 151 #[.pointer (some ⟨g, k * 8, none⟩), .int .u64 t] W fun e w' => e = .returned (.bool (waitsB nd.p.waits t)) ∧ Kept (fun _ => False) W w') := fun W t hW => dwaits W g (k * 8) nd.wt nd.p.waits t (hW.hold c4) ((h.waits nd (List.mem_of_getElem? hnd)).kept hW (fun _ _ => id)) hw.ok.wl
 obtain ⟨i0, hi, hz0, hz1, hz2⟩ := info_parts Tryz.infoU8
 have HI : Hid (Tryz.prog.info? 5 = some i0 ∧ i0.zero = some (.int .u8 0) ∧ i0.size = 1 ∧ i0.bytes = 1) := ⟨hi, hz0, hz1, hz2⟩
 obtain ⟨p, hp⟩ : ∃ p, p = nd.p := ⟨_, rfl⟩
 rw [← hp] at HW hz c2 ⊢
 clear hi hz0 hz1 hz2 h hnd ho hw c4 hp
 go_enter Tryz.func150, Tryz.ntmps150
 go_wp2
 go_loopw [3, 5] (fun v sv wr => ∃ j : Nat, j ≤ 4 ∧ sv = .int .u64 ((p.horizon + 2 + j : Nat) : Int) ∧ Hid (Grow 5 1 u8C w wr v (waitN p j))) (fun _ sv _ => p.horizon + 6 - (intOf sv).toNat)
 case atStart => exact ⟨0, by omega, by go_num, Grow.start _ _ _ _⟩
 case round =>
  obtain ⟨j, hj, rfl, HG⟩ := hrel
  obtain ⟨av, cv, hvv, _⟩ := HG.out.row.form
  have hwl := waitN_len p j
  obtain ⟨n, hn⟩ : ∃ n, n = (waitN p j).length := ⟨_, rfl⟩
  rw [← hn] at hvv hwl
  subst hvv
  by_cases hlt : j < 4
  · have hd : ((p.horizon + 2 + j : Nat) : Int) < (p.horizon : Int) + 2 + 4 := by omega
    have b1 : n + 1 ≤ maxLen := by unfold maxLen; omega
    have b2 : (n + 1) * 1 ≤ 140737488355328 := by omega
    cases hb : waitsB p.waits (p.horizon + 2 + j) with
    | false =>
     have HX : Hid (waitN p (j + 1) = waitN p j) := waitN_no hb
     have HWJ : Hid (Calls Tryz.prog 151 #[.pointer (some ⟨g, k * 8, none⟩), .int .u64 ((p.horizon + 2 + j : Nat) : Int)] wr fun e w' => e = .returned (.bool false) ∧ Kept (fun _ => False) wr w') := by have := HW.out wr (p.horizon + 2 + j) HG.out.kept; rw [hb] at this; exact this
     clear hb hn
     go_wp2_with (go_at_call 151; refine HWJ.out.mono ?_; rintro e w1 ⟨rfl, hk1⟩)
     go_roundw
     case rel => exact ⟨j + 1, by omega, by go_num, by rw [HX.out]; exact HG.out.more hk1⟩
     case measure => simp [intOf]; omega
    | true =>
     have HX : Hid (waitN p (j + 1) = waitN p j ++ [numS (p.horizon + 2 + j)]) := waitN_yes hb
     have HWJ : Hid (Calls Tryz.prog 151 #[.pointer (some ⟨g, k * 8, none⟩), .int .u64 ((p.horizon + 2 + j : Nat) : Int)] wr fun e w' => e = .returned (.bool true) ∧ Kept (fun _ => False) wr w') := by have := HW.out wr (p.horizon + 2 + j) HG.out.kept; rw [hb] at this; exact this
     have HROW : Hid (∀ (W : World) (o : Obj), Kept (fun _ => False) wr W → Row (W.alloc o) 5 1 (.slice av n cv) n ((waitN p j).flatMap u8C)) := fun W o hW => by have := (HG.out.row.kept hW (fun _ _ => id)).kept (Kept.alloc W o (fun _ => False)) (fun _ _ => id); rw [← hn] at this; exact this
     have HNX : Hid (∀ (W : World) (o : Obj) (w' : World) (v' : Value), Kept (fun _ => False) wr W → Appended (W.alloc o) w' 5 1 (.slice av n cv) v' n 1 ((waitN p j).flatMap u8C) (u8C (numS (p.horizon + 2 + j))) → Grow 5 1 u8C w w' v' (waitN p j ++ [numS (p.horizon + 2 + j)])) := by
      intro W o w' v' hW hA
      rw [hn] at hA HG
      exact ((HG.out.more hW).more (Kept.alloc W o (fun _ => False))).next hA
     clear hb hn
     go_wp2_with first
      | (go_at_call 151; refine HWJ.out.mono ?_; rintro e w1 ⟨rfl, hk1⟩; have HK1 : Hid (Kept (fun _ => False) wr w1) := hk1; clear hk1)
      | (at_builtin; go_must (refine wpList_append_mine _ rfl (.tmp 21) (.tmp 25) 100 rfl 5 i0 (.int .u8 0) 1 1 Tryz.underlying100 HI.out.1 HI.out.2.1 HI.out.2.2.1 HI.out.2.2.2 rfl (by decide) (.slice av n cv) n _ rfl (HROW.out _ _ HK1.out) ⟨w1.heap.size, 0, none⟩ 1 1 (u8C (numS (p.horizon + 2 + j))) rfl rfl (fun j u hj => news_u8 w1 _ _ j u hj) (oneCell_u8 _) b1 b2 ?_); intro v' w2 hA; have HA : Hid (Grow 5 1 u8C w w2 v' (waitN p j ++ [numS (p.horizon + 2 + j)])) := HNX.out _ _ _ _ HK1.out hA; clear hA)
     go_roundw
     case rel => exact ⟨j + 1, by omega, by go_num, by rw [HX.out]; exact HA.out⟩
     case measure => simp [intOf]; omega
  · have hje : j = 4 := by omega
    subst hje
    have HG2 : Hid (Grow 5 1 u8C w wr (.slice av (waitN p 4).length cv) (waitN p 4)) := by rw [← hn]; exact HG.out
    go_wp2
    go_ret
    rw [hn]
    exact ⟨av, cv, rfl, HG2.out⟩
theorem dlook0 (w : World) (b k g : Nat) (D : DevS) (nd : DNodeE) (h : Dev w b D) (hnd : D.nodes[k]? = some nd) (ho : D.vn.ownBlock = some g) (hw : nd.p.Walk) :
 Calls Tryz.prog 109 #[.pointer (some ⟨g, k * 8, none⟩)] w fun e w' => ∃ wa wc ea ec, e = .returned (.agg #[.bool nd.p.up, .int .u64 (nd.p.horizon : Int), .slice wa (waitN nd.p 4).length wc, .slice ea nd.p.ents.length ec]) ∧ Hid (Grow 5 1 u8C w w' (.slice wa (waitN nd.p 4).length wc) (waitN nd.p 4) ∧ Grow 55 6 entC w w' (.slice ea nd.p.ents.length ec) (nd.p.ents.map (·.e))) := by
 have hr := h.ents nd (List.mem_of_getElem? hnd)
 obtain ⟨ao, cap, hv, hp⟩ := hr.helds
 have c5 : w.cell? ⟨g, k * 8 + 5, none⟩ = some nd.en := h.nodeC hnd ho 5 (by omega) _ rfl
 have c0 : w.cell? ⟨g, k * 8, none⟩ = some (.bool nd.p.up) := h.nodeC hnd ho 0 (by omega) _ rfl
 have c2 : w.cell? ⟨g, k * 8 + 2, none⟩ = some (.int .u64 (nd.p.horizon : Int)) := h.nodeC hnd ho 2 (by omega) _ rfl
 have hgl : g < w.heap.size := World.block_lt_of_cell? w _ c5
 have hel := hw.el
 rw [hv] at c5
 obtain ⟨l, hll⟩ : ∃ l, l = nd.p.ents := ⟨_, rfl⟩
 have HP : Hid (∀ j (hj : j < l.length), ∃ ge, ao = some ⟨ge, 0, none⟩ ∧ ge < w.heap.size ∧ ∀ f, f < 7 → w.cell? ⟨ge, j * 7 + f, none⟩ = (heldC l[j])[f]?) := by rw [hll]; exact hp
 have HN : Hid (∀ W, Kept (fun _ => False) w W → Calls Tryz.prog 150 #[.pointer (some ⟨g, k * 8, none⟩)] W fun e w' => ∃ ao cap, e = .returned (.slice ao (waitN nd.p 4).length cap) ∧ Hid (Grow 5 1 u8C W w' (.slice ao (waitN nd.p 4).length cap) (waitN nd.p 4))) := fun W hW => dnumbers W b k g D nd (h.kept hW (fun _ _ => id)) hnd ho hw
 have HC : Hid (∀ W, Kept (fun _ => False) w W → W.cell? ⟨g, k * 8, none⟩ = some (.bool nd.p.up) ∧ W.cell? ⟨g, k * 8 + 2, none⟩ = some (.int .u64 (nd.p.horizon : Int))) := fun W hW => ⟨hW.hold c0, hW.hold c2⟩
 rw [← hll] at hel c5 ⊢
 obtain ⟨wn, hwn⟩ : ∃ x, x = waitN nd.p 4 := ⟨_, rfl⟩
 obtain ⟨up, hup⟩ : ∃ x, x = nd.p.up := ⟨_, rfl⟩
 obtain ⟨hzn, hhz⟩ : ∃ x, x = nd.p.horizon := ⟨_, rfl⟩
 rw [← hwn] at HN ⊢
 rw [← hup, ← hhz] at HC ⊢
 obtain ⟨i0, hi, hz0, hz1, hz2⟩ := info_parts Tryz.infoEntry
 have HI : Hid (Tryz.prog.info? 55 = some i0 ∧ i0.zero = some (.agg #[.string ByteArray.empty, .int .i32 0, .int .u64 0, .int .u64 0, .bool false, .int .u64 0]) ∧ i0.size = 6 ∧ i0.bytes = 56) := ⟨hi, hz0, hz1, hz2⟩
 clear hi hz0 hz1 hz2 h hnd ho hw hr hp hv hll c0 c2 hwn hup hhz
 have HB : Hid (∀ o W, Kept (fun _ => False) (w.alloc (.cells #[.bool false, .int .u64 0, .slice none 0 0, .slice none 0 0] o)) W → Kept (fun _ => False) w W ∧ Blk W w.heap.size o #[.bool false, .int .u64 0, .slice none 0 0, .slice none 0 0]) := fun o W hW => ⟨(Kept.alloc _ _ _).trans hW (fun _ => id) (fun _ _ => id), (Blk.new w _ _).kept hW id⟩
 go_enter Tryz.func109, Tryz.ntmps109
 go_wp2
 obtain ⟨kW, bW⟩ := HB.out 102 _ (Kept.refl _ _)
 generalize w.alloc (.cells #[.bool false, .int .u64 0, .slice none 0 0, .slice none 0 0] 102) = W at kW bW ⊢
 have HKW : Hid (Kept (fun _ => False) w W ∧ Blk W w.heap.size 102 #[.bool false, .int .u64 0, .slice none 0 0, .slice none 0 0]) := ⟨kW, bW⟩
 clear kW bW HB
 go_loopw [3, 12] (fun v iv wr => ∃ j : Nat, j ≤ l.length ∧ iv = .int .i64 j ∧ Hid (Grow 55 6 entC W wr v ((l.take j).map (·.e)))) (fun _ iv _ => l.length - (intOf iv).toNat)
 case atStart => exact ⟨0, Nat.zero_le _, rfl, Grow.start _ _ _ _⟩
 case round =>
  obtain ⟨j, hj, rfl, HG⟩ := hrel
  obtain ⟨av, cv, hvv, _⟩ := HG.out.row.form
  have hfl : ((l.take j).map (·.e)).length = j := by rw [List.length_map, List.length_take]; omega
  rw [hfl] at hvv
  subst hvv
  have hkw : Kept (fun _ => False) w wr := HKW.out.1.trans HG.out.kept (fun _ => id) (fun _ _ => id)
  by_cases hlt : j < l.length
  · obtain ⟨ge, hao, hge, hc⟩ := HP.out j hlt
    have HX : Hid ((l.take (j + 1)).map (·.e) = (l.take j).map (·.e) ++ [l[j].e]) := by show _ = _; rw [List.take_succ_eq_append_getElem hlt, List.map_append]; rfl
    obtain ⟨x, hx⟩ : ∃ x, x = l[j] := ⟨_, rfl⟩
    rw [← hx] at hc HX
    have d0 : wr.cell? ⟨ge, j * 7, none⟩ = some (.string x.e.q) := hkw.hold (hc 0 (by omega))
    have d1 : wr.cell? ⟨ge, j * 7 + 1, none⟩ = some (.int .i32 x.e.val) := hkw.hold (hc 1 (by omega))
    have d2 : wr.cell? ⟨ge, j * 7 + 2, none⟩ = some (.int .u64 (x.e.fr : Int)) := hkw.hold (hc 2 (by omega))
    have d3 : wr.cell? ⟨ge, j * 7 + 3, none⟩ = some (.int .u64 (x.e.till : Int)) := hkw.hold (hc 3 (by omega))
    have d4 : wr.cell? ⟨ge, j * 7 + 4, none⟩ = some (.bool x.e.op) := hkw.hold (hc 4 (by omega))
    have d5 : wr.cell? ⟨ge, j * 7 + 5, none⟩ = some (.int .u64 (x.e.kn : Int)) := hkw.hold (hc 5 (by omega))
    have d6 : wr.cell? ⟨ge, j * 7 + 6, none⟩ = some (.int .u64 (x.used : Int)) := hkw.hold (hc 6 (by omega))
    have hj0 : (0 : Int) ≤ (j : Int) := by omega
    have hj1 : (j : Int) < (l.length : Int) := by omega
    have HROW : Hid (∀ o o', Row ((wr.alloc o).alloc o') 55 6 (.slice av j cv) j (((l.take j).map (·.e)).flatMap entC)) := fun o o' => by have := (HG.out.row.kept (Kept.alloc wr o (fun _ => False)) (fun _ _ => id)).kept (Kept.alloc _ o' (fun _ => False)) (fun _ _ => id); rw [hfl] at this; exact this
    have HNX : Hid (∀ (o o' : Obj) (w' : World) (v' : Value), Appended ((wr.alloc o).alloc o') w' 55 6 (.slice av j cv) v' j 1 (((l.take j).map (·.e)).flatMap entC) (entC x.e) → Grow 55 6 entC W w' v' ((l.take j).map (·.e) ++ [x.e])) := by
     intro o o' w' v' hA
     have hA' : Appended ((wr.alloc o).alloc o') w' 55 6 (.slice av j cv) v' ((l.take j).map (·.e)).length 1 (((l.take j).map (·.e)).flatMap entC) (entC x.e) := by rw [hfl]; exact hA
     exact (HG.out.more ((Kept.alloc wr o (fun _ => False)).allocNew o')).next hA'
    have b1 : j + 1 ≤ maxLen := by unfold maxLen; omega
    have b2 : (j + 1) * 56 ≤ 140737488355328 := by omega
    clear hx hc hge hfl hkw
    subst hao
    go_wp2_with (at_builtin; go_must (refine wpList_append_mine _ rfl (.tmp 16) (.tmp 19) 51 rfl 55 i0 (.agg #[.string ByteArray.empty, .int .i32 0, .int .u64 0, .int .u64 0, .bool false, .int .u64 0]) 6 56 Tryz.underlying51 HI.out.1 HI.out.2.1 HI.out.2.2.1 HI.out.2.2.2 rfl (by decide) (.slice av j cv) j _ rfl (HROW.out _ _) ⟨wr.heap.size + 1, 0, none⟩ 1 1 (entC x.e) rfl rfl (fun j u hj => by simpa using news_ent1 (wr.alloc _) x.e _ j u hj) (oneCell_ent1 x.e) b1 b2 ?_); intro v' w1 hA; have HA : Hid (Grow 55 6 entC W w1 v' ((l.take j).map (·.e) ++ [x.e])) := HNX.out _ _ _ _ hA; clear hA)
    go_roundw
    case rel => exact ⟨j + 1, by omega, by go_num, by rw [HX.out]; exact HA.out⟩
    case measure => simp [intOf]; omega
  · have hjn : j = l.length := by omega
    subst hjn
    have HG2 : Hid (Grow 55 6 entC W wr (.slice av l.length cv) (l.map (·.e))) := by have := HG.out; rw [List.take_length] at this; exact this
    have HKR : Hid (Kept (fun _ => False) w wr) := hkw
    clear hfl hkw HG
    go_wp2_with (go_at_call 150; refine (HN.out _ HKR.out).mono ?_; rintro e w1 ⟨wa, wc, rfl, HW⟩)
    obtain ⟨c0, c2⟩ := HC.out w1 (HKR.out.trans HW.out.kept (fun _ => id) (fun _ _ => id))
    have bR := (HKW.out.2.kept HG2.out.kept id).kept HW.out.kept id
    have r0 : w1.cell? ⟨w.heap.size, 0, none⟩ = some (.bool false) := bR.cell 0
    have r1 : w1.cell? ⟨w.heap.size, 1, none⟩ = some (.int .u64 0) := bR.cell 1
    have r2 : w1.cell? ⟨w.heap.size, 2, none⟩ = some (.slice none 0 0) := bR.cell 2
    have r3 : w1.cell? ⟨w.heap.size, 3, none⟩ = some (.slice none 0 0) := bR.cell 3
    have rf : ∀ i, w1.frozen? ⟨w.heap.size, i, none⟩ = false := fun i => bR.free i
    have hgne : g ≠ w.heap.size := by omega
    have HFIN : Hid (∀ W', Kept (fun k => k = w.heap.size) w1 W' → Grow 5 1 u8C w W' (.slice wa wn.length wc) wn ∧ Grow 55 6 entC w W' (.slice av l.length cv) (l.map (·.e))) := fun W' k => by
     have kk : Kept (fun _ => False) w W' := (HKR.out.trans HW.out.kept (fun _ => id) (fun _ _ => id)).trans k (fun _ => id) (fun i hi he => by omega)
     have hsw := HKW.out.1.size
     have hsz : W.heap.size ≤ wr.heap.size := HG2.out.kept.size
     have hbl : w.heap.size < W.heap.size := HKW.out.2.lt
     refine ⟨⟨HW.out.row.kept k (fun i hi he => by have := HW.out.new i hi; omega), kk, fun i hi => by have := HW.out.new i hi; omega⟩, ⟨((HG2.out.row.kept HW.out.kept (fun _ _ => id))).kept k (fun i hi he => by have := HG2.out.new i hi; omega), kk, fun i hi => by have := HG2.out.new i hi; omega⟩⟩
    clear bR
    go_region
    all_goals
     go_wp2
     refine bodyPost_ret (v := .agg #[.bool up, .int .u64 (hzn : Int), .slice wa wn.length wc, .slice av l.length cv]) (by simp [results, Tryz.results109, go_sem, *]) rfl ⟨wa, wc, av, cv, rfl, HFIN.out _ ?_⟩
     repeat first
      | with_reducible refine Kept.setO ?_ _ _
      | with_reducible exact Kept.refl _ _
      | with_reducible refine Kept.drewN ?_ _
      | with_reducible refine Kept.drew ?_
def LookOf (p : NodeP) (w w' : World) (wa ea : Option Addr) (wc ec : Nat) : Prop := Grow 5 1 u8C w w' (.slice wa (waitN p 4).length wc) (waitN p 4) ∧ Grow 55 6 entC w w' (.slice ea p.ents.length ec) (p.ents.map (·.e))
theorem dlook (w : World) (b k : Nat) (D : DevS) (nd : DNodeE) (h : Dev w b D) (hnd : D.nodes[k]? = some nd) (hw : nd.p.Walk) :
 Calls Tryz.prog 49 #[.pointer (some ⟨b, 0, none⟩), .int .i64 (k : Int)] w fun e w' => ∃ wa wc ea ec, e = .returned (.tuple #[.agg #[.bool nd.p.up, .int .u64 (nd.p.horizon : Int), .slice wa (waitN nd.p 4).length wc, .slice ea nd.p.ents.length ec], .int .i64 0]) ∧ Hid (LookOf nd.p w w' wa ea wc ec) := by
 have hk : k < D.nodes.length := (List.getElem?_eq_some_iff.mp hnd).1
 obtain ⟨g, cv, hv, ho, hgl⟩ := h.nodes.block (by omega)
 have HS : Hid (∀ W, Kept (fun _ => False) w W → Calls Tryz.prog 106 #[.pointer (some ⟨b, 0, none⟩), .int .i64 (k : Int)] W fun e w' => e = .returned (.tuple #[.pointer (some ⟨g, k * 8, none⟩), .int .i64 0]) ∧ W = w') := fun W hW => dsite W b k g D (h.kept hW (fun _ _ => id)) hk ho
 have HL : Hid (∀ W, Kept (fun _ => False) w W → Calls Tryz.prog 109 #[.pointer (some ⟨g, k * 8, none⟩)] W fun e w' => ∃ wa wc ea ec, e = .returned (.agg #[.bool nd.p.up, .int .u64 (nd.p.horizon : Int), .slice wa (waitN nd.p 4).length wc, .slice ea nd.p.ents.length ec]) ∧ Hid (Grow 5 1 u8C W w' (.slice wa (waitN nd.p 4).length wc) (waitN nd.p 4) ∧ Grow 55 6 entC W w' (.slice ea nd.p.ents.length ec) (nd.p.ents.map (·.e)))) := fun W hW => dlook0 W b k g D nd (h.kept hW (fun _ _ => id)) hnd ho hw
 obtain ⟨p, hp⟩ : ∃ p, p = nd.p := ⟨_, rfl⟩
 rw [← hp] at HL ⊢
 clear h hnd hw hk hv ho hp
 go_enter Tryz.func49, Tryz.ntmps49
 go_wp2_with first
  | (go_at_call 106; refine (HS.out _ (Kept.alloc _ _ _)).mono ?_; rintro e w1 ⟨rfl, rfl⟩)
  | (go_at_call 109; refine (HL.out _ (Kept.alloc _ _ _)).mono ?_; rintro e w1 ⟨wa, wc, ea, ec, rfl, HG⟩; have bR := (Blk.new w 102 #[.bool false, .int .u64 0, .slice none 0 0, .slice none 0 0]).kept HG.out.1.kept id; have r0 : w1.cell? ⟨w.heap.size, 0, none⟩ = some (.bool false) := bR.cell 0; have r1 : w1.cell? ⟨w.heap.size, 1, none⟩ = some (.int .u64 0) := bR.cell 1; have r2 : w1.cell? ⟨w.heap.size, 2, none⟩ = some (.slice none 0 0) := bR.cell 2; have r3 : w1.cell? ⟨w.heap.size, 3, none⟩ = some (.slice none 0 0) := bR.cell 3; have rf : ∀ i, w1.frozen? ⟨w.heap.size, i, none⟩ = false := fun i => bR.free i; clear bR)
 refine bodyPost_ret (v := .tuple #[.agg #[.bool p.up, .int .u64 (p.horizon : Int), .slice wa (waitN p 4).length wc, .slice ea p.ents.length ec], .int .i64 0]) (by simp [results, Tryz.results49, go_sem, *]) rfl ⟨wa, wc, ea, ec, rfl, ?_⟩
 have hF : ∀ W', Kept (fun k => k = w.heap.size) w1 W' → LookOf p w W' wa ea wc ec := fun W' k => by
  have hsz : (w.alloc (.cells #[.bool false, .int .u64 0, .slice none 0 0, .slice none 0 0] 102)).heap.size = w.heap.size + 1 := by simp
  have kk : Kept (fun _ => False) w W' := ((Kept.alloc _ _ _).trans HG.out.1.kept (fun _ => id) (fun _ _ => id)).trans k (fun _ => id) (fun i hi he => by omega)
  refine ⟨⟨HG.out.1.row.kept k (fun i hi he => by have := HG.out.1.new i hi; omega), kk, fun i hi => by have := HG.out.1.new i hi; omega⟩, ⟨HG.out.2.row.kept k (fun i hi he => by have := HG.out.2.new i hi; omega), kk, fun i hi => by have := HG.out.2.new i hi; omega⟩⟩
 refine hF _ ?_
 repeat first
  | with_reducible refine Kept.setO ?_ _ _
  | with_reducible exact Kept.refl _ _
theorem dlook_bad (w : World) (b : Nat) (D : DevS) (k : Int) (h : Dev w b D) (hk : k < 0 ∨ (D.nodes.length : Int) ≤ k) :
 Calls Tryz.prog 49 #[.pointer (some ⟨b, 0, none⟩), .int .i64 k] w fun e w' => e = .returned (.tuple #[.agg #[.bool false, .int .u64 0, .slice none 0 0, .slice none 0 0], .int .i64 9]) ∧ Kept (fun _ => False) w w' := by
 have HS : Hid (∀ W, Kept (fun _ => False) w W → Calls Tryz.prog 106 #[.pointer (some ⟨b, 0, none⟩), .int .i64 k] W fun e w' => e = .returned (.tuple #[.pointer none, .int .i64 9]) ∧ W = w') := fun W hW => dsite_bad W b D k (h.kept hW (fun _ _ => id)) hk
 clear h hk
 go_enter Tryz.func49, Tryz.ntmps49
 go_wp2_with (go_at_call 106; refine (HS.out _ (Kept.alloc _ _ _)).mono ?_; rintro e w1 ⟨rfl, rfl⟩)
 refine bodyPost_ret (v := .tuple #[.agg #[.bool false, .int .u64 0, .slice none 0 0, .slice none 0 0], .int .i64 9]) (by simp [results, Tryz.results49, go_sem]) rfl ⟨rfl, ?_⟩
 have hF : ∀ W', Kept (fun k => k = w.heap.size) (w.alloc (.cells #[.bool false, .int .u64 0, .slice none 0 0, .slice none 0 0] 102)) W' → Kept (fun _ => False) w W' := fun W' k => (Kept.alloc w _ (fun _ => False)).trans k (fun _ => id) (fun i hi he => by omega)
 refine hF _ ?_
 repeat first
  | with_reducible refine Kept.setO ?_ _ _
  | with_reducible exact Kept.refl _ _
theorem u8s_at {l : List Int} {j : Nat} (h : j < l.length) : (l.flatMap u8C)[j]? = some (.int .u8 l[j]) := by
 have := flat_at u8C 1 (fun _ => rfl) l j h 0 (by omega)
 rw [Nat.mul_one, Nat.add_zero] at this
 rw [this]
 rfl
theorem Row.u8At {w : World} {v : Value} {l : List Int} (h : Row w 5 1 v l.length (l.flatMap u8C)) (j : Nat) (hj : j < l.length) : ∃ g cap, v = .slice (some ⟨g, 0, none⟩) l.length cap ∧ w.cell? ⟨g, j, none⟩ = some (.int .u8 l[j]) := by
 obtain ⟨g, cap, hv, ho, _⟩ := h.block (by omega)
 exact ⟨g, cap, hv, h.cell ho j _ (u8s_at hj)⟩
theorem rsameBytes (w : World) (va vb : Value) (l : List Int) (hl : l.length ≤ 1000000) (ha : Row w 5 1 va l.length (l.flatMap u8C)) (hb : Row w 5 1 vb l.length (l.flatMap u8C)) :
 Calls Tryz.prog 51 #[va, vb] w fun e w' => e = .returned (.bool true) ∧ Kept (fun _ => False) w w' := by
 obtain ⟨aa, ca, hva, _⟩ := ha.form
 obtain ⟨ab, cb, hvb, _⟩ := hb.form
 subst hva
 subst hvb
 have HA : Hid (∀ j (hj : j < l.length), ∃ g, aa = some ⟨g, 0, none⟩ ∧ w.cell? ⟨g, j, none⟩ = some (.int .u8 l[j])) := by
  intro j hj
  obtain ⟨g, cap, hv, he⟩ := ha.u8At j hj
  injection hv with e1 _ _
  exact ⟨g, e1, he⟩
 have HB : Hid (∀ j (hj : j < l.length), ∃ g, ab = some ⟨g, 0, none⟩ ∧ w.cell? ⟨g, j, none⟩ = some (.int .u8 l[j])) := by
  intro j hj
  obtain ⟨g, cap, hv, he⟩ := hb.u8At j hj
  injection hv with e1 _ _
  exact ⟨g, e1, he⟩
 obtain ⟨n, hn⟩ : ∃ n, n = l.length := ⟨_, rfl⟩
 rw [← hn]
 have HN : Hid (n = l.length) := hn
 rw [← hn] at hl
 clear ha hb hn
 go_enter Tryz.func51, Tryz.ntmps51
 go_wp2
 go_loopw [5] (fun k wr => ∃ j : Nat, j ≤ n ∧ k = .int .i64 j ∧ Hid (Kept (fun _ => False) w wr)) (fun k _ => n - (intOf k).toNat)
 case atStart => exact ⟨0, Nat.zero_le _, rfl, Kept.refl _ _⟩
 case round =>
  obtain ⟨j, hj, rfl, HK⟩ := hrel
  by_cases hlt : j < n
  · obtain ⟨ga, hga, hea⟩ := HA.out j (by rw [← HN.out]; exact hlt)
    obtain ⟨gb, hgb, heb⟩ := HB.out j (by rw [← HN.out]; exact hlt)
    obtain ⟨e, he⟩ : ∃ e, e = l[j]'(by rw [← HN.out]; exact hlt) := ⟨_, rfl⟩
    rw [← he] at hea heb
    clear he
    replace hea := HK.out.hold hea
    replace heb := HK.out.hold heb
    subst hga
    subst hgb
    have hj0 : (0 : Int) ≤ (j : Int) := by omega
    have hj1 : (j : Int) < (n : Int) := by omega
    go_wp2_with fail
    go_quiet (fail)
    go_wp2
    go_roundw
    case rel => exact ⟨j + 1, by omega, by go_num, HK.out.drewN _⟩
    case measure => simp [intOf]; omega
  · go_wp2
    go_ret
    exact ⟨rfl, HK.out⟩
def digitN (i d : Nat) : Nat := i / 251 ^ d % 251
theorem rdigit (w : World) (i d : Nat) (hi : i ≤ 4611686018427387904) (hd : d ≤ 3) :
 Calls Tryz.prog 68 #[.int .i64 i, .int .i64 d] w fun e w' => e = .returned (.int .u8 ((digitN i d : Nat) : Int)) ∧ w = w' := by
 go_enter Tryz.func68, Tryz.ntmps68
 go_wp2
 go_loop [0, 5] (fun iv k => ∃ t : Nat, t ≤ d ∧ k = .int .i64 t ∧ ∃ x : Nat, iv = .int .i64 x ∧ Hid (x = i / 251 ^ t ∧ x ≤ i)) (fun _ k => d - (intOf k).toNat)
 case atStart => exact ⟨0, Nat.zero_le _, rfl, i, rfl, by simp, Nat.le_refl _⟩
 case round =>
  obtain ⟨t, ht, rfl, x, rfl, HX⟩ := hrel
  have hxi := HX.out.2
  have hx0 : (0 : Int) ≤ (x : Int) := by omega
  by_cases hlt : t < d
  · have htd : (t : Int) < (d : Int) := by omega
    go_wp2
    go_round
    case rel =>
     refine ⟨t + 1, by omega, by go_num, x / 251, by first | rfl | (simp; done) | go_num, ?_, ?_⟩
     · rw [HX.out.1, Nat.pow_succ, Nat.div_div_eq_div_mul]
     · exact Nat.le_trans (Nat.div_le_self _ _) HX.out.2
    case measure => simp [intOf]; omega
  · have htd : t = d := by omega
    subst htd
    have HD : Hid (digitN i t = x % 251) := by show _ = _; rw [digitN, HX.out.1]
    go_wp2
    go_ret
    refine ⟨?_, rfl⟩
    rw [HD.out]
    first | rfl | (simp; done) | go_num
end Go.Proofs.YtpfcacedpkaihaaGreat
