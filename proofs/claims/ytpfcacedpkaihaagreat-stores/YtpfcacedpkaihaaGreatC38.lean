import Derived.Test.YtpfcacedpkaihaaGreatC37
import Derived.Deep.RegionHeld3
import Derived.Deep.DeepCutAuto
import Derived.Laws.AppendOwnNone
import Derived.Test.YtpfcacedpkaihaaGreatC16
namespace Go.Proofs.YtpfcacedpkaihaaGreat
open Go.RowKit
set_option maxRecDepth 100000
set_option maxHeartbeats 16000000
structure PairE where
 xb : Nat
 cb : Nat
 D : DevS
 R : RefS
def pairC (p : PairE) : List Value := [.pointer (some ⟨p.xb, 0, none⟩), .pointer (some ⟨p.cb, 0, none⟩)]
def PairE.fp (p : PairE) (k : Nat) : Prop := pfp p.xb p.cb p.D p.R k
structure Inv (B : Nat) (X : Nat → Prop) (w0 w : World) (pb : Nat) (ps : List PairE) (vps b0 b1 b2 : Value) (commits most : Int) : Prop where
 below : Below B w0 w
 blk : Blk w pb 34 (playC vps b0 b1 b2 commits most)
 row : Row w 44 2 vps ps.length (ps.flatMap pairC)
 each : ∀ p ∈ ps, Pair w p.xb p.cb p.D p.R
 sep : ∀ (i j : Nat) (a c : PairE), ps[i]? = some a → ps[j]? = some c → i ≠ j → ∀ k, a.fp k → ¬ c.fp k
 own : ∀ p ∈ ps, ∀ k, p.fp k → B ≤ k ∧ k ≠ pb ∧ vps.ownBlock ≠ some k ∧ ¬ X k
 pB : B ≤ pb ∧ ¬ X pb
 vB : ∀ k, vps.ownBlock = some k → B ≤ k ∧ ¬ X k
 xlt : ∀ k, X k → k < w.heap.size
 bsz : B ≤ w0.heap.size
theorem below_kept {B : Nat} {F : Nat → Prop} {w0 w w' : World} (h : Below B w0 w) (k : Kept F w w') (hB : B ≤ w0.heap.size) (hF : ∀ i, F i → B ≤ i) : Below B w0 w' :=
 ⟨k.os.trans h.os, k.tape.trans h.tape, k.output.trans h.output, Nat.le_trans h.size k.size, fun i hi =>
  (k.block i (by have := h.size; omega) (fun hf => by have := hF i hf; omega)).trans (h.block i hi)⟩
theorem Inv.kept {B : Nat} {X : Nat → Prop} {w0 w w' : World} {pb : Nat} {ps : List PairE} {vps b0 b1 b2 : Value} {commits most : Int} (h : Inv B X w0 w pb ps vps b0 b1 b2 commits most) (k : Kept (fun _ => False) w w') : Inv B X w0 w' pb ps vps b0 b1 b2 commits most :=
 ⟨below_kept h.below k h.bsz (fun _ => False.elim), h.blk.kept k id, h.row.kept k (fun _ _ => id), fun p hp => (h.each p hp).kept k (fun _ _ => id), h.sep, h.own, h.pB, h.vB, fun i hi => Nat.lt_of_lt_of_le (h.xlt i hi) k.size, h.bsz⟩
theorem flat_same_r {ps : List PairE} {i : Nat} {p p' : PairE} (hp : ps[i]? = some p) (he : pairC p' = pairC p) : (ps.set i p').flatMap pairC = ps.flatMap pairC := by
 induction ps generalizing i with
 | nil => simp at hp
 | cons a r ih =>
  match i with
  | 0 => simp at hp; subst hp; simp [he]
  | i + 1 => simp at hp; simp [ih hp]
theorem Inv.turn {B : Nat} {X : Nat → Prop} {w0 w w' : World} {pb : Nat} {ps : List PairE} {vps b0 b1 b2 : Value} {commits most commits' : Int} {i : Nat} {p : PairE} {D' : DevS} {R' : RefS} (h : Inv B X w0 w pb ps vps b0 b1 b2 commits most) (hi : ps[i]? = some p)
  (hp : Pair w' p.xb p.cb D' R') (hk : Kept (fun k => k = pb ∨ p.fp k) w w') (hf : ∀ k, pfp p.xb p.cb D' R' k → p.fp k ∨ w.heap.size ≤ k) (hb : Blk w' pb 34 (playC vps b0 b1 b2 commits' most)) :
  Inv B X w0 w' pb (ps.set i { p with D := D', R := R' }) vps b0 b1 b2 commits' most ∧ Kept (fun k => ¬ X k) w w' := by
 have hm : p ∈ ps := List.mem_of_getElem? hi
 have hlt := (List.getElem?_eq_some_iff.mp hi).1
 have hpl := h.blk.lt
 have hBw : B ≤ w.heap.size := Nat.le_trans h.bsz h.below.size
 have hF : ∀ k, (k = pb ∨ p.fp k) → B ≤ k ∧ ¬ X k := by
  rintro k (rfl | hk)
  · exact h.pB
  · exact ⟨(h.own p hm k hk).1, (h.own p hm k hk).2.2.2⟩
 have others : ∀ (j : Nat) (a : PairE), ps[j]? = some a → j ≠ i → Pair w' a.xb a.cb a.D a.R := by
  intro j a ha hj
  refine (h.each a (List.mem_of_getElem? ha)).kept hk ?_
  rintro k hka (e | hkp)
  · exact (h.own a (List.mem_of_getElem? ha) k hka).2.1 e
  · exact h.sep j i a p ha hi hj k hka hkp
 have getS : ∀ (j : Nat) (a : PairE), (ps.set i { p with D := D', R := R' })[j]? = some a → (j = i ∧ a = { p with D := D', R := R' }) ∨ (j ≠ i ∧ ps[j]? = some a) := by
  intro j a ha
  by_cases e : j = i
  · subst e; rw [List.getElem?_set_self hlt] at ha; injection ha with ha; exact .inl ⟨rfl, ha.symm⟩
  · rw [List.getElem?_set_ne (fun z => e z.symm)] at ha; exact .inr ⟨e, ha⟩
 refine ⟨⟨below_kept h.below hk h.bsz (fun k hk => (hF k hk).1), hb, ?_, ?_, ?_, ?_, h.pB, h.vB, fun k hx => Nat.lt_of_lt_of_le (h.xlt k hx) hk.size, h.bsz⟩, hk.mono (fun k hk => (hF k hk).2)⟩
 · rw [List.length_set, flat_same_r (p' := { p with D := D', R := R' }) hi rfl]
  refine h.row.kept hk ?_
  rintro k hv (rfl | hkp)
  · exact h.row.ne_block h.blk (by decide) hv
  · exact (h.own p hm k hkp).2.2.1 hv
 · intro a ha
  obtain ⟨j, hj⟩ := List.getElem?_of_mem ha
  rcases getS j a hj with ⟨_, rfl⟩ | ⟨hne, hj'⟩
  · exact hp
  · exact others j a hj' hne
 · intro j1 j2 a c ha hc hne k hka hkc
  rcases getS j1 a ha with ⟨e1, rfl⟩ | ⟨n1, ha'⟩
  · rcases getS j2 c hc with ⟨e2, _⟩ | ⟨n2, hc'⟩
   · omega
   · rcases hf k hka with x | x
    · exact h.sep i j2 p c hi hc' (fun z => n2 z.symm) k x hkc
    · have := (h.each c (List.mem_of_getElem? hc')).lt k hkc; omega
  · rcases getS j2 c hc with ⟨e2, rfl⟩ | ⟨n2, hc'⟩
   · rcases hf k hkc with x | x
    · exact h.sep j1 i a p ha' hi n1 k hka x
    · have := (h.each a (List.mem_of_getElem? ha')).lt k hka; omega
   · exact h.sep j1 j2 a c ha' hc' hne k hka hkc
 · intro a ha k hk
  obtain ⟨j, hj⟩ := List.getElem?_of_mem ha
  rcases getS j a hj with ⟨_, rfl⟩ | ⟨_, hj'⟩
  · rcases hf k hk with x | x
   · exact h.own p hm k x
   · refine ⟨by omega, by omega, fun hv => ?_, fun hx => ?_⟩
    · have := h.row.lt k hv; omega
    · have := h.xlt k hx; omega
  · exact h.own a (List.mem_of_getElem? hj') k hk
theorem Inv.more {B : Nat} {X : Nat → Prop} {w0 w w' : World} {pb xb cb : Nat} {ps : List PairE} {vps b0 b1 b2 v : Value} {commits most : Int} {D : DevS} {R : RefS} (h : Inv B X w0 w pb ps vps b0 b1 b2 commits most) (hp : Pair w' xb cb D R)
  (hr : Row w' 44 2 v (ps.length + 1) (ps.flatMap pairC ++ [.pointer (some ⟨xb, 0, none⟩), .pointer (some ⟨cb, 0, none⟩)])) (hb : Blk w' pb 34 (playC v b0 b1 b2 commits most))
  (hk : Kept (fun k => k = pb ∨ vps.ownBlock = some k) w w') (hn : ∀ k, pfp xb cb D R k → w.heap.size ≤ k) (hv : ∀ k, v.ownBlock = some k → vps.ownBlock = some k ∨ w.heap.size ≤ k) (hs : ∀ k, pfp xb cb D R k → v.ownBlock ≠ some k) :
  Inv B X w0 w' pb (ps ++ [⟨xb, cb, D, R⟩]) v b0 b1 b2 commits most ∧ Kept (fun k => ¬ X k) w w' := by
 have hpl := h.blk.lt
 have hBw : B ≤ w.heap.size := Nat.le_trans h.bsz h.below.size
 have hF : ∀ k, (k = pb ∨ vps.ownBlock = some k) → B ≤ k ∧ ¬ X k := by
  rintro k (rfl | hk)
  · exact h.pB
  · exact h.vB k hk
 have old : ∀ a ∈ ps, Pair w' a.xb a.cb a.D a.R := fun a ha => (h.each a ha).kept hk (by
  rintro k hka (e | hkv)
  · exact (h.own a ha k hka).2.1 e
  · exact (h.own a ha k hka).2.2.1 hkv)
 have getA : ∀ (j : Nat) (a : PairE), (ps ++ [(⟨xb, cb, D, R⟩ : PairE)])[j]? = some a → (j = ps.length ∧ a = ⟨xb, cb, D, R⟩) ∨ (j < ps.length ∧ ps[j]? = some a) := by
  intro j a ha
  by_cases e : j < ps.length
  · rw [List.getElem?_append_left e] at ha; exact .inr ⟨e, ha⟩
  · have hl := (List.getElem?_eq_some_iff.mp ha).1
   have : j = ps.length := by simp at hl; omega
   subst this
   simp at ha
   exact .inl ⟨rfl, ha.symm⟩
 refine ⟨⟨below_kept h.below hk h.bsz (fun k hk => (hF k hk).1), hb, ?_, ?_, ?_, ?_, h.pB, ?_, fun k hx => Nat.lt_of_lt_of_le (h.xlt k hx) hk.size, h.bsz⟩, hk.mono (fun k hk => (hF k hk).2)⟩
 · rw [List.length_append, List.flatMap_append]; exact hr
 · intro a ha
  rw [List.mem_append] at ha
  rcases ha with ha | ha
  · exact old a ha
  · simp at ha; subst ha; exact hp
 · intro j1 j2 a c ha hc hne k hka hkc
  rcases getA j1 a ha with ⟨e1, rfl⟩ | ⟨l1, ha'⟩
  · rcases getA j2 c hc with ⟨e2, _⟩ | ⟨l2, hc'⟩
   · omega
   · have := (h.each c (List.mem_of_getElem? hc')).lt k hkc; have := hn k hka; omega
  · rcases getA j2 c hc with ⟨e2, rfl⟩ | ⟨l2, hc'⟩
   · have := (h.each a (List.mem_of_getElem? ha')).lt k hka; have := hn k hkc; omega
   · exact h.sep j1 j2 a c ha' hc' hne k hka hkc
 · intro a ha k hk
  rw [List.mem_append] at ha
  rcases ha with ha | ha
  · have o := h.own a ha k hk
   refine ⟨o.1, o.2.1, fun hvk => ?_, o.2.2.2⟩
   rcases hv k hvk with x | x
   · exact o.2.2.1 x
   · have := (h.each a ha).lt k hk; omega
  · simp at ha; subst ha
   have := hn k hk
   refine ⟨by omega, by omega, hs k hk, fun hx => ?_⟩
   have := h.xlt k hx; omega
 · intro k hk
  rcases hv k hk with x | x
  · exact h.vB k x
  · exact ⟨by omega, fun hx => by have := h.xlt k hx; omega⟩
def SPost (B : Nat) (X : Nat → Prop) (w0 w : World) (pb : Nat) (ps : List PairE) (b0 b1 b2 : Value) (commits most : Int) (e : Ending) (w' : World) : Prop :=
 e = .returned (.bool true) ∧ Kept (fun k => ¬ X k) w w' ∧ ∃ ps' vps' commits', Inv B X w0 w' pb ps' vps' b0 b1 b2 commits' most ∧ ps'.length ≤ ps.length + 1 ∧ (commits' = commits ∨ commits' = commits + 1) ∧ ∀ M, (∀ p ∈ ps, p.R.uses.length ≤ M) → ∀ p ∈ ps', p.R.uses.length ≤ M + 1
theorem uses_set {ps : List PairE} {i M : Nat} {p : PairE} {D' : DevS} {R' : RefS} (hi : ps[i]? = some p) (hu : R'.uses.length ≤ p.R.uses.length + 1) (hM : ∀ p ∈ ps, p.R.uses.length ≤ M) : ∀ q ∈ ps.set i { p with D := D', R := R' }, q.R.uses.length ≤ M + 1 := by
 intro q hq
 rcases List.mem_or_eq_of_mem_set hq with hq | rfl
 · exact Nat.le_succ_of_le (hM q hq)
 · have := hM p (List.mem_of_getElem? hi)
  show R'.uses.length ≤ M + 1
  omega
theorem SPost.of_turned {B : Nat} {X : Nat → Prop} {w0 w w' : World} {pb : Nat} {ps : List PairE} {vps b0 b1 b2 : Value} {commits most : Int} {i : Nat} {p : PairE} (h : Inv B X w0 w pb ps vps b0 b1 b2 commits most) (hi : ps[i]? = some p) (ht : Turned w w' p.xb p.cb p.D p.R) :
  SPost B X w0 w pb ps b0 b1 b2 commits most (.returned (.bool true)) w' := by
 obtain ⟨D', R', hp, hk, hf, hu⟩ := ht
 have hb := h.blk.kept hk fun hpf => (h.own p (List.mem_of_getElem? hi) pb hpf).2.1 rfl
 obtain ⟨z1, z2⟩ := h.turn hi hp (hk.mono fun _ => .inr) hf hb
 exact ⟨rfl, z2, _, _, _, z1, by rw [List.length_set]; omega, .inl rfl, fun M hM => uses_set hi hu hM⟩
theorem SPost.of_commit {B : Nat} {X : Nat → Prop} {w0 w w' : World} {pb : Nat} {ps : List PairE} {vps b0 b1 b2 : Value} {commits most : Int} {i : Nat} {p : PairE} {e : Ending} (h : Inv B X w0 w pb ps vps b0 b1 b2 commits most) (hi : ps[i]? = some p) (ht : LCommitPost w pb p.xb p.cb p.D p.R vps b0 b1 b2 commits most e w') :
  SPost B X w0 w pb ps b0 b1 b2 commits most e w' := by
 obtain ⟨e1, hb, D', R', hp, hk, hf, hu⟩ := ht
 obtain ⟨z1, z2⟩ := h.turn hi hp hk hf hb
 exact ⟨e1, z2, _, _, _, z1, by rw [List.length_set]; omega, .inr rfl, fun M hM => uses_set hi hu hM⟩
theorem SPost.of_open {B : Nat} {X : Nat → Prop} {w0 w w' : World} {pb : Nat} {ps : List PairE} {vps b0 b1 b2 : Value} {commits most : Int} {e : Ending} (h : Inv B X w0 w pb ps vps b0 b1 b2 commits most) (ht : OpenPost w pb vps b0 b1 b2 commits most ps.length (ps.flatMap pairC) e w') :
  SPost B X w0 w pb ps b0 b1 b2 commits most e w' := by
 obtain ⟨e1, hk | ⟨xb, cb, D, R, v, hp, h0, hr, hb, hk, hn, hv, hs⟩⟩ := ht
 · exact ⟨e1, hk.mono (fun _ => False.elim), ps, vps, commits, h.kept hk, by omega, .inl rfl, fun M hM p hp => Nat.le_succ_of_le (hM p hp)⟩
 · obtain ⟨z1, z2⟩ := h.more hp hr hb hk hn hv hs
  exact ⟨e1, z2, _, _, _, z1, by simp, .inl rfl, fun M hM p hp => by
   rw [List.mem_append, List.mem_singleton] at hp
   rcases hp with hp | rfl
   · exact Nat.le_succ_of_le (hM p hp)
   · show R.uses.length ≤ M + 1; omega⟩
theorem SPost.from {B : Nat} {X : Nat → Prop} {w0 w w1 w' : World} {pb : Nat} {ps : List PairE} {b0 b1 b2 : Value} {commits most : Int} {e : Ending} (h : SPost B X w0 w1 pb ps b0 b1 b2 commits most e w') (k : Kept (fun _ => False) w w1) : SPost B X w0 w pb ps b0 b1 b2 commits most e w' := by
 obtain ⟨e1, hk, r⟩ := h
 exact ⟨e1, k.trans hk (fun _ => False.elim) (fun _ _ => id), r⟩
structure OpE where
 kd : Int
 a : Int
 b : Int
 c : Int
 s : ByteArray
 ao : Option Addr
 n : Nat
 cap : Nat
 ws : List (Int × Int)
structure OpOk (B : Nat) (w0 : World) (o : OpE) : Prop where
 wr : Wr w0 o.ao o.n o.ws
 reach : o.n * 16 ≤ 140737488351232
 nil : o.ao = none → o.n = 0 ∧ o.cap = 0
 low : 0 < o.n → ∀ a, o.ao = some a → a.block < B
 vals : BdW o.ws
 str : o.s.size ≤ maxLen
 a0 : -9223372036854775808 ≤ o.a
 a1 : o.a ≤ 9223372036854775807
def opC (o : OpE) : List Value := [.int .i64 o.kd, .int .i64 o.a, .int .i64 o.b, .int .i64 o.c, .string o.s, .slice o.ao o.n o.cap]
theorem pair_at (l : List PairE) (j : Nat) (hj : j < l.length) (f : Nat) (hf : f < 2) : (l.flatMap pairC)[j * 2 + f]? = (pairC l[j])[f]? := flat_at pairC 2 (fun _ => rfl) l j hj f hf
theorem boxes_two (w : World) (o : Obj) (a b : Array Value) (T U : TypeId) (h : o = .cells a T) : Blk (((w.alloc o).alloc (.cells b U)).drew) w.heap.size T a ∧ Blk (((w.alloc o).alloc (.cells b U)).drew) (w.heap.size + 1) U b := by
 subst h
 refine ⟨Blk.same ((Blk.new w T a).kept (Kept.alloc _ (.cells b U) (fun _ => False)) id) rfl, ?_⟩
 have := Blk.new (w.alloc (.cells a T)) U b
 simp only [World.size_alloc] at this
 exact this.same rfl
theorem lstep_new {B : Nat} {X : Nat → Prop} {w0 w : World} {pb : Nat} {ps : List PairE} {vps b0 b1 b2 : Value} {commits most : Int} (h : Inv B X w0 w pb ps vps b0 b1 b2 commits most) (a b c : Int) (s : ByteArray) (ao : Option Addr) (n cap : Nat) (hm : (ps.length + 1) * 16 ≤ 140737488355328) :
  Calls Tryz.prog 9 #[.pointer (some ⟨pb, 0, none⟩), .agg #[.int .i64 1, .int .i64 a, .int .i64 b, .int .i64 c, .string s, .slice ao n cap]] w fun e w' => SPost B X w0 w pb ps b0 b1 b2 commits most e w' := by
 have H0 : Hid (∀ W, Kept (fun _ => False) w W → Calls Tryz.prog 11 #[.pointer (some ⟨pb, 0, none⟩), .agg #[.int .i64 1, .int .i64 a, .int .i64 b, .int .i64 c, .string s, .slice ao n cap]] W fun e w' => e = .returned (.bool true) ∧ Hid (SPost B X w0 w pb ps b0 b1 b2 commits most (.returned (.bool true)) w')) :=
  fun W hk => (lopened W pb 1 a b c s ao n cap vps b0 b1 b2 commits most ps.length (ps.flatMap pairC) (h.kept hk).blk (h.kept hk).row hm).mono fun e w' hp => by
   have e1 := hp.1
   subst e1
   exact ⟨rfl, (SPost.of_open (h.kept hk) hp).from hk⟩
 clear h hm
 go_enter Tryz.func9, Tryz.ntmps9
 go_wp2_with (go_at_call 11; refine (H0.out _ (Kept.alloc _ _ _)).mono ?_; rintro e w1 ⟨rfl, hs⟩)
 go_ret
 exact hs.out
theorem lstep_none {B : Nat} {X : Nat → Prop} {w0 w : World} {pb : Nat} {ps : List PairE} {vps b0 b1 b2 : Value} {commits most : Int} (h : Inv B X w0 w pb ps vps b0 b1 b2 commits most) (kd a b c : Int) (s : ByteArray) (ao : Option Addr) (n cap : Nat) (hps : ps.length = 0) (h2 : 2 ≤ kd) (h18 : kd ≤ 18) :
  Calls Tryz.prog 9 #[.pointer (some ⟨pb, 0, none⟩), .agg #[.int .i64 kd, .int .i64 a, .int .i64 b, .int .i64 c, .string s, .slice ao n cap]] w fun e w' => SPost B X w0 w pb ps b0 b1 b2 commits most e w' := by
 have hk1 : (kd == 1) = false := beq_eq_false_iff_ne.mpr (by omega)
 have hk19 : (kd == 19) = false := beq_eq_false_iff_ne.mpr (by omega)
 obtain ⟨av, cv, hv, _⟩ := h.row.form
 rw [hps] at hv
 have c0 : w.cell? ⟨pb, 0, none⟩ = some vps := h.blk.cell 0
 rw [hv] at c0
 have hpl := h.blk.lt
 have HI : Hid (Inv B X w0 w pb ps vps b0 b1 b2 commits most) := h
 clear h hv
 go_enter Tryz.func9, Tryz.ntmps9
 go_wp2
 go_ret
 exact ⟨rfl, Kept.alloc _ _ _, ps, vps, commits, HI.out.kept (Kept.alloc _ _ _), by omega, .inl rfl, fun M hM p hp => Nat.le_succ_of_le (hM p hp)⟩
theorem lstep_reader {B : Nat} {X : Nat → Prop} {w0 w : World} {pb : Nat} {ps : List PairE} {vps b0 b1 b2 : Value} {commits most : Int} (h : Inv B X w0 w pb ps vps b0 b1 b2 commits most) (kd a b c : Int) (s : ByteArray) (ao : Option Addr) (n cap : Nat) (hps : 0 < ps.length) (hpm : ps.length ≤ 4611686018427387904) (h2 : 3 ≤ kd) (h7 : kd ≤ 7) (ha0 : -9223372036854775808 ≤ a) (ha1 : a ≤ 9223372036854775807)
  (hrd : ∀ W xb cb D R, (∃ p ∈ ps, R = p.R) → Pair W xb cb D R → Calls Tryz.prog 15 #[.pointer (some ⟨pb, 0, none⟩), .agg #[.pointer (some ⟨xb, 0, none⟩), .pointer (some ⟨cb, 0, none⟩)], .agg #[.int .i64 kd, .int .i64 a, .int .i64 b, .int .i64 c, .string s, .slice ao n cap]] W fun e w' => StepPost W xb cb D R e w') :
  Calls Tryz.prog 9 #[.pointer (some ⟨pb, 0, none⟩), .agg #[.int .i64 kd, .int .i64 a, .int .i64 b, .int .i64 c, .string s, .slice ao n cap]] w fun e w' => SPost B X w0 w pb ps b0 b1 b2 commits most e w' := by
 have hk1 : (kd == 1) = false := beq_eq_false_iff_ne.mpr (by omega)
 have hk2 : (kd == 2) = false := beq_eq_false_iff_ne.mpr (by omega)
 have hk19 : (kd == 19) = false := beq_eq_false_iff_ne.mpr (by omega)
 obtain ⟨g, cv, hv, hog, hgl⟩ := h.row.block hps
 have c0 : w.cell? ⟨pb, 0, none⟩ = some vps := h.blk.cell 0
 rw [hv] at c0
 have hpl := h.blk.lt
 obtain ⟨m, hm⟩ : ∃ m, m = ps.length := ⟨_, rfl⟩
 obtain ⟨j, hj⟩ : ∃ j, j = pickN a m := ⟨_, rfl⟩
 have hjm : j < m := by rw [hj]; exact pickN_lt a (by omega)
 have HPK : Hid (∀ W, Calls Tryz.prog 13 #[.int .i64 a, .int .i64 m] W fun e w' => e = .returned (.int .i64 (j : Int)) ∧ W = w') := fun W => by rw [hj]; exact rpick W a m ha0 ha1 (by omega) (by omega)
 have hjp : j < ps.length := by omega
 obtain ⟨p, hp⟩ : ∃ p, p = ps[j] := ⟨_, rfl⟩
 have hget : ps[j]? = some p := by rw [hp]; exact List.getElem?_eq_getElem hjp
 have q0 := h.row.cell hog (j * 2) _ (by have := pair_at ps j hjp 0 (by omega); rw [Nat.add_zero] at this; rw [this]; rfl)
 have q1 := h.row.cell hog (j * 2 + 1) _ (by rw [pair_at ps j hjp 1 (by omega)]; rfl)
 rw [← hp] at q0 q1
 rw [← hm] at c0
 have hmz : ((m : Int) == 0) = false := beq_eq_false_iff_ne.mpr (by omega)
 have HRD : Hid (∀ W, Kept (fun _ => False) w W → Calls Tryz.prog 15 #[.pointer (some ⟨pb, 0, none⟩), .agg #[.pointer (some ⟨p.xb, 0, none⟩), .pointer (some ⟨p.cb, 0, none⟩)], .agg #[.int .i64 kd, .int .i64 a, .int .i64 b, .int .i64 c, .string s, .slice ao n cap]] W fun e w' => e = .returned (.bool true) ∧ Hid (SPost B X w0 w pb ps b0 b1 b2 commits most (.returned (.bool true)) w')) :=
  fun W hk => (hrd W p.xb p.cb p.D p.R ⟨p, List.mem_of_getElem? hget, rfl⟩ (((h.each p (List.mem_of_getElem? hget))).kept hk fun _ _ => id)).mono fun e w' hp => ⟨hp.1, (SPost.of_turned (h.kept hk) hget hp.2).from hk⟩
 have hm1 : m ≤ 4611686018427387904 := by omega
 have hm0 : 0 < m := by omega
 generalize p.xb = xb at *
 generalize p.cb = cb at *
 clear hrd h hv hog hj hp hget hm hps hpm hjp
 go_enter Tryz.func9, Tryz.ntmps9
 go_wp2_with fail
 go_cut [5] (fun pp wx => pp = .pointer (some ⟨w.heap.size + 1, 0, none⟩) ∧ Hid (Kept (fun _ => False) w wx ∧ Blk wx w.heap.size 37 #[.int .i64 kd, .int .i64 a, .int .i64 b, .int .i64 c, .string s, .slice ao n cap] ∧ Blk wx (w.heap.size + 1) 44 #[.pointer (some ⟨xb, 0, none⟩), .pointer (some ⟨cb, 0, none⟩)]))
 case first =>
  go_region_held3 (fun w' => w'.cell? ⟨pb, 0, none⟩ = some (.slice (some ⟨g, 0, none⟩) m cv) ∧ w'.cell? ⟨w.heap.size, 1, none⟩ = some (.int .i64 a) ∧ w'.cell? ⟨g, j * 2, none⟩ = some (.pointer (some ⟨xb, 0, none⟩)) ∧ w'.cell? ⟨g, j * 2 + 1, none⟩ = some (.pointer (some ⟨cb, 0, none⟩))) (go_keep) ((go_at_call 13; refine (HPK.out _).mono ?_; rintro e w' ⟨rfl, rfl⟩))
  all_goals
   go_wp2
   go_meet
   case rel => exact ⟨rfl, ((Kept.alloc w _ (fun _ => False)).allocNew _).drew, boxes_two w _ _ _ _ _ rfl⟩
 case rest =>
  obtain ⟨rfl, HC⟩ := hcut
  have d0 : wc.cell? ⟨w.heap.size, 0, none⟩ = some (.int .i64 kd) := HC.out.2.1.cell 0
  have d1 : wc.cell? ⟨w.heap.size, 1, none⟩ = some (.int .i64 a) := HC.out.2.1.cell 1
  have d2 : wc.cell? ⟨w.heap.size, 2, none⟩ = some (.int .i64 b) := HC.out.2.1.cell 2
  have d3 : wc.cell? ⟨w.heap.size, 3, none⟩ = some (.int .i64 c) := HC.out.2.1.cell 3
  have d4 : wc.cell? ⟨w.heap.size, 4, none⟩ = some (.string s) := HC.out.2.1.cell 4
  have d5 : wc.cell? ⟨w.heap.size, 5, none⟩ = some (.slice ao n cap) := HC.out.2.1.cell 5
  have e0 : wc.cell? ⟨w.heap.size + 1, 0, none⟩ = some (.pointer (some ⟨xb, 0, none⟩)) := HC.out.2.2.cell 0
  have e1 : wc.cell? ⟨w.heap.size + 1, 1, none⟩ = some (.pointer (some ⟨cb, 0, none⟩)) := HC.out.2.2.cell 1
  clear c0 q0 q1
  go_wp2_with (go_at_call 15; refine (HRD.out _ HC.out.1).mono ?_; rintro e w1 ⟨rfl, hs⟩)
  go_ret
  exact hs.out
theorem lstep_commit {B : Nat} {X : Nat → Prop} {w0 w : World} {pb : Nat} {ps : List PairE} {vps b0 b1 b2 : Value} {commits most : Int} (h : Inv B X w0 w pb ps vps b0 b1 b2 commits most) (a b c : Int) (s : ByteArray) (ao : Option Addr) (n cap : Nat) (hps : 0 < ps.length) (hpm : ps.length ≤ 4611686018427387904) (ha0 : -9223372036854775808 ≤ a) (ha1 : a ≤ 9223372036854775807)
  (hus : ∀ p ∈ ps, p.R.uses.length < 9223372036854775807) (ws : List (Int × Int)) (hc0 : 0 ≤ commits) (hc1 : commits ≤ 4611686018427387904) (hw : Wr w ao n ws) (hreach : n * 16 ≤ 140737488351232) (hno : ao = none → n = 0 ∧ cap = 0) (hlow : 0 < n → ∀ a, ao = some a → a.block < B) (hwb : BdW ws) :
  Calls Tryz.prog 9 #[.pointer (some ⟨pb, 0, none⟩), .agg #[.int .i64 2, .int .i64 a, .int .i64 b, .int .i64 c, .string s, .slice ao n cap]] w fun e w' => SPost B X w0 w pb ps b0 b1 b2 commits most e w' := by
 obtain ⟨g, cv, hv, hog, hgl⟩ := h.row.block hps
 have c0 : w.cell? ⟨pb, 0, none⟩ = some vps := h.blk.cell 0
 rw [hv] at c0
 have hpl := h.blk.lt
 obtain ⟨m, hm⟩ : ∃ m, m = ps.length := ⟨_, rfl⟩
 obtain ⟨j, hj⟩ : ∃ j, j = pickN a m := ⟨_, rfl⟩
 have hjm : j < m := by rw [hj]; exact pickN_lt a (by omega)
 have HPK : Hid (∀ W, Calls Tryz.prog 13 #[.int .i64 a, .int .i64 m] W fun e w' => e = .returned (.int .i64 (j : Int)) ∧ W = w') := fun W => by rw [hj]; exact rpick W a m ha0 ha1 (by omega) (by omega)
 have hjp : j < ps.length := by omega
 obtain ⟨p, hp⟩ : ∃ p, p = ps[j] := ⟨_, rfl⟩
 have hget : ps[j]? = some p := by rw [hp]; exact List.getElem?_eq_getElem hjp
 have q0 := h.row.cell hog (j * 2) _ (by have := pair_at ps j hjp 0 (by omega); rw [Nat.add_zero] at this; rw [this]; rfl)
 have q1 := h.row.cell hog (j * 2 + 1) _ (by rw [pair_at ps j hjp 1 (by omega)]; rfl)
 rw [← hp] at q0 q1
 rw [← hm] at c0
 have hmz : ((m : Int) == 0) = false := beq_eq_false_iff_ne.mpr (by omega)
 have HRD : Hid (∀ W, Kept (fun _ => False) w W → Calls Tryz.prog 14 #[.pointer (some ⟨pb, 0, none⟩), .agg #[.pointer (some ⟨p.xb, 0, none⟩), .pointer (some ⟨p.cb, 0, none⟩)], .agg #[.int .i64 2, .int .i64 a, .int .i64 b, .int .i64 c, .string s, .slice ao n cap]] W fun e w' => e = .returned (.bool true) ∧ Hid (SPost B X w0 w pb ps b0 b1 b2 commits most (.returned (.bool true)) w')) :=
  fun W hk => (lcommit W pb p.xb p.cb a b c s ao n cap ws p.D p.R vps b0 b1 b2 commits most ((h.each p (List.mem_of_getElem? hget)).kept hk fun _ _ => id) (hus p (List.mem_of_getElem? hget)) (h.kept hk).blk (fun hf => (h.own p (List.mem_of_getElem? hget) pb hf).2.1 rfl) hc0 hc1 (hw.kept hk fun _ _ => id) hreach hno (fun hn x hx => by
   have hl := hlow hn x hx
   have hB := h.pB.1
   have hs := hk.size
   have hz := Nat.le_trans h.bsz h.below.size
   exact ⟨fun hf => by have := (h.own p (List.mem_of_getElem? hget) _ hf).1; omega, by omega, by omega⟩) hwb).mono fun e w' hp => by
    have e1 := hp.1
    subst e1
    exact ⟨rfl, (SPost.of_commit (h.kept hk) hget hp).from hk⟩
 have hm1 : m ≤ 4611686018427387904 := by omega
 have hm0 : 0 < m := by omega
 generalize p.xb = xb at *
 generalize p.cb = cb at *
 clear h hus hv hog hj hp hget hm hps hpm hjp hw hlow hno hreach
 go_enter Tryz.func9, Tryz.ntmps9
 go_wp2_with fail
 go_cut [5] (fun pp wx => pp = .pointer (some ⟨w.heap.size + 1, 0, none⟩) ∧ Hid (Kept (fun _ => False) w wx ∧ Blk wx w.heap.size 37 #[.int .i64 2, .int .i64 a, .int .i64 b, .int .i64 c, .string s, .slice ao n cap] ∧ Blk wx (w.heap.size + 1) 44 #[.pointer (some ⟨xb, 0, none⟩), .pointer (some ⟨cb, 0, none⟩)]))
 case first =>
  go_region_held3 (fun w' => w'.cell? ⟨pb, 0, none⟩ = some (.slice (some ⟨g, 0, none⟩) m cv) ∧ w'.cell? ⟨w.heap.size, 1, none⟩ = some (.int .i64 a) ∧ w'.cell? ⟨g, j * 2, none⟩ = some (.pointer (some ⟨xb, 0, none⟩)) ∧ w'.cell? ⟨g, j * 2 + 1, none⟩ = some (.pointer (some ⟨cb, 0, none⟩))) (go_keep) ((go_at_call 13; refine (HPK.out _).mono ?_; rintro e w' ⟨rfl, rfl⟩))
  all_goals
   go_wp2
   go_meet
   case rel => exact ⟨rfl, ((Kept.alloc w _ (fun _ => False)).allocNew _).drew, boxes_two w _ _ _ _ _ rfl⟩
 case rest =>
  obtain ⟨rfl, HC⟩ := hcut
  have d0 : wc.cell? ⟨w.heap.size, 0, none⟩ = some (.int .i64 2) := HC.out.2.1.cell 0
  have d1 : wc.cell? ⟨w.heap.size, 1, none⟩ = some (.int .i64 a) := HC.out.2.1.cell 1
  have d2 : wc.cell? ⟨w.heap.size, 2, none⟩ = some (.int .i64 b) := HC.out.2.1.cell 2
  have d3 : wc.cell? ⟨w.heap.size, 3, none⟩ = some (.int .i64 c) := HC.out.2.1.cell 3
  have d4 : wc.cell? ⟨w.heap.size, 4, none⟩ = some (.string s) := HC.out.2.1.cell 4
  have d5 : wc.cell? ⟨w.heap.size, 5, none⟩ = some (.slice ao n cap) := HC.out.2.1.cell 5
  have e0 : wc.cell? ⟨w.heap.size + 1, 0, none⟩ = some (.pointer (some ⟨xb, 0, none⟩)) := HC.out.2.2.cell 0
  have e1 : wc.cell? ⟨w.heap.size + 1, 1, none⟩ = some (.pointer (some ⟨cb, 0, none⟩)) := HC.out.2.2.cell 1
  clear c0 q0 q1
  go_wp2_with (go_at_call 14; refine (HRD.out _ HC.out.1).mono ?_; rintro e w1 ⟨rfl, hs⟩)
  go_ret
  exact hs.out
theorem Wr.below {B : Nat} {w w' : World} {ao : Option Addr} {n : Nat} {ws : List (Int × Int)} (h : Wr w ao n ws) (hb : Below B w w') (hlow : 0 < n → ∀ a, ao = some a → a.block < B) : Wr w' ao n ws := by
 refine ⟨h.len, fun j hj => ?_⟩
 obtain ⟨bl, off, e, c0, c1⟩ := h.cell j hj
 have hl := hlow (by have := h.len; omega) _ e
 exact ⟨bl, off, e, (World.cell?_of_block (a := ⟨bl, off + j * 2, none⟩) (hb.block bl hl)).trans c0, (World.cell?_of_block (a := ⟨bl, off + j * 2 + 1, none⟩) (hb.block bl hl)).trans c1⟩
theorem lstep_begins {B : Nat} {X : Nat → Prop} {w0 w : World} {pb : Nat} {ps : List PairE} {vps b0 b1 b2 : Value} {commits most : Int} (h : Inv B X w0 w pb ps vps b0 b1 b2 commits most) (o : OpE) (ho : OpOk B w0 o) (hk : o.kd = 1 ∨ o.kd = 2 ∨ o.kd = 3 ∨ o.kd = 4 ∨ o.kd = 5 ∨ o.kd = 6)
  (hm : (ps.length + 1) * 16 ≤ 140737488355328) (hc0 : 0 ≤ commits) (hc1 : commits ≤ 4611686018427387904) (hus : ∀ p ∈ ps, p.R.uses.length < 9223372036854775807) :
  Calls Tryz.prog 9 #[.pointer (some ⟨pb, 0, none⟩), .agg #[.int .i64 o.kd, .int .i64 o.a, .int .i64 o.b, .int .i64 o.c, .string o.s, .slice o.ao o.n o.cap]] w fun e w' => SPost B X w0 w pb ps b0 b1 b2 commits most e w' := by
 by_cases h1 : o.kd = 1
 · rw [h1]; exact lstep_new h o.a o.b o.c o.s o.ao o.n o.cap hm
 · by_cases hps : ps.length = 0
  · exact lstep_none h o.kd o.a o.b o.c o.s o.ao o.n o.cap hps (by omega) (by omega)
  · have hp0 : 0 < ps.length := by omega
   have hpm : ps.length ≤ 4611686018427387904 := by omega
   by_cases h2 : o.kd = 2
   · rw [h2]; exact lstep_commit h o.a o.b o.c o.s o.ao o.n o.cap hp0 hpm ho.a0 ho.a1 hus o.ws hc0 hc1 (ho.wr.below h.below ho.low) ho.reach ho.nil ho.low ho.vals
   · refine lstep_reader h o.kd o.a o.b o.c o.s o.ao o.n o.cap hp0 hpm (by omega) (by omega) ho.a0 ho.a1 fun W xb cb D R _ hp => ?_
    have h36 : o.kd = 3 ∨ o.kd = 4 ∨ o.kd = 5 ∨ o.kd = 6 := by omega
    rcases h36 with e | e | e | e
    · rw [e]; exact lreader_tick W pb xb cb _ _ _ _ _ _ _ D R hp
    · rw [e]; exact lreader_now W pb xb cb _ _ _ _ _ _ _ D R hp
    · rw [e]; exact lreader_begin W pb xb cb _ _ _ _ _ _ _ D R hp
    · rw [e]; exact lreader_end W pb xb cb _ _ _ _ _ _ _ D R hp
theorem row_empty (w : World) (T size : Nat) : Row (w.alloc (.cells #[] T)) T size (.slice (some ⟨w.heap.size, 0, none⟩) 0 0) 0 [] :=
 ⟨by simp, .inr ⟨w.heap.size, 0, #[], rfl, Nat.zero_le _, Blk.new w T #[], Nat.le_refl _, Nat.zero_le _, by simp, by simp⟩⟩
def DListPost (w : World) (l : List EntE) (e : Ending) (w' : World) : Prop :=
 ∃ v, e = .returned v ∧ Row w' 55 6 v l.length (l.flatMap entC) ∧ Kept (fun _ => False) w w' ∧ ∀ k, v.ownBlock = some k → w.heap.size ≤ k
theorem list_done {w w1 w' : World} {l : List EntE} {v' : Value} {o : Obj} (h1 : w1 = w.alloc o) (hA : Appended w1 w' 55 6 (.slice (some ⟨w.heap.size, 0, none⟩) 0 0) v' 0 l.length [] (l.flatMap entC)) : DListPost w l (.returned v') w' := by
 subst h1
 refine ⟨v', rfl, by have := hA.row; rwa [Nat.zero_add, List.nil_append] at this, (Kept.alloc w o (fun _ => False)).trans hA.kept (fun _ => id) (fun k hk he => ?_), fun k hk => ?_⟩
 · simp [Value.ownBlock] at he; omega
 · rcases hA.own with e | e
  · rw [e] at hk; simp [Value.ownBlock] at hk; omega
  · have := e k hk; simp at this; omega
theorem dlist (w : World) (b : Nat) (D : DevS) (h : Dev w b D) (hf : D.Fit) :
  Calls Tryz.prog 98 #[.pointer (some ⟨b, 27, none⟩)] w fun e w' => DListPost w D.puts e w' := by
 have hqm := hf.qmax
 have hbl := h.blk.lt
 obtain ⟨i0, hi, hz0, hz1, hz2⟩ := info_parts Tryz.infoEntry
 have HI : Hid (Tryz.prog.info? 55 = some i0 ∧ i0.zero = some (.agg #[.string ByteArray.empty, .int .i32 0, .int .u64 0, .int .u64 0, .bool false, .int .u64 0]) ∧ i0.size = 6 ∧ i0.bytes = 56) := ⟨hi, hz0, hz1, hz2⟩
 clear hi hz0 hz1 hz2
 have HRE : Hid (Row (w.alloc (.cells #[] 55)) 55 6 (.slice (some ⟨w.heap.size, 0, none⟩) 0 0) 0 []) := row_empty w _ 6
 rcases h.puts.shape with ⟨hv, hn, _⟩ | ⟨g, cap, cur, hv, hb, hc, hcm, hs, htk⟩
 · have c27 := h.c27
  rw [hv] at c27
  have HE : Hid (D.puts = []) := List.eq_nil_of_length_eq_zero hn
  clear h hf hv hn
  go_enter Tryz.func98, Tryz.ntmps98
  go_wp2_with (at_builtin; refine wpList_append_own_none rfl (.tmp 3) (.tmp 7) 51 rfl 0 55 i0 6 Tryz.underlying51 HI.out.1 (.slice (some ⟨w.heap.size, 0, none⟩) 0 0) 0 [] rfl HRE.out rfl ?_)
  go_ret
  rw [HE.out]
  exact ⟨_, rfl, HRE.out, Kept.alloc _ _ _, fun k hk => by simp [Value.ownBlock] at hk; omega⟩
 · have c27 := h.c27
  rw [hv] at c27
  have HNEWS : Hid (∀ j u, (D.puts.flatMap entC)[j]? = some u → (w.alloc (.cells #[] 55)).cell? ((⟨g, 0, none⟩ : Addr).add j) = some u) := by
   intro j u hj
   have e : (⟨g, 0, none⟩ : Addr).add j = ⟨g, j, none⟩ := by cases j <;> simp [Addr.add]
   rw [e]
   exact (World.cell?_alloc_past _ g j hb.lt).trans (h.puts.cell (by rw [hv]; rfl) j u hj)
  have HLC : Hid ((D.puts.flatMap entC).length = D.puts.length * 6) := flat_length entC 6 (fun _ => rfl) D.puts
  have b1 : 0 + D.puts.length ≤ maxLen := by unfold maxLen; omega
  have b2 : (0 + D.puts.length) * 56 ≤ 140737488355328 := by omega
  clear h hf hv hb hs htk
  go_enter Tryz.func98, Tryz.ntmps98
  go_wp2_with (at_builtin; go_must (refine wpList_append_mine _ rfl (.tmp 3) (.tmp 7) 51 rfl 55 i0 (.agg #[.string ByteArray.empty, .int .i32 0, .int .u64 0, .int .u64 0, .bool false, .int .u64 0]) 6 56 Tryz.underlying51 HI.out.1 HI.out.2.1 HI.out.2.2.1 HI.out.2.2.2 rfl (by decide) (.slice (some ⟨w.heap.size, 0, none⟩) 0 0) 0 [] rfl HRE.out ⟨g, 0, none⟩ D.puts.length cap (D.puts.flatMap entC) rfl HLC.out HNEWS.out (oneCell_ent D.puts) b1 b2 ?_); intro v' w1 hA; have HA : Hid (DListPost w D.puts (.returned v') w1) := list_done rfl hA; clear hA)
  go_ret
  exact HA.out
theorem dputs (w : World) (b : Nat) (D : DevS) (h : Dev w b D) (hf : D.Fit) :
  Calls Tryz.prog 40 #[.pointer (some ⟨b, 0, none⟩)] w fun e w' => DListPost w D.puts e w' := by
 have H0 : Hid (Calls Tryz.prog 98 #[.pointer (some ⟨b, 27, none⟩)] w fun e w' => ∃ ao cap, e = .returned (.slice ao D.puts.length cap) ∧ Hid (DListPost w D.puts (.returned (.slice ao D.puts.length cap)) w')) := (dlist w b D h hf).mono fun e w' hp => by
  obtain ⟨v, e1, r1, r2, r3⟩ := hp
  obtain ⟨ao, cap, hv, _⟩ := r1.form
  subst e1 hv
  exact ⟨ao, cap, rfl, _, rfl, r1, r2, r3⟩
 clear h hf
 go_enter Tryz.func40, Tryz.ntmps40
 go_wp2_with (go_at_call 98; refine H0.out.mono ?_; rintro e w1 ⟨ao, cap, rfl, hr⟩)
 go_ret
 exact hr.out
end Go.Proofs.YtpfcacedpkaihaaGreat
