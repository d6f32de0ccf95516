/- The play of a script: what holds between two steps. -/
import Derived.Test.YtkednbbjofeecaaGreatLj
import Derived.Test.YtkednbbjofeecaaGreatLd
namespace Go.Proofs.YtkednbbjofeecaaGreat
open Go.RowKit

structure PairE where
  xb : Nat
  cb : Nat
  D : DevS
  R : RefS
def pairC (p : PairE) : List Value := [.pointer (some ⟨p.xb, 0, none⟩), .pointer (some ⟨p.cb, 0, none⟩)]
def PairE.fp (p : PairE) (k : Nat) : Prop := pfp p.xb p.cb p.D p.R k

/-- between two steps: the play's block, its worlds, each with its twin, all of them in memory of their own; B: below it lies what was there at the call; X: blocks of others. -/
structure Inv (B : Nat) (X : Nat → Prop) (w0 w : World) (pb : Nat) (ps : List PairE) (vps b0 b1 b2 : Value) (commits most : Int) : Prop where
  below : Below B w0 w
  blk : Blk w pb 34 (playC vps b0 b1 b2 commits most)
  row : Row w 44 2 vps ps.length (ps.flatMap pairC)
  each : ∀ p ∈ ps, Pair w p.xb p.cb p.D p.R
  sep : ∀ (i j : Nat) (a c : PairE), ps[i]? = some a → ps[j]? = some c → i ≠ j → ∀ k, a.fp k → ¬ c.fp k
  own : ∀ p ∈ ps, ∀ k, p.fp k → B ≤ k ∧ k ≠ pb ∧ vps.ownBlock ≠ some k ∧ ¬ X k
  pB : B ≤ pb ∧ ¬ X pb
  vB : ∀ k, vps.ownBlock = some k → B ≤ k ∧ ¬ X k
  xlt : ∀ k, X k → k < w.heap.size
  bsz : B ≤ w0.heap.size

theorem below_kept {B : Nat} {F : Nat → Prop} {w0 w w' : World} (h : Below B w0 w) (k : Kept F w w') (hB : B ≤ w0.heap.size) (hF : ∀ i, F i → B ≤ i) : Below B w0 w' :=
  ⟨k.os.trans h.os, k.tape.trans h.tape, k.output.trans h.output, Nat.le_trans h.size k.size, fun i hi =>
    (k.block i (by have := h.size; omega) (fun hf => by have := hF i hf; omega)).trans (h.block i hi)⟩

theorem Inv.kept {B : Nat} {X : Nat → Prop} {w0 w w' : World} {pb : Nat} {ps : List PairE} {vps b0 b1 b2 : Value} {commits most : Int} (h : Inv B X w0 w pb ps vps b0 b1 b2 commits most) (k : Kept (fun _ => False) w w') : Inv B X w0 w' pb ps vps b0 b1 b2 commits most :=
  ⟨below_kept h.below k h.bsz (fun _ => False.elim), h.blk.kept k id, h.row.kept k (fun _ _ => id), fun p hp => (h.each p hp).kept k (fun _ _ => id), h.sep, h.own, h.pB, h.vB, fun i hi => Nat.lt_of_lt_of_le (h.xlt i hi) k.size, h.bsz⟩

theorem flat_same {ps : List PairE} {i : Nat} {p p' : PairE} (hp : ps[i]? = some p) (he : pairC p' = pairC p) : (ps.set i p').flatMap pairC = ps.flatMap pairC := by
  induction ps generalizing i with
  | nil => simp at hp
  | cons a r ih =>
    match i with
    | 0 => simp at hp; subst hp; simp [he]
    | i + 1 => simp at hp; simp [ih hp]

/-- one world and its twin have turned, or the play's own block. -/
theorem Inv.turn {B : Nat} {X : Nat → Prop} {w0 w w' : World} {pb : Nat} {ps : List PairE} {vps b0 b1 b2 : Value} {commits most commits' : Int} {i : Nat} {p : PairE} {D' : DevS} {R' : RefS} (h : Inv B X w0 w pb ps vps b0 b1 b2 commits most) (hi : ps[i]? = some p)
    (hp : Pair w' p.xb p.cb D' R') (hk : Kept (fun k => k = pb ∨ p.fp k) w w') (hf : ∀ k, pfp p.xb p.cb D' R' k → p.fp k ∨ w.heap.size ≤ k) (hb : Blk w' pb 34 (playC vps b0 b1 b2 commits' most)) :
    Inv B X w0 w' pb (ps.set i { p with D := D', R := R' }) vps b0 b1 b2 commits' most ∧ Kept (fun k => ¬ X k) w w' := by
  have hm : p ∈ ps := List.mem_of_getElem? hi
  have hlt := (List.getElem?_eq_some_iff.mp hi).1
  have hpl := h.blk.lt
  have hBw : B ≤ w.heap.size := Nat.le_trans h.bsz h.below.size
  have hF : ∀ k, (k = pb ∨ p.fp k) → B ≤ k ∧ ¬ X k := by
    rintro k (rfl | hk)
    · exact h.pB
    · exact ⟨(h.own p hm k hk).1, (h.own p hm k hk).2.2.2⟩
  have others : ∀ (j : Nat) (a : PairE), ps[j]? = some a → j ≠ i → Pair w' a.xb a.cb a.D a.R := by
    intro j a ha hj
    refine (h.each a (List.mem_of_getElem? ha)).kept hk ?_
    rintro k hka (e | hkp)
    · exact (h.own a (List.mem_of_getElem? ha) k hka).2.1 e
    · exact h.sep j i a p ha hi hj k hka hkp
  have getS : ∀ (j : Nat) (a : PairE), (ps.set i { p with D := D', R := R' })[j]? = some a → (j = i ∧ a = { p with D := D', R := R' }) ∨ (j ≠ i ∧ ps[j]? = some a) := by
    intro j a ha
    by_cases e : j = i
    · subst e; rw [List.getElem?_set_self hlt] at ha; injection ha with ha; exact .inl ⟨rfl, ha.symm⟩
    · rw [List.getElem?_set_ne (fun z => e z.symm)] at ha; exact .inr ⟨e, ha⟩
  refine ⟨⟨below_kept h.below hk h.bsz (fun k hk => (hF k hk).1), hb, ?_, ?_, ?_, ?_, h.pB, h.vB, fun k hx => Nat.lt_of_lt_of_le (h.xlt k hx) hk.size, h.bsz⟩, hk.mono (fun k hk => (hF k hk).2)⟩
  · rw [List.length_set, flat_same (p' := { p with D := D', R := R' }) hi rfl]
    refine h.row.kept hk ?_
    rintro k hv (rfl | hkp)
    · exact h.row.ne_block h.blk (by decide) hv
    · exact (h.own p hm k hkp).2.2.1 hv
  · intro a ha
    obtain ⟨j, hj⟩ := List.getElem?_of_mem ha
    rcases getS j a hj with ⟨_, rfl⟩ | ⟨hne, hj'⟩
    · exact hp
    · exact others j a hj' hne
  · intro j1 j2 a c ha hc hne k hka hkc
    rcases getS j1 a ha with ⟨e1, rfl⟩ | ⟨n1, ha'⟩
    · rcases getS j2 c hc with ⟨e2, _⟩ | ⟨n2, hc'⟩
      · omega
      · rcases hf k hka with x | x
        · exact h.sep i j2 p c hi hc' (fun z => n2 z.symm) k x hkc
        · have := (h.each c (List.mem_of_getElem? hc')).lt k hkc; omega
    · rcases getS j2 c hc with ⟨e2, rfl⟩ | ⟨n2, hc'⟩
      · rcases hf k hkc with x | x
        · exact h.sep j1 i a p ha' hi n1 k hka x
        · have := (h.each a (List.mem_of_getElem? ha')).lt k hka; omega
      · exact h.sep j1 j2 a c ha' hc' hne k hka hkc
  · intro a ha k hk
    obtain ⟨j, hj⟩ := List.getElem?_of_mem ha
    rcases getS j a hj with ⟨_, rfl⟩ | ⟨_, hj'⟩
    · rcases hf k hk with x | x
      · exact h.own p hm k x
      · refine ⟨by omega, by omega, fun hv => ?_, fun hx => ?_⟩
        · have := h.row.lt k hv; omega
        · have := h.xlt k hx; omega
    · exact h.own a (List.mem_of_getElem? hj') k hk

/-- one pair more. -/
theorem Inv.more {B : Nat} {X : Nat → Prop} {w0 w w' : World} {pb xb cb : Nat} {ps : List PairE} {vps b0 b1 b2 v : Value} {commits most : Int} {D : DevS} {R : RefS} (h : Inv B X w0 w pb ps vps b0 b1 b2 commits most) (hp : Pair w' xb cb D R)
    (hr : Row w' 44 2 v (ps.length + 1) (ps.flatMap pairC ++ [.pointer (some ⟨xb, 0, none⟩), .pointer (some ⟨cb, 0, none⟩)])) (hb : Blk w' pb 34 (playC v b0 b1 b2 commits most))
    (hk : Kept (fun k => k = pb ∨ vps.ownBlock = some k) w w') (hn : ∀ k, pfp xb cb D R k → w.heap.size ≤ k) (hv : ∀ k, v.ownBlock = some k → vps.ownBlock = some k ∨ w.heap.size ≤ k) (hs : ∀ k, pfp xb cb D R k → v.ownBlock ≠ some k) :
    Inv B X w0 w' pb (ps ++ [⟨xb, cb, D, R⟩]) v b0 b1 b2 commits most ∧ Kept (fun k => ¬ X k) w w' := by
  have hpl := h.blk.lt
  have hBw : B ≤ w.heap.size := Nat.le_trans h.bsz h.below.size
  have hF : ∀ k, (k = pb ∨ vps.ownBlock = some k) → B ≤ k ∧ ¬ X k := by
    rintro k (rfl | hk)
    · exact h.pB
    · exact h.vB k hk
  have old : ∀ a ∈ ps, Pair w' a.xb a.cb a.D a.R := fun a ha => (h.each a ha).kept hk (by
    rintro k hka (e | hkv)
    · exact (h.own a ha k hka).2.1 e
    · exact (h.own a ha k hka).2.2.1 hkv)
  have getA : ∀ (j : Nat) (a : PairE), (ps ++ [(⟨xb, cb, D, R⟩ : PairE)])[j]? = some a → (j = ps.length ∧ a = ⟨xb, cb, D, R⟩) ∨ (j < ps.length ∧ ps[j]? = some a) := by
    intro j a ha
    by_cases e : j < ps.length
    · rw [List.getElem?_append_left e] at ha; exact .inr ⟨e, ha⟩
    · have hl := (List.getElem?_eq_some_iff.mp ha).1
      have : j = ps.length := by simp at hl; omega
      subst this
      simp at ha
      exact .inl ⟨rfl, ha.symm⟩
  refine ⟨⟨below_kept h.below hk h.bsz (fun k hk => (hF k hk).1), hb, ?_, ?_, ?_, ?_, h.pB, ?_, fun k hx => Nat.lt_of_lt_of_le (h.xlt k hx) hk.size, h.bsz⟩, hk.mono (fun k hk => (hF k hk).2)⟩
  · rw [List.length_append, List.flatMap_append]; exact hr
  · intro a ha
    rw [List.mem_append] at ha
    rcases ha with ha | ha
    · exact old a ha
    · simp at ha; subst ha; exact hp
  · intro j1 j2 a c ha hc hne k hka hkc
    rcases getA j1 a ha with ⟨e1, rfl⟩ | ⟨l1, ha'⟩
    · rcases getA j2 c hc with ⟨e2, _⟩ | ⟨l2, hc'⟩
      · omega
      · have := (h.each c (List.mem_of_getElem? hc')).lt k hkc; have := hn k hka; omega
    · rcases getA j2 c hc with ⟨e2, rfl⟩ | ⟨l2, hc'⟩
      · have := (h.each a (List.mem_of_getElem? ha')).lt k hka; have := hn k hkc; omega
      · exact h.sep j1 j2 a c ha' hc' hne k hka hkc
  · intro a ha k hk
    rw [List.mem_append] at ha
    rcases ha with ha | ha
    · have o := h.own a ha k hk
      refine ⟨o.1, o.2.1, fun hvk => ?_, o.2.2.2⟩
      rcases hv k hvk with x | x
      · exact o.2.2.1 x
      · have := (h.each a ha).lt k hk; omega
    · simp at ha; subst ha
      have := hn k hk
      refine ⟨by omega, by omega, hs k hk, fun hx => ?_⟩
      have := h.xlt k hx; omega
  · intro k hk
    rcases hv k hk with x | x
    · exact h.vB k x
    · exact ⟨by omega, fun hx => by have := h.xlt k hx; omega⟩

/-- what a step leaves. -/
def SPost (B : Nat) (X : Nat → Prop) (w0 w : World) (pb : Nat) (ps : List PairE) (b0 b1 b2 : Value) (commits most : Int) (e : Ending) (w' : World) : Prop :=
  e = .returned (.bool true) ∧ Kept (fun k => ¬ X k) w w' ∧ ∃ ps' vps' commits', Inv B X w0 w' pb ps' vps' b0 b1 b2 commits' most ∧ ps'.length ≤ ps.length + 1 ∧ (commits' = commits ∨ commits' = commits + 1)

theorem SPost.of_turned {B : Nat} {X : Nat → Prop} {w0 w w' : World} {pb : Nat} {ps : List PairE} {vps b0 b1 b2 : Value} {commits most : Int} {i : Nat} {p : PairE} (h : Inv B X w0 w pb ps vps b0 b1 b2 commits most) (hi : ps[i]? = some p) (ht : Turned w w' p.xb p.cb p.D p.R) :
    SPost B X w0 w pb ps b0 b1 b2 commits most (.returned (.bool true)) w' := by
  obtain ⟨D', R', hp, hk, hf⟩ := ht
  have hb := h.blk.kept hk fun hpf => (h.own p (List.mem_of_getElem? hi) pb hpf).2.1 rfl
  obtain ⟨z1, z2⟩ := h.turn hi hp (hk.mono fun _ => .inr) hf hb
  exact ⟨rfl, z2, _, _, _, z1, by rw [List.length_set]; omega, .inl rfl⟩

theorem SPost.of_commit {B : Nat} {X : Nat → Prop} {w0 w w' : World} {pb : Nat} {ps : List PairE} {vps b0 b1 b2 : Value} {commits most : Int} {i : Nat} {p : PairE} {e : Ending} (h : Inv B X w0 w pb ps vps b0 b1 b2 commits most) (hi : ps[i]? = some p) (ht : LCommitPost w pb p.xb p.cb p.D p.R vps b0 b1 b2 commits most e w') :
    SPost B X w0 w pb ps b0 b1 b2 commits most e w' := by
  obtain ⟨e1, hb, D', R', hp, hk, hf⟩ := ht
  obtain ⟨z1, z2⟩ := h.turn hi hp hk hf hb
  exact ⟨e1, z2, _, _, _, z1, by rw [List.length_set]; omega, .inr rfl⟩

theorem SPost.of_open {B : Nat} {X : Nat → Prop} {w0 w w' : World} {pb : Nat} {ps : List PairE} {vps b0 b1 b2 : Value} {commits most : Int} {e : Ending} (h : Inv B X w0 w pb ps vps b0 b1 b2 commits most) (ht : OpenPost w pb vps b0 b1 b2 commits most ps.length (ps.flatMap pairC) e w') :
    SPost B X w0 w pb ps b0 b1 b2 commits most e w' := by
  obtain ⟨e1, hk | ⟨xb, cb, D, R, v, hp, hr, hb, hk, hn, hv, hs⟩⟩ := ht
  · exact ⟨e1, hk.mono (fun _ => False.elim), ps, vps, commits, h.kept hk, by omega, .inl rfl⟩
  · obtain ⟨z1, z2⟩ := h.more hp hr hb hk hn hv hs
    exact ⟨e1, z2, _, _, _, z1, by simp, .inl rfl⟩

theorem SPost.from {B : Nat} {X : Nat → Prop} {w0 w w1 w' : World} {pb : Nat} {ps : List PairE} {b0 b1 b2 : Value} {commits most : Int} {e : Ending} (h : SPost B X w0 w1 pb ps b0 b1 b2 commits most e w') (k : Kept (fun _ => False) w w1) : SPost B X w0 w pb ps b0 b1 b2 commits most e w' := by
  obtain ⟨e1, hk, r⟩ := h
  exact ⟨e1, k.trans hk (fun _ => False.elim) (fun _ _ => id), r⟩

end Go.Proofs.YtkednbbjofeecaaGreat
