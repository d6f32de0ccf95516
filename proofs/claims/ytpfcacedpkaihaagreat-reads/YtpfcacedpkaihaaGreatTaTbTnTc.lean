import Derived.Test.YtpfcacedpkaihaaGreatIwSrDp
import Derived.Test.YtpfcacedpkaihaaGreatGj
import Derived.Test.YtpfcacedpkaihaaGreatIgJaJb
import Derived.Test.YtpfcacedpkaihaaGreatHh
import Derived.Test.YtpfcacedpkaihaaGreatRaRbRcRe
/- The program's world beside the document's: what both hold of the same, nodes and all (mathematics alone). -/
namespace Go.Proofs.YtpfcacedpkaihaaGreat
open Go.RowKit

/-- the least stamp from a tick on: the first commit at the tick or later ends what was newest. -/
theorem least_cons {l : List PastE} {tick : Int} {j : Nat} (hj : j ≤ l.length) (hb : ∀ i (h : i < l.length), i < j → l[i].tick < tick) (hs : ∀ (h : j < l.length), tick ≤ l[j].tick) (z : PastE) : Least (z :: l) tick j := by
  refine ⟨by simp; omega, ?_, ?_⟩
  · by_cases e : j < l.length
    · have := hs e
      simp [freshB, List.getElem?_eq_getElem e, this]
    · have : j = l.length := by omega
      simp [freshB, this]
  · intro i hi
    have hil : i < l.length := by omega
    have := hb i hil hi
    have h2 : ¬ i = l.length := by omega
    simp [freshB, List.getElem?_eq_getElem hil, h2]
    omega
theorem Least.unique {l : List PastE} {tick : Int} {a b : Nat} (h : Least l tick a) (k : Least l tick b) : a = b := by
  rcases Nat.lt_trichotomy a b with x | x | x
  · have := k.2.2 a x; rw [h.2.1] at this; cases this
  · exact x
  · have := h.2.2 b x; rw [k.2.1] at this; cases this

/-- a state's values are of 32 bits. -/
def Bd (p : PastE) : Prop := ∀ k, -2147483648 ≤ p.st k ∧ p.st k < 2147483648
def BdW (ws : List (Int × Int)) : Prop := ∀ x ∈ ws, -2147483648 ≤ x.2 ∧ x.2 < 2147483648
theorem Bd.write {p : PastE} (h : Bd p) {x : Int × Int} (hx : -2147483648 ≤ x.2 ∧ x.2 < 2147483648) : Bd (writeP p x) := by
  intro k
  show -2147483648 ≤ (if k = x.1.toNat then x.2 else p.st k) ∧ (if k = x.1.toNat then x.2 else p.st k) < 2147483648
  split
  · exact hx
  · exact h k
theorem Bd.writes {p : PastE} (h : Bd p) {ws : List (Int × Int)} (hw : BdW ws) : Bd (writesP p ws) := by
  induction ws generalizing p with
  | nil => exact h
  | cons x r ih => exact ih (h.write (hw x (List.mem_cons_self ..))) fun y hy => hw y (List.mem_cons_of_mem _ hy)

/-- the keys that the commit of a stamp wrote. -/
def keysP (l : List PastE) (t : Nat) : Int := (l[t]?.map PastE.keys).getD 0
theorem keysP_app {l : List PastE} {t : Nat} (q : PastE) (h : t < l.length) : keysP (l ++ [q]) t = keysP l t := by
  unfold keysP
  rw [List.getElem?_append_left h]
theorem keysP_last (l : List PastE) (q : PastE) : keysP (l ++ [q]) l.length = q.keys := by simp [keysP]
/-- the history that a node remembers. -/
def histL (l : List PastE) (since hz : Nat) : List (Nat × Int) := (List.range' (max since (hz - 6) + 1) (hz - max since (hz - 6))).map fun t => (t, keysP l t)
/-- where among the uses a name was used last. -/
def lastP (us : List Int) (x : Int) : Int := lastN us x us.length

/-- a node of the program's beside one of the document's. -/
structure NSim (past : List PastE) (us : List Int) (s : NodeP) (n : RNode) : Prop where
  up : n.up = s.up
  hz : n.horizon = s.horizon
  since : n.since ≤ n.horizon
  ents : n.ents = s.ents.map (·.e)
  fls : n.fls = s.flight.map (·.1)
  flk : ∀ c ∈ s.flight, c.1 < past.length ∧ c.2 = keysP past c.1
  wts : n.wts = s.waits.map (·.1)
  wtk : ∀ c ∈ s.waits, c.1 < past.length ∧ c.2 = keysP past c.1
  hist : s.hists = histL past n.since n.horizon
  top : n.horizon < past.length
  nml : n.nms.length = s.ents.length
  used : ∀ x ∈ s.ents, x.used ≤ s.uses
  order : ∀ (i j : Nat) (x y : HeldE) (a b : Int), s.ents[i]? = some x → s.ents[j]? = some y → n.nms[i]? = some a → n.nms[j]? = some b → (x.used < y.used ↔ lastP us a < lastP us b)

/-- both worlds hold the same. -/
structure Sim (P : DP) (R : RefS) : Prop where
  past : R.past = zeroP :: P.past
  clock : R.clock = P.clock
  rdr : SimR P.begun P.seats R.rdrs P.past.length
  puts : R.puts = P.puts
  bd : ∀ p ∈ P.past, Bd p
  len : R.nodes.length = P.sites.length
  node : ∀ (k : Nat) (s : NodeP) (nd : NodeE), P.sites[k]? = some s → R.nodes[k]? = some nd → NSim R.past R.uses s nd.p
  room : ∀ s ∈ P.sites, s.room = R.room
  names : (R.nodes.flatMap (·.nms)).Nodup
  fresh : ∀ x ∈ R.nodes.flatMap (·.nms), 0 ≤ x ∧ x < R.next

theorem Sim.plen {P : DP} {R : RefS} (h : Sim P R) : R.past.length = P.past.length + 1 := by rw [h.past]; simp

theorem histL_app {l : List PastE} {a b : Nat} (q : PastE) (h : b < l.length) : histL (l ++ [q]) a b = histL l a b := by
  unfold histL
  refine List.map_congr_left fun t ht => ?_
  rw [List.mem_range'] at ht
  obtain ⟨i, hi, rfl⟩ := ht
  rw [keysP_app q (by omega)]

/-- a commit is told: both nodes. -/
theorem NSim.tell {l : List PastE} {us : List Int} {s : NodeP} {nd : NodeE} (h : NSim l us s nd.p) (q : PastE) (v : Value) : NSim (l ++ [q]) us (s.tell l.length q.keys) (tellN nd l.length v).p := by
  have hup : nd.up = s.up := h.up
  have hhz : nd.horizon = s.horizon := h.hz
  have hfl : nd.fls = s.flight.map (·.1) := h.fls
  have hag : keepF l.length nd.fls = (s.age l.length).flight.map (·.1) := by
    unfold keepF NodeP.age
    rw [hfl, List.filter_map]
    rfl
  have hlag : (s.age l.length).lags l.length = fellB nd l.length := by
    unfold NodeP.lags fellB NodeP.age
    rw [hup, hhz]
  have hk : ∀ c ∈ (s.age l.length).flight, c.1 < (l ++ [q]).length ∧ c.2 = keysP (l ++ [q]) c.1 := by
    intro c hc
    have hc' : c ∈ s.flight := (List.mem_filter.mp hc).1
    have := h.flk c hc'
    exact ⟨by simp; omega, by rw [keysP_app q this.1]; exact this.2⟩
  have hlast : (l.length : Nat) < (l ++ [q]).length ∧ q.keys = keysP (l ++ [q]) l.length := ⟨by simp, by rw [keysP_last]⟩
  unfold NodeP.tell tellN leftN
  rw [hlag]
  cases hf : fellB nd l.length with
  | true =>
    refine ⟨rfl, rfl, Nat.le_refl _, rfl, rfl, ?_, rfl, ?_, rfl, by simp [NodeE.p, zeroN], rfl, ?_, ?_⟩
    · intro c hc
      have : c = (l.length, q.keys) := by simpa [NodeP.send, NodeP.clear, NodeP.fall] using hc
      subst this
      exact hlast
    · intro c hc
      simp [NodeP.send, NodeP.clear, NodeP.fall] at hc
    · intro x hx
      simp [NodeP.send, NodeP.clear, NodeP.fall] at hx
    · intro i j x y a b hx
      simp [NodeP.send, NodeP.clear, NodeP.fall] at hx
  | false =>
    have hlen : (keepF l.length nd.fls).length = (s.age l.length).flight.length := by rw [hag, List.length_map]
    have hw : ∀ c ∈ s.waits, c.1 < (l ++ [q]).length ∧ c.2 = keysP (l ++ [q]) c.1 := fun c hc => by
      have := h.wtk c hc
      exact ⟨by simp; omega, by rw [keysP_app q this.1]; exact this.2⟩
    have hh : s.hists = histL (l ++ [q]) nd.since nd.horizon := (h.hist).trans (histL_app (a := nd.since) (b := nd.horizon) q h.top).symm
    have ht : nd.horizon < (l ++ [q]).length := by have := h.top; simp only [List.length_append, List.length_singleton]; exact Nat.lt_succ_of_lt this
    by_cases h12 : 12 ≤ (s.age l.length).flight.length
    · have e : ((if false = true then (s.age l.length).fall.clear else s.age l.length).send (l.length, q.keys)) = s.age l.length := by simp [NodeP.send, h12]
      rw [e]
      have e2 : ¬ (keepF l.length nd.fls).length < 12 := by omega
      refine ⟨h.up, h.hz, h.since, h.ents, ?_, hk, h.wts, hw, hh, ht, h.nml, h.used, h.order⟩
      simp only [NodeE.p, Bool.false_eq_true, if_false, e2]
      exact hag
    · have e : ((if false = true then (s.age l.length).fall.clear else s.age l.length).send (l.length, q.keys)) = { s.age l.length with flight := (s.age l.length).flight ++ [(l.length, q.keys)] } := by simp [NodeP.send, h12]
      rw [e]
      have e2 : (keepF l.length nd.fls).length < 12 := by omega
      refine ⟨h.up, h.hz, h.since, h.ents, ?_, ?_, h.wts, hw, hh, ht, h.nml, h.used, h.order⟩
      · simp only [NodeE.p, Bool.false_eq_true, if_false, e2, if_true]
        rw [hag, List.map_append]
        rfl
      · intro c hc
        rw [List.mem_append, List.mem_singleton] at hc
        rcases hc with hc | rfl
        · exact hk c hc
        · exact hlast

theorem at_st {P : DP} {R : RefS} {p : PastE} {t : Nat} (h : Sim P R) (hp : R.past[t]? = some p) : stAt P.past t = p.st ∧ Bd p := by
  rw [h.past] at hp
  unfold stAt
  match t, hp with
  | 0, hp => simp at hp; subst hp; exact ⟨rfl, fun k => ⟨by simp [zeroP], by simp [zeroP]⟩⟩
  | t + 1, hp =>
    rw [List.getElem?_cons_succ] at hp
    rw [if_neg (by omega), Nat.add_sub_cancel, hp]
    exact ⟨rfl, h.bd p (List.mem_of_getElem? hp)⟩

theorem Sim.last {P : DP} {R : RefS} {p : PastE} (h : Sim P R) (hp : R.past[R.past.length - 1]? = some p) (ws : List (Int × Int)) : P.nextP ws = writesP { p with keys := 0, tick := R.clock } ws := by
  rw [h.plen, Nat.add_sub_cancel] at hp
  have := (at_st h hp).1
  unfold DP.nextP
  unfold stAt at this
  rw [this, h.clock]

theorem told_names {l l' : List NodeE} {t : Nat} (h : ToldTo l l' t l.length) (hn : (l.flatMap (·.nms)).Nodup) : (l'.flatMap (·.nms)).Nodup ∧ ∀ x ∈ l'.flatMap (·.nms), x ∈ l.flatMap (·.nms) := by
  have hs : List.Sublist (l'.flatMap (·.nms)) (l.flatMap (·.nms)) := by
    obtain ⟨hl, hj⟩ := h
    have key : ∀ (l l' : List NodeE), l'.length = l.length → (∀ (j : Nat) (nd : NodeE), l[j]? = some nd → ∃ v, l'[j]? = some (tellN nd t v)) → List.Sublist (l'.flatMap (·.nms)) (l.flatMap (·.nms)) := by
      intro l
      induction l with
      | nil => intro l' hl _; rw [List.length_nil, List.length_eq_zero_iff] at hl; subst hl; exact List.Sublist.refl _
      | cons a r ih =>
        intro l' hl hj
        match l' with
        | [] => simp at hl
        | b :: r' =>
          have hr := ih r' (by simpa using hl) fun j nd hnd => by simpa using hj (j + 1) nd (by simpa using hnd)
          obtain ⟨v, hv⟩ := hj 0 a rfl
          simp at hv
          subst hv
          rw [List.flatMap_cons, List.flatMap_cons]
          refine List.Sublist.append ?_ hr
          unfold tellN leftN
          split
          · exact List.nil_sublist _
          · exact List.Sublist.refl _
    exact key l l' hl fun j nd hnd => (hj j nd hnd).1 (List.getElem?_eq_some_iff.mp hnd).1
  exact ⟨hn.sublist hs, fun x hx => hs.subset hx⟩

theorem tell_room (s : NodeP) (t : Nat) (K : Int) : (s.tell t K).room = s.room := by
  unfold NodeP.tell NodeP.send
  split <;> split <;> rfl

theorem Sim.commit {P : DP} {R : RefS} {p : PastE} {ws : List (Int × Int)} {v' : Value} {l : List NodeE} (h : Sim P R) (hp : R.past[R.past.length - 1]? = some p) (ht : ToldTo R.nodes l R.past.length R.nodes.length) (hw : BdW ws) :
    Sim (P.push (P.nextP ws)) { R.pushP (writesP { p with keys := 0, tick := R.clock } ws) v' with nodes := l } := by
  have hq := h.last hp ws
  have hlen := h.plen
  have hn := told_names ht h.names
  refine ⟨?_, h.clock, ?_, h.puts, ?_, ?_, ?_, ?_, hn.1, fun x hx => h.fresh x (hn.2 x hx)⟩
  · show R.past ++ [_] = zeroP :: (P.past ++ [_])
    rw [h.past, hq]; rfl
  · show SimR P.begun P.seats R.rdrs (P.past ++ [_]).length
    exact h.rdr.top (by simp)
  · intro y hy
    have hy' : y ∈ P.past ++ [P.nextP ws] := hy
    rw [List.mem_append, List.mem_singleton] at hy'
    rcases hy' with hy' | rfl
    · exact h.bd y hy'
    · rw [hq]
      refine Bd.writes ?_ hw
      rw [hlen, Nat.add_sub_cancel] at hp
      exact (at_st h hp).2
  · show l.length = (P.sites.map _).length
    rw [ht.1, List.length_map]; exact h.len
  · intro k s nd hs hnd
    have hs' : (P.sites.map fun s => s.tell (P.past.length + 1) (P.nextP ws).keys)[k]? = some s := hs
    rw [List.getElem?_map] at hs'
    obtain ⟨s0, hs0, rfl⟩ := Option.map_eq_some_iff.mp hs'
    have hk : k < R.nodes.length := by rw [h.len]; exact (List.getElem?_eq_some_iff.mp hs0).1
    have h0 := List.getElem?_eq_getElem hk
    obtain ⟨v, hv⟩ := (ht.2 k _ h0).1 hk
    have hnd' : l[k]? = some nd := hnd
    rw [hv] at hnd'
    injection hnd' with e
    subst e
    have := (h.node k s0 _ hs0 h0).tell (P.nextP ws) v
    rw [hlen] at this
    show NSim (R.past ++ [_]) R.uses _ _
    rw [← hq, hlen]
    exact this
  · intro s hs
    obtain ⟨s0, hs0, rfl⟩ := List.mem_map.mp hs
    rw [tell_room]
    exact h.room s0 hs0

end Go.Proofs.YtpfcacedpkaihaaGreat

/- A world of the program's beside one of the document's: each call at both. -/
namespace Go.Proofs.YtpfcacedpkaihaaGreat
open Go.RowKit

theorem fp_of_map {R R' : RefS} (h : R'.rows.map RowD.v = R.rows.map RowD.v) {b k : Nat} (hk : R'.fp b k) : R.fp b k := by
  rcases hk with hk | ⟨r, hr, hk⟩
  · exact .inl hk
  · have : r.v ∈ R.rows.map RowD.v := by rw [← h]; exact List.mem_map_of_mem hr
    obtain ⟨r', hr', e⟩ := List.mem_map.mp this
    exact .inr ⟨r', hr', by rw [e]; exact hk⟩

def pfp (xb cb : Nat) (D : DevS) (R : RefS) (k : Nat) : Prop := D.fp xb k ∨ R.fp cb k

structure Pair (w : World) (xb cb : Nat) (D : DevS) (R : RefS) : Prop where
  dev : Dev w xb D
  ref : Ref w cb R
  sim : Sim D.pu R
  good : D.pu.Good R.uses.length
  rfit : R.Fit
  nx0 : 0 ≤ R.next
  nx1 : R.next ≤ (R.uses.length : Int)
  sep : ∀ k, D.fp xb k → ¬ R.fp cb k

theorem Pair.kept {w w' : World} {xb cb : Nat} {D : DevS} {R : RefS} {F : Nat → Prop} (h : Pair w xb cb D R) (k : Kept F w w') (hF : ∀ j, pfp xb cb D R j → ¬ F j) : Pair w' xb cb D R :=
  ⟨h.dev.kept k fun j hj => hF j (.inl hj), h.ref.kept k fun j hj => hF j (.inr hj), h.sim, h.good, h.rfit, h.nx0, h.nx1, h.sep⟩
theorem Pair.lt {w : World} {xb cb : Nat} {D : DevS} {R : RefS} (h : Pair w xb cb D R) : ∀ k, pfp xb cb D R k → k < w.heap.size := fun k hk => hk.elim (h.dev.lt k) (h.ref.lt k)
theorem Pair.dfit {w : World} {xb cb : Nat} {D : DevS} {R : RefS} (h : Pair w xb cb D R) : D.Fit := ⟨h.good.pmax, h.good.clk0, h.good.clk1, h.good.bmax, h.good.qmax⟩

/-- what a call leaves of both. -/
def Turned (w w' : World) (xb cb : Nat) (D : DevS) (R : RefS) : Prop :=
  ∃ D' R', Pair w' xb cb D' R' ∧ Kept (pfp xb cb D R) w w' ∧ (∀ k, pfp xb cb D' R' k → pfp xb cb D R k ∨ w.heap.size ≤ k) ∧ R'.uses.length ≤ R.uses.length + 1

theorem Turned.same {w w' : World} {xb cb : Nat} {D : DevS} {R : RefS} {F : Nat → Prop} (h : Pair w xb cb D R) (k : Kept F w w') (hF : ∀ j, j < w.heap.size → ¬ F j) : Turned w w' xb cb D R :=
  ⟨D, R, h.kept k (fun j hj => hF j (h.lt j hj)), ⟨k.os, k.tape, k.output, k.size, fun i hi _ => k.block i hi (hF i hi)⟩, fun _ hk => .inl hk, Nat.le_succ _⟩

/-- behind the program's call: nothing but its own has turned; the document's call, whatever is laid in between, gives the same. -/
def Then (f : FuncId) (args : Array Value) (w w1 : World) (xb cb : Nat) (D : DevS) (R : RefS) (v : Value) : Prop :=
  Kept (D.fp xb) w w1 ∧ ∀ w2, Kept (fun _ => False) w1 w2 → Calls Tryz.prog f args w2 fun e w3 => e = .returned v ∧ Turned w w3 xb cb D R ∧ Kept (R.fp cb) w2 w3

/-- both have turned. -/
theorem Pair.turned {w w1 w2 w3 : World} {xb cb : Nat} {D : DevS} {P : DP} {R R' : RefS} (h : Pair w xb cb D R) (g : Goes w xb D P w1)
    (k2 : Kept (fun _ => False) w1 w2) (hb : Became w2 cb R w3 R') (hs : Sim P R') (hg : P.Good R'.uses.length) (hrf : R'.Fit) (hu : R'.uses.length ≤ R.uses.length + 1) (hx0 : 0 ≤ R'.next) (hx1 : R'.next ≤ (R'.uses.length : Int)) : Turned w w3 xb cb D R := by
  obtain ⟨D', rfl, hd, k1, f1⟩ := g
  obtain ⟨hr, k3, f3⟩ := hb
  have hd2 : Dev w2 xb D' := hd.kept k2 (fun _ _ => id)
  have far : ∀ k, D'.fp xb k → ¬ R.fp cb k := fun k hk hr => (f1 k hk).elim (fun x => h.sep k x hr) (fun x => by have := h.ref.lt k hr; omega)
  have k12 : Kept (D.fp xb) w w2 := k1.trans k2 (fun _ => id) (fun _ _ => False.elim)
  refine ⟨D', R', ⟨hd2.kept k3 far, hr, hs, hg, hrf, hx0, hx1, fun k hk hr' => ?_⟩, k12.trans k3 (fun _ => .inl) (fun _ _ => .inr), fun k hk => ?_, hu⟩
  · rcases f3 k hr' with x | x
    · exact far k hk x
    · have := hd2.lt k hk; omega
  · rcases hk with hk | hk
    · exact (f1 k hk).imp .inl id
    · exact (f3 k hk).imp .inr fun x => Nat.le_trans k12.size x
theorem Pair.turned' {w w1 w2 w3 : World} {xb cb : Nat} {D : DevS} {P : DP} {R R' : RefS} (h : Pair w xb cb D R) (g : Goes w xb D P w1)
    (k2 : Kept (fun _ => False) w1 w2) (hb : Became w2 cb R w3 R') (hs : Sim P R') (hg : P.Good R.uses.length) (hrf : R'.Fit) (hu : R'.uses = R.uses) (hx : R'.next = R.next) : Turned w w3 xb cb D R :=
  h.turned g k2 hb hs (by rw [hu]; exact hg) hrf (by rw [hu]; exact Nat.le_succ _) (by rw [hx]; exact h.nx0) (by rw [hx, hu]; exact h.nx1)

/-- neither has turned. -/
theorem Pair.stays {w w1 w2 w3 : World} {xb cb : Nat} {D : DevS} {R : RefS} (h : Pair w xb cb D R) (k1 : Kept (fun _ => False) w w1) (k2 : Kept (fun _ => False) w1 w2) (k3 : Kept (fun _ => False) w2 w3) : Turned w w3 xb cb D R :=
  Turned.same h ((k1.trans k2 (fun _ => id) (fun _ _ => id)).trans k3 (fun _ => id) (fun _ _ => id)) (fun _ _ => id)

theorem Pair.ref_after {w w1 w2 : World} {xb cb : Nat} {D : DevS} {R : RefS} (h : Pair w xb cb D R) (k1 : Kept (D.fp xb) w w1) (k2 : Kept (fun _ => False) w1 w2) : Ref w2 cb R :=
  (h.ref.kept k1 fun j hj hd => h.sep j hd hj).kept k2 (fun _ _ => id)

/-! ### Tick -/
theorem pair_tick {w : World} {xb cb : Nat} {D : DevS} {R : RefS} (h : Pair w xb cb D R) :
    ∃ r : Int, Calls Tryz.prog 31 #[.pointer (some ⟨xb, 0, none⟩)] w fun e w1 => e = .returned (.int .i64 r) ∧
      Then 32 #[.pointer (some ⟨cb, 0, none⟩)] w w1 xb cb D R (.int .i64 r) := by
  have hc : R.clock = D.clock := h.sim.clock
  by_cases hlt : D.clock < 100000
  · refine ⟨0, (dtick w xb D h.dev h.dfit).mono fun e w1 hp => ?_⟩
    rcases hp with ⟨a, _⟩ | ⟨_, e1, hd, k1⟩
    · omega
    · refine ⟨e1, k1, fun w2 k2 => (rtick w2 cb R (h.ref_after k1 k2) h.rfit).mono fun e w3 hq => ?_⟩
      rcases hq with ⟨a, _⟩ | ⟨_, e2, hr, k3⟩
      · omega
      · have c0 := h.dfit.clk0
        refine ⟨e2, h.turned' (P := { D.pu with clock := D.clock + 1 }) ⟨_, rfl, hd, k1, fun k hk => .inl hk⟩ k2 ⟨hr, k3, fun k hk => .inl (fp_of_map rfl hk)⟩ ⟨h.sim.past, by show R.clock + 1 = D.clock + 1; rw [hc], h.sim.rdr, h.sim.puts, h.sim.bd, h.sim.len, h.sim.node, h.sim.room, h.sim.names, h.sim.fresh⟩ ⟨h.good.pmax, by show 0 ≤ D.clock + 1; omega, by show D.clock + 1 ≤ 100000; omega, h.good.bmax, h.good.qmax, h.good.s1, h.good.s3, h.good.sites, h.good.puts⟩ ⟨h.rfit.pos, h.rfit.pmax, by show 0 ≤ R.clock + 1; omega, by show R.clock + 1 ≤ 100000; omega, h.rfit.rmax, h.rfit.npos, h.rfit.nmax, h.rfit.fmax⟩ rfl rfl, k3⟩
  · refine ⟨6, (dtick w xb D h.dev h.dfit).mono fun e w1 hp => ?_⟩
    rcases hp with ⟨_, e1, rfl⟩ | ⟨a, _⟩
    · refine ⟨e1, Kept.refl _ _, fun w2 k2 => (rtick w2 cb R (h.ref_after (Kept.refl _ _) k2) h.rfit).mono fun e w3 hq => ?_⟩
      rcases hq with ⟨_, e2, rfl⟩ | ⟨a, _⟩
      · exact ⟨e2, h.stays (Kept.refl _ _) k2 (Kept.refl _ _), Kept.refl _ _⟩
      · omega
    · omega

/-! ### Begin -/
theorem pair_begin {w : World} {xb cb : Nat} {D : DevS} {R : RefS} (h : Pair w xb cb D R) (limit : Int) :
    ∃ x y : Int, Calls Tryz.prog 34 #[.pointer (some ⟨xb, 0, none⟩), .int .i64 limit] w fun e w1 => e = .returned (.tuple #[.int .i64 x, .int .i64 y]) ∧
      Then 35 #[.pointer (some ⟨cb, 0, none⟩), .int .i64 limit] w w1 xb cb D R (.tuple #[.int .i64 x, .int .i64 y]) := by
  have hc : R.clock = D.clock := h.sim.clock
  have hlen : R.past.length = D.past.length + 1 := h.sim.plen
  by_cases hl : limit < 0 ∨ 100000 < limit
  · refine ⟨0, 10, (dbegin_bad w xb limit hl).mono fun e w1 hp => ?_⟩
    obtain ⟨e1, rfl⟩ := hp
    refine ⟨e1, Kept.refl _ _, fun w2 k2 => (rbegin_bad w2 cb limit hl).mono fun e w3 hq => ?_⟩
    obtain ⟨e2, rfl⟩ := hq
    exact ⟨e2, h.stays (Kept.refl _ _) k2 (Kept.refl _ _), Kept.refl _ _⟩
  · have hl0 : 0 ≤ limit := by omega
    have hl1 : limit ≤ 100000 := by omega
    have hcount : openN R.rdrs = seatN D.seats := h.sim.rdr.count
    have hbeg : D.begun = R.rdrs.length := h.sim.rdr.begun
    by_cases hall : ∀ i, i < 6 → (D.seats i).reads = true
    · have h6 := seatN_all hall
      refine ⟨0, 7, (dbegin w xb D limit h.dev h.dfit hl0 hl1).mono fun e w1 hp => ?_⟩
      obtain ⟨lo, _, ⟨_, e1, k1⟩ | ⟨j, hj, hr, _⟩ | ⟨j, hj, hr, _⟩⟩ := hp
      · refine ⟨e1, k1.mono (fun _ => False.elim), fun w2 k2 => (rbegin w2 cb R limit (h.ref_after (k1.mono (fun _ => False.elim)) k2) h.rfit hl0 hl1).mono fun e w3 hq => ?_⟩
        rcases hq with ⟨_, e2, rfl⟩ | ⟨a, _⟩ | ⟨a, _⟩
        · exact ⟨e2, h.stays k1 k2 (Kept.refl _ _), Kept.refl _ _⟩
        · omega
        · omega
      · rw [hall j hj] at hr; cases hr
      · rw [hall j hj] at hr; cases hr
    · obtain ⟨j0, hj0, hr0⟩ : ∃ j, j < 6 ∧ (D.seats j).reads = false := by
        false_or_by_contra
        rename_i hn
        refine hall fun i hi => ?_
        cases hh : (D.seats i).reads with
        | true => rfl
        | false => exact absurd ⟨i, hi, hh⟩ hn
      have h6 := seatN_free hj0 hr0
      by_cases h200 : 200 ≤ D.begun
      · refine ⟨0, 6, (dbegin w xb D limit h.dev h.dfit hl0 hl1).mono fun e w1 hp => ?_⟩
        obtain ⟨lo, _, ⟨a, _⟩ | ⟨j, hj, hr, _, e1, k1⟩ | ⟨j, hj, hr, a, _⟩⟩ := hp
        · exact absurd a hall
        · refine ⟨e1, k1.mono (fun _ => False.elim), fun w2 k2 => (rbegin w2 cb R limit (h.ref_after (k1.mono (fun _ => False.elim)) k2) h.rfit hl0 hl1).mono fun e w3 hq => ?_⟩
          rcases hq with ⟨a, _⟩ | ⟨_, _, e2, rfl⟩ | ⟨_, a, _⟩
          · omega
          · exact ⟨e2, h.stays k1 k2 (Kept.refl _ _), Kept.refl _ _⟩
          · omega
        · omega
      · refine ⟨D.begun, 0, (dbegin w xb D limit h.dev h.dfit hl0 hl1).mono fun e w1 hp => ?_⟩
        obtain ⟨lo, hfirst, ⟨a, _⟩ | ⟨j, hj, hr, a, _⟩ | ⟨j, hj, hr, _, e1, hd, k1⟩⟩ := hp
        · exact absurd a hall
        · omega
        · refine ⟨e1, k1, fun w2 k2 => (rbegin w2 cb R limit (h.ref_after k1 k2) h.rfit hl0 hl1).mono fun e w3 hq => ?_⟩
          rcases hq with ⟨a, _⟩ | ⟨_, a, _⟩ | ⟨_, _, lo', v, hleast, e2, hr3, k3, f3⟩
          · omega
          · omega
          · have hle : lo = lo' := by
              have a := least_cons hfirst.1 hfirst.2.1 hfirst.2.2 zeroP
              rw [show zeroP :: D.past = R.past from h.sim.past.symm, ← hc] at a
              exact a.unique hleast
            subst hle
            have htop : R.past.length - 1 = D.past.length := by omega
            refine ⟨by rw [e2, hbeg], h.turned' ⟨_, rfl, hd, k1, fun k hk => .inl hk⟩ k2 ⟨hr3, k3, f3⟩ ⟨h.sim.past, hc, ?_, h.sim.puts, h.sim.bd, h.sim.len, h.sim.node, h.sim.room, h.sim.names, h.sim.fresh⟩ (h.good.seats _ (D.begun + 1) (by omega)) ⟨h.rfit.pos, h.rfit.pmax, h.rfit.clk0, h.rfit.clk1, by show (R.rdrs ++ [_]).length ≤ 200; rw [List.length_append, List.length_singleton]; omega, h.rfit.npos, h.rfit.nmax, h.rfit.fmax⟩ rfl rfl, k3⟩
            show SimR (D.begun + 1) (putSeat D.seats j _) (R.rdrs ++ [⟨lo, R.past.length - 1, false⟩]) D.past.length
            rw [htop]
            exact h.sim.rdr.beginS hj hr lo hfirst.1

/-! ### End -/
theorem goneB_open {l : List RdrE} {j : Nat} {x : RdrE} (hx : l[j]? = some x) (he : x.ended = false) : goneB l j = false := by
  have hlt := (List.getElem?_eq_some_iff.mp hx).1
  have a : ¬ (j : Int) < 0 := by omega
  have c : ¬ (l.length : Int) ≤ (j : Int) := by omega
  simp only [goneB, a, c, decide_false, Bool.false_or, Int.toNat_natCast, hx]
  exact he
theorem pair_end {w : World} {xb cb : Nat} {D : DevS} {R : RefS} (h : Pair w xb cb D R) (m : Int) :
    ∃ x y z : Int, Calls Tryz.prog 36 #[.pointer (some ⟨xb, 0, none⟩), .int .i64 m] w fun e w1 => e = .returned (.tuple #[.agg #[.int .u64 x, .int .u64 y], .int .i64 z]) ∧
      Then 37 #[.pointer (some ⟨cb, 0, none⟩), .int .i64 m] w w1 xb cb D R (.tuple #[.agg #[.int .u64 x, .int .u64 y], .int .i64 z]) := by
  have hrdr : SimR D.begun D.seats R.rdrs D.past.length := h.sim.rdr
  by_cases hall : ∀ i, i < 6 → (D.seats i).reads = true → (D.seats i).num ≠ m
  · refine ⟨0, 0, 8, (dend w xb D m h.dev).mono fun e w1 hp => ?_⟩
    rcases hp with ⟨_, e1, k1⟩ | ⟨j, hj, hr, hn, _⟩
    · refine ⟨e1, k1.mono (fun _ => False.elim), fun w2 k2 => (rend w2 cb R m (h.ref_after (k1.mono (fun _ => False.elim)) k2) h.rfit).mono fun e w3 hq => ?_⟩
      rcases hq with ⟨_, e2, b3⟩ | ⟨j, x, rfl, hx, he, _⟩
      · exact ⟨e2, h.stays k1 k2 (Kept.of_below b3 _), Kept.of_below b3 _⟩
      · obtain ⟨i, hi, hr, hn⟩ := hrdr.back j x hx he
        exact absurd hn (hall i hi hr)
    · exact absurd hn (hall j hj hr)
  · obtain ⟨j0, hj0, hr0, hn0⟩ : ∃ j, j < 6 ∧ (D.seats j).reads = true ∧ (D.seats j).num = m := by
      false_or_by_contra
      rename_i hn
      exact hall fun i hi hr e => hn ⟨i, hi, hr, e⟩
    refine ⟨(D.seats j0).lo, (D.seats j0).hi, 0, (dend w xb D m h.dev).mono fun e w1 hp => ?_⟩
    rcases hp with ⟨a, _⟩ | ⟨j, hj, hr, hn, e1, hd, k1⟩
    · exact absurd a hall
    · have hjj : j = j0 := hrdr.one j j0 hj hj0 hr hr0 (by rw [hn, hn0])
      subst hjj
      refine ⟨e1, k1, fun w2 k2 => (rend w2 cb R m (h.ref_after k1 k2) h.rfit).mono fun e w3 hq => ?_⟩
      obtain ⟨q, x, hq1, hx, he, hlo, hhi⟩ := hrdr.seat j hj hr
      have hmq : m = q := by rw [← hn, hq1]
      rcases hq with ⟨a, _⟩ | ⟨q', x', hm', hx', he', e2, hr3, k3⟩
      · rw [hmq, goneB_open hx he] at a; cases a
      · have hqq : q' = q := by omega
        subst hqq
        rw [hx] at hx'
        injection hx' with hx'
        subst hx'
        refine ⟨by rw [e2, hlo, hhi], h.turned' ⟨_, rfl, hd, k1, fun k hk => .inl hk⟩ k2 ⟨hr3, k3, fun k hk => .inl (fp_of_map (R' := R.endR _ x) (R := R) rfl hk)⟩ ⟨h.sim.past, h.sim.clock, ?_, h.sim.puts, h.sim.bd, h.sim.len, h.sim.node, h.sim.room, h.sim.names, h.sim.fresh⟩ (h.good.seats _ D.begun h.good.bmax) ⟨h.rfit.pos, h.rfit.pmax, h.rfit.clk0, h.rfit.clk1, by show (R.rdrs.set _ _).length ≤ 200; rw [List.length_set]; exact h.rfit.rmax, h.rfit.npos, h.rfit.nmax, h.rfit.fmax⟩ rfl rfl, k3⟩
        exact hrdr.endS hj hr hq1 hx he

/-! ### Commit -/
theorem Wr.kept' {w w' : World} {F : Nat → Prop} {ao : Option Addr} {n : Nat} {ws : List (Int × Int)} (h : Wr w ao n ws) (k : Kept F w w') (hF : 0 < n → ∀ a, ao = some a → ¬ F a.block) : Wr w' ao n ws := by
  by_cases hn : 0 < n
  · exact h.kept k (hF hn)
  · exact ⟨h.len, fun j hj => by have := h.len; omega⟩
theorem pair_commit {w : World} {xb cb : Nat} {D : DevS} {R : RefS} (h : Pair w xb cb D R) (hnn : R.uses.length < 9223372036854775807) (ao ao' : Option Addr) (n cap cap' : Nat) (ws : List (Int × Int)) (hw : Wr w ao n ws) (hw' : Wr w ao' n ws) (hm : n ≤ maxLen) (hfar : 0 < n → ∀ a, ao' = some a → ¬ D.fp xb a.block) (hwb : BdW ws) :
    ∃ x y : Int, Calls Tryz.prog 28 #[.pointer (some ⟨xb, 0, none⟩), .slice ao n cap] w fun e w1 => e = .returned (.tuple #[.int .u64 x, .int .i64 y]) ∧
      Then 29 #[.pointer (some ⟨cb, 0, none⟩), .slice ao' n cap'] w w1 xb cb D R (.tuple #[.int .u64 x, .int .i64 y]) := by
  have hlen := h.sim.plen
  have hwalk := h.good.walk hnn
  have hpm := h.good.pmax
  refine ⟨_, _, (dCommit w xb D ao n cap ws h.dev hwalk hw hm).mono fun e w1 hp => ⟨hp.1, ?_⟩⟩
  obtain ⟨D', hD', hd, k1, f1⟩ := hp.2
  have hwd : ∀ w2, Kept (fun _ => False) w1 w2 → Wr w2 ao' n ws := fun w2 k2 => (hw'.kept' k1 hfar).kept k2 fun _ _ => id
  have keep : ∀ w2 w3, Kept (fun _ => False) w1 w2 → Kept (fun _ => False) w2 w3 → D'.pu = D.pu → Turned w w3 xb cb D R := fun w2 w3 k2 k3 hpu => by
    have hr2 := h.ref_after k1 k2
    exact h.turned' ⟨D', hpu, hd, k1, f1⟩ k2 ⟨hr2.kept k3 (fun _ _ => id), k3.mono (fun _ => False.elim), fun _ hx => .inl hx⟩ h.sim h.good h.rfit rfl rfl
  refine ⟨k1, fun w2 k2 => ?_⟩
  by_cases h8 : 8 < n
  · rw [DP.commit, if_pos h8] at hD' ⊢
    refine (rcommit_long w2 cb ao' n cap' (by omega) hm).mono fun e w3 hq => ?_
    obtain ⟨e2, rfl⟩ := hq
    exact ⟨e2, keep _ _ k2 (Kept.refl _ _) hD', Kept.refl _ _⟩
  · rw [DP.commit, if_neg h8] at hD' ⊢
    by_cases hk : ws.all keyOk = false
    · rw [if_pos hk] at hD' ⊢
      refine (rcommit_key w2 cb ao' n cap' ws (hwd w2 k2) (by omega) hk).mono fun e w3 hq => ?_
      obtain ⟨e2, rfl⟩ := hq
      exact ⟨e2, keep _ _ k2 (Kept.refl _ _) hD', Kept.refl _ _⟩
    · rw [if_neg hk] at hD' ⊢
      have hk : ws.all keyOk = true := by cases h : ws.all keyOk with
        | true => rfl
        | false => exact absurd h hk
      by_cases h7 : 700 ≤ D.pu.past.length
      · rw [if_pos h7] at hD' ⊢
        refine (rcommit_full w2 cb R ao' n cap' ws (h.ref_after k1 k2) h.rfit (hwd w2 k2) (by omega) hk (by omega)).mono fun e w3 hq => ?_
        obtain ⟨e2, rfl⟩ := hq
        exact ⟨e2, keep _ _ k2 (Kept.refl _ _) hD', Kept.refl _ _⟩
      · rw [if_neg h7] at hD' ⊢
        refine (rcommit_good w2 cb R ao' n cap' ws (h.ref_after k1 k2) h.rfit (hwd w2 k2) (by omega) hk (by omega)).mono fun e w3 hq => ?_
        obtain ⟨e2, p, v', l, hp, hr3, ht, hfit, k3, f3⟩ := hq
        refine ⟨by rw [e2, hlen], h.turned' ⟨D', hD', hd, k1, f1⟩ k2 ⟨hr3, k3, f3⟩ (h.sim.commit hp ht hwb) (h.good.push _ (by omega)) hfit rfl rfl, k3⟩

end Go.Proofs.YtpfcacedpkaihaaGreat

/- A node of the program's beside one of the document's: the order of the uses, and what answers (mathematics alone). -/
namespace Go.Proofs.YtpfcacedpkaihaaGreat
open Go.RowKit

/-! ### the order of the uses -/
theorem lastN_le (l : List Int) (x : Int) : ∀ n, lastN l x n < (n : Int)
  | 0 => by simp [lastN]
  | n + 1 => by
    have := lastN_le l x n
    simp only [lastN]
    split <;> omega
theorem lastN_app (l m : List Int) (x : Int) : ∀ n, n ≤ l.length → lastN (l ++ m) x n = lastN l x n
  | 0, _ => rfl
  | n + 1, h => by
    simp only [lastN]
    rw [List.getElem?_append_left (by omega), lastN_app l m x n (by omega)]
theorem lastP_lt (us : List Int) (x : Int) : lastP us x < (us.length : Int) := lastN_le us x _
theorem lastP_self (us : List Int) (x : Int) : lastP (us ++ [x]) x = (us.length : Int) := by
  unfold lastP
  rw [List.length_append, List.length_singleton, lastN, List.getElem?_append_right (Nat.le_refl _)]
  simp
theorem lastP_ne {us : List Int} {x a : Int} (h : a ≠ x) : lastP (us ++ [x]) a = lastP us a := by
  unfold lastP
  rw [List.length_append, List.length_singleton, lastN, List.getElem?_append_right (Nat.le_refl _)]
  have : ¬ ([x][us.length - us.length]? = some a) := by simp; exact fun e => h e.symm
  rw [if_neg this, lastN_app _ _ _ _ (Nat.le_refl _)]

theorem flat_names {l : List NodeE} : (l.flatMap (·.nms)).Nodup → (∀ nd ∈ l, nd.nms.Nodup) ∧ ∀ (k k' : Nat) (nd nd' : NodeE), l[k]? = some nd → l[k']? = some nd' → k ≠ k' → ∀ a ∈ nd.nms, ∀ b ∈ nd'.nms, a ≠ b := by
  induction l with
  | nil => intro _; exact ⟨fun _ h => (by cases h), fun k k' nd nd' h => by simp at h⟩
  | cons x r ih =>
    intro hn
    rw [List.flatMap_cons, List.nodup_append] at hn
    obtain ⟨h1, h2, h3⟩ := hn
    obtain ⟨i1, i2⟩ := ih h2
    refine ⟨fun nd hm => ?_, fun k k' nd nd' hk hk' hne a ha b hb => ?_⟩
    · rcases List.mem_cons.mp hm with rfl | hm
      · exact h1
      · exact i1 nd hm
    · match k, k' with
      | 0, 0 => exact absurd rfl hne
      | 0, k' + 1 =>
        simp at hk hk'
        subst hk
        exact h3 a ha b (List.mem_flatMap.mpr ⟨nd', List.mem_of_getElem? hk', hb⟩)
      | k + 1, 0 =>
        simp at hk hk'
        subst hk'
        exact fun e => h3 b hb a (List.mem_flatMap.mpr ⟨nd, List.mem_of_getElem? hk, ha⟩) e.symm
      | k + 1, k' + 1 =>
        simp at hk hk'
        exact i2 k k' nd nd' hk hk' (by omega) a ha b hb

theorem nodup_at {l : List Int} (h : l.Nodup) {i j : Nat} {a : Int} (hi : l[i]? = some a) (hj : l[j]? = some a) : i = j := by
  obtain ⟨h1, h2⟩ := List.getElem?_eq_some_iff.mp hi
  obtain ⟨h3, h4⟩ := List.getElem?_eq_some_iff.mp hj
  have hp := List.pairwise_iff_getElem.mp h
  rcases Nat.lt_trichotomy i j with x | x | x
  · exact absurd (h2.trans h4.symm) (hp i j h1 h3 x)
  · exact x
  · exact absurd (h4.trans h2.symm) (hp j i h3 h1 x)

/-- a name of another node is used. -/
theorem NSim.other {l : List PastE} {us : List Int} {s : NodeP} {n : RNode} (h : NSim l us s n) {nm : Int} (hne : ∀ a ∈ n.nms, a ≠ nm) : NSim l (us ++ [nm]) s n :=
  ⟨h.up, h.hz, h.since, h.ents, h.fls, h.flk, h.wts, h.wtk, h.hist, h.top, h.nml, h.used, fun i j x y a b hx hy ha hb => by
    rw [lastP_ne (hne a (List.mem_of_getElem? ha)), lastP_ne (hne b (List.mem_of_getElem? hb))]
    exact h.order i j x y a b hx hy ha hb⟩
/-- an entry of the node's is used. -/
theorem NSim.use {l : List PastE} {us : List Int} {s : NodeP} {n : RNode} (h : NSim l us s n) {i : Nat} {x : HeldE} {nm : Int} (hx : s.ents[i]? = some x) (hm : n.nms[i]? = some nm) (hn : n.nms.Nodup) : NSim l (us ++ [nm]) (s.use i x) n := by
  obtain ⟨hi, hx'⟩ := List.getElem?_eq_some_iff.mp hx
  have far : ∀ (j : Nat) (a : Int), n.nms[j]? = some a → j ≠ i → a ≠ nm := fun j a ha hj e => by
    subst e
    exact hj (nodup_at hn ha hm)
  refine ⟨h.up, h.hz, h.since, ?_, h.fls, h.flk, h.wts, h.wtk, h.hist, h.top, ?_, ?_, ?_⟩
  · show n.ents = (s.ents.set i { x with used := s.uses + 1 }).map (·.e)
    rw [List.map_set, h.ents]
    have : (s.ents.map (·.e))[i]? = some x.e := by rw [List.getElem?_map, hx]; rfl
    obtain ⟨hl, he⟩ := List.getElem?_eq_some_iff.mp this
    show _ = (s.ents.map (·.e)).set i x.e
    rw [← he, List.set_getElem_self]
  · show n.nms.length = (s.ents.set i _).length
    rw [List.length_set]; exact h.nml
  · intro y hy
    show y.used ≤ s.uses + 1
    rcases List.mem_or_eq_of_mem_set hy with hy | rfl
    · exact Nat.le_succ_of_le (h.used y hy)
    · exact Nat.le_refl _
  · intro p q y z a b hy hz ha hb
    have hy' : (s.ents.set i { x with used := s.uses + 1 })[p]? = some y := hy
    have hz' : (s.ents.set i { x with used := s.uses + 1 })[q]? = some z := hz
    by_cases hp : p = i
    · subst hp
      rw [List.getElem?_set_self hi] at hy'
      injection hy' with hy'
      rw [hm] at ha
      injection ha with ha
      subst ha hy'
      rw [lastP_self]
      by_cases hq : q = p
      · subst hq
        rw [List.getElem?_set_self hi] at hz'
        injection hz' with hz'
        rw [hm] at hb
        injection hb with hb
        subst hb hz'
        rw [lastP_self]
        simp
      · rw [List.getElem?_set_ne (fun e => hq e.symm)] at hz'
        rw [lastP_ne (far q b hb hq)]
        have h1 := h.used z (List.mem_of_getElem? hz')
        have h2 := lastP_lt us b
        show s.uses + 1 < z.used ↔ _
        omega
    · rw [List.getElem?_set_ne (fun e => hp e.symm)] at hy'
      rw [lastP_ne (far p a ha hp)]
      by_cases hq : q = i
      · subst hq
        rw [List.getElem?_set_self hi] at hz'
        injection hz' with hz'
        rw [hm] at hb
        injection hb with hb
        subst hb hz'
        rw [lastP_self]
        have h1 := h.used y (List.mem_of_getElem? hy')
        have h2 := lastP_lt us a
        show y.used < s.uses + 1 ↔ _
        omega
      · rw [List.getElem?_set_ne (fun e => hq e.symm)] at hz'
        rw [lastP_ne (far q b hb hq)]
        exact h.order p q y z a b hy' hz' ha hb

theorem ansN_meets (up : Bool) (hz : Nat) (q : ByteArray) (lo hi : Nat) (l : List EntE) : ∀ (n i : Nat) (x : EntE), ansN up hz q lo hi l n = (i : Int) → l[i]? = some x → meetsE hz q lo hi x
  | 0, i, x, h, _ => by simp only [ansN] at h; omega
  | n + 1, i, x, h, hx => by
    simp only [ansN] at h
    split at h
    · rename_i y hy
      split at h
      · rename_i hc
        obtain rfl : n = i := by omega
        rw [hy] at hx
        injection hx with hx
        subst hx
        exact hc.2.1
      · exact ansN_meets up hz q lo hi l n i x h hx
    · exact ansN_meets up hz q lo hi l n i x h hx

/-- both nodes answer the same. -/
theorem NSim.ans {l : List PastE} {us : List Int} {s : NodeP} {nd : NodeE} {t n : Nat} (h : NSim l us s nd.p) (hg : s.Good t n) (q : ByteArray) (lo hi : Nat) : ansN nd.up nd.horizon q lo hi nd.ents nd.ents.length = s.ans q lo hi s.ents.length := by
  have h1 : nd.up = s.up := h.up
  have h2 : nd.horizon = s.horizon := h.hz
  have h3 : nd.ents = s.ents.map (·.e) := h.ents
  unfold NodeP.ans
  rw [h1, h2, h3, List.length_map]
  cases hu : s.up with
  | true => rfl
  | false => rw [(hg.dn hu).1]; rfl

end Go.Proofs.YtpfcacedpkaihaaGreat

/- A world of the program's beside one of the document's: Read and Drop at both. -/
namespace Go.Proofs.YtpfcacedpkaihaaGreat
open Go.RowKit

theorem Sim.hit {P : DP} {R : RefS} (h : Sim P R) {j k i r : Nat} {s : NodeP} {nd : NodeE} {x : HeldE} {y : RdrE} {nm : Int} (v : Value) (hj : j < 6) (hr : (P.seats j).reads = true) (hn : (P.seats j).num = r) (hy : R.rdrs[r]? = some y) (he : y.ended = false) (hlo : y.lo = (P.seats j).lo) (hhi : y.hi = (P.seats j).hi)
    (hs : P.sites[k]? = some s) (hnd : R.nodes[k]? = some nd) (hx : s.ents[i]? = some x) (hm : nd.nms[i]? = some nm) (ht : max y.lo x.e.fr ≤ min y.hi (lastE x.e s.horizon)) :
    Sim (P.hit j k i s x) ((R.spanR r y (max y.lo x.e.fr) (min y.hi (lastE x.e s.horizon))).pushUse nm v) := by
  obtain ⟨hn1, hn2⟩ := flat_names h.names
  obtain ⟨hk, _⟩ := List.getElem?_eq_some_iff.mp hs
  refine ⟨h.past, h.clock, h.rdr.cutS hj hr hn hy ht hlo hhi he, h.puts, h.bd, ?_, ?_, ?_, h.names, h.fresh⟩
  · show R.nodes.length = (P.sites.set k _).length
    rw [List.length_set]; exact h.len
  · intro k' s' nd' hs' hnd'
    have hs2 : (P.sites.set k (s.use i x))[k']? = some s' := hs'
    have hnd2 : R.nodes[k']? = some nd' := hnd'
    show NSim R.past (R.uses ++ [nm]) s' nd'.p
    by_cases hkk : k' = k
    · subst hkk
      rw [List.getElem?_set_self hk] at hs2
      injection hs2 with hs2
      rw [hnd] at hnd2
      injection hnd2 with hnd2
      subst hs2 hnd2
      exact (h.node _ s nd hs hnd).use hx hm (hn1 nd (List.mem_of_getElem? hnd))
    · rw [List.getElem?_set_ne (fun e => hkk e.symm)] at hs2
      exact (h.node k' s' nd' hs2 hnd2).other fun a ha => hn2 k' k nd' nd hnd2 hnd hkk a ha nm (List.mem_of_getElem? hm)
  · intro s' hs'
    rcases List.mem_or_eq_of_mem_set hs' with hs' | rfl
    · exact h.room s' hs'
    · exact h.room s (List.mem_of_getElem? hs)

theorem Sim.miss {P : DP} {R : RefS} (h : Sim P R) {j r : Nat} {y : RdrE} {en : EntE} (v : Value) (hj : j < 6) (hr : (P.seats j).reads = true) (hn : (P.seats j).num = r) (hy : R.rdrs[r]? = some y) (he : y.ended = false) (hlo : y.lo = (P.seats j).lo) (hhi : y.hi = (P.seats j).hi) (hfr : en.fr ≤ y.hi) :
    Sim (P.miss j en) (R.readR r y en v) := by
  have hsp := h.rdr.span y (List.mem_of_getElem? hy)
  have hc := h.rdr.cutS (f := en.fr) (g := y.hi) hj hr hn hy (by rw [Nat.min_self]; omega) hlo hhi he
  rw [Nat.min_self] at hc
  refine ⟨h.past, h.clock, ?_, ?_, h.bd, h.len, h.node, h.room, h.names, h.fresh⟩
  · show SimR P.begun (putSeat P.seats j ((P.seats j).cut en.fr (P.seats j).hi)) (R.rdrs.set r { y with lo := max y.lo en.fr }) P.past.length
    rw [← hhi]
    exact hc
  · show (if R.puts.length < 10 then R.puts ++ [en] else R.puts) = P.joined en
    unfold DP.joined
    rw [h.puts]

/-! ### Read -/
/-- the document's own reader of queries, at a query that it takes. -/
theorem taken_of (q : ByteArray) (W : World) (ts : List (Nat × Nat)) (hr : Q.readL q.data.toList = (0, ts)) (h8 : ts.length ≤ 8) (hks : ∀ t ∈ ts, t.1 ≤ 3 ∧ t.2 ≤ 7) :
    Calls Tryz.prog 72 #[.string q] W fun e w' => ∃ l, e = .returned (.tuple #[l, .int .i64 0]) ∧ Below W.heap.size W w' ∧ Taken w' l (keysL ts) (fun p => evalL p.st ts) := by
  refine (rread_good q W ts hr).mono fun e w' hp => ?_
  obtain ⟨g, cap, e1, _, hl, hb⟩ := hp
  refine ⟨.slice (some ⟨g, 0, none⟩) ts.length cap, e1, hb, ⟨_, _, _, rfl⟩, fun V hV => ?_, fun p hp V hV => ?_⟩
  · refine (keysOf_any g cap ts V (hl.below hV) h8 hks).mono fun e2 w2 h2 => ?_
    obtain ⟨e3, rfl⟩ := h2
    exact ⟨e3, Below.refl _ _⟩
  · exact work_any g cap ts p.st V (hl.below hV) h8 hks hp

/-- no open reader has this number. -/
theorem gone_of {b top : Nat} {s : Nat → SeatE} {l : List RdrE} (h : SimR b s l top) {m : Int} (hall : ∀ i, i < 6 → (s i).reads = true → (s i).num ≠ m) : goneB l m = true := by
  by_cases h0 : m < 0
  · simp [goneB, h0]
  · by_cases h1 : (l.length : Int) ≤ m
    · simp [goneB, h1]
    · obtain ⟨j, rfl⟩ : ∃ j : Nat, m = j := ⟨m.toNat, by omega⟩
      have hlt : j < l.length := by omega
      have he : l[j].ended = true := by
        cases hh : l[j].ended with
        | true => rfl
        | false =>
          obtain ⟨i, hi, hr, hn⟩ := h.back j l[j] (List.getElem?_eq_getElem hlt) hh
          exact absurd hn (hall i hi hr)
      simp only [goneB, h0, h1, decide_false, Bool.false_or, Int.toNat_natCast, List.getElem?_eq_getElem hlt]
      exact he

theorem pair_read {w : World} {xb cb : Nat} {D : DevS} {R : RefS} (h : Pair w xb cb D R) (hus : (R.uses.length + 1) * 8 ≤ 140737488355328) (m : Int) (q : ByteArray) (hq : q.size ≤ maxLen) :
    ∃ (x : Int) (f : Bool) (z : Int), Calls Tryz.prog 38 #[.pointer (some ⟨xb, 0, none⟩), .int .i64 m, .string q] w fun e w1 => e = .returned (.tuple #[.int .i32 x, .bool f, .int .i64 z]) ∧
      Then 39 #[.pointer (some ⟨cb, 0, none⟩), .int .i64 m, .string q] w w1 xb cb D R (.tuple #[.int .i32 x, .bool f, .int .i64 z]) := by
  by_cases hall : ∀ i, i < 6 → (D.seats i).reads = true → (D.seats i).num ≠ m
  · have hg := gone_of (s := D.seats) h.sim.rdr hall
    refine ⟨0, false, 8, (dread_gone w xb D m q h.dev hall).mono fun e w1 hp => ?_⟩
    obtain ⟨e1, k1⟩ := hp
    refine ⟨e1, k1.mono (fun _ => False.elim), fun w2 k2 => (wread_gone w2 cb R m q (h.ref_after (k1.mono (fun _ => False.elim)) k2) h.rfit hg).mono fun e w3 hq => ?_⟩
    exact ⟨hq.1, h.stays k1 k2 (Kept.of_below hq.2 _), Kept.of_below hq.2 _⟩
  · obtain ⟨j, hj, hr, hn⟩ : ∃ j, j < 6 ∧ (D.seats j).reads = true ∧ (D.seats j).num = m := by
      false_or_by_contra
      rename_i hn
      exact hall fun i hi hr e => hn ⟨i, hi, hr, e⟩
    obtain ⟨r, x, hnr, hx, he, hlo, hhi⟩ := h.sim.rdr.seat j hj hr
    have hnr' : (D.seats j).num = r := hnr
    have hlo' : x.lo = (D.seats j).lo := hlo
    have hhi' : x.hi = (D.seats j).hi := hhi
    have hm : m = r := by rw [← hn, hnr']
    have hg : goneB R.rdrs m = false := by rw [hm]; exact goneB_open hx he
    rcases Q.readL_cases q.data.toList with hrd | hrd | ⟨ts, hrd, hne, h8, hks⟩
    · refine ⟨0, false, 3, (dread_bad w xb D m q 3 j h.dev hj hr hn hq (by decide) hrd).mono fun e w1 hp => ?_⟩
      obtain ⟨e1, k1⟩ := hp
      refine ⟨e1, k1.mono (fun _ => False.elim), fun w2 k2 => (wread_bad w2 cb R m q 3 (h.ref_after (k1.mono (fun _ => False.elim)) k2) h.rfit hg (by decide) ((rread_bad q w2 3 hq hrd).mono fun e w3 h3 => ⟨⟨_, h3.1⟩, h3.2.2⟩)).mono fun e w3 hq => ?_⟩
      exact ⟨hq.1, h.stays k1 k2 (Kept.of_below hq.2 _), Kept.of_below hq.2 _⟩
    · refine ⟨0, false, 4, (dread_bad w xb D m q 4 j h.dev hj hr hn hq (by decide) hrd).mono fun e w1 hp => ?_⟩
      obtain ⟨e1, k1⟩ := hp
      refine ⟨e1, k1.mono (fun _ => False.elim), fun w2 k2 => (wread_bad w2 cb R m q 4 (h.ref_after (k1.mono (fun _ => False.elim)) k2) h.rfit hg (by decide) ((rread_bad q w2 4 hq hrd).mono fun e w3 h3 => ⟨⟨_, h3.1⟩, h3.2.2⟩)).mono fun e w3 hq => ?_⟩
      exact ⟨hq.1, h.stays k1 k2 (Kept.of_below hq.2 _), Kept.of_below hq.2 _⟩
    · have hsp := h.sim.rdr.span x (List.mem_of_getElem? hx)
      have hlen := h.sim.plen
      have hpl : D.pu.past.length = D.past.length := rfl
      have hq40 : q.size ≤ 40 := by have := readL_len hrd; rw [Array.length_toList] at this; exact this
      have hone : ∀ i, i < 6 → (D.seats i).reads = true → (D.seats i).num = m → i = j := fun i hi hri hni => h.sim.rdr.one i j hi hj hri hr (hni.trans hn.symm)
      have hwalk := h.good.walk (by omega)
      have hlh : (D.seats j).lo ≤ (D.seats j).hi := by rw [← hlo', ← hhi']; exact hsp.1
      have hnl : R.nodes.length = D.nodes.length := h.sim.len.trans (by show (D.nodes.map _).length = _; simp)
      have hnp := h.rfit.npos
      obtain ⟨k, hk⟩ : ∃ k, k = sumB q.data.toList % R.nodes.length := ⟨_, rfl⟩
      have hkl : k < R.nodes.length := by rw [hk]; exact Nat.mod_lt _ hnp
      have hkD : D.pu.nodeN q = k := by
        show sumB q.data.toList % D.pu.sites.length = k
        rw [← h.sim.len, hk]
      obtain ⟨nd, hnd⟩ : ∃ nd, R.nodes[k]? = some nd := ⟨_, List.getElem?_eq_getElem hkl⟩
      obtain ⟨dn, hdn⟩ : ∃ dn, D.nodes[k]? = some dn := ⟨_, List.getElem?_eq_getElem (by omega)⟩
      have hs : D.pu.sites[k]? = some dn.p := by show (D.nodes.map (·.p))[k]? = _; rw [List.getElem?_map, hdn]; rfl
      have hns := h.sim.node k dn.p nd hs hnd
      have hgs := h.good.sites dn.p (List.mem_of_getElem? hs)
      have hpm := h.good.pmax
      have hents : nd.ents = dn.p.ents.map (·.e) := hns.ents
      have hel : nd.ents.length ≤ 1000 := by
        rw [hents, List.length_map]
        have := hgs.el
        have := hgs.room6
        omega
      have hfi : ∀ e ∈ nd.ents, e.Fit := fun e hem => by
        rw [hents] at hem
        obtain ⟨z, hz, rfl⟩ := List.mem_map.mp hem
        exact (hgs.es z hz).fit hpm
      have hans := hns.ans hgs q x.lo x.hi
      have hlow := (ansN_lt nd.up nd.horizon q x.lo x.hi nd.ents nd.ents.length)
      by_cases hhit : 0 ≤ dn.p.ans q x.lo x.hi dn.p.ents.length
      · obtain ⟨i, hi⟩ : ∃ i : Nat, dn.p.ans q x.lo x.hi dn.p.ents.length = i := ⟨_, (Int.toNat_of_nonneg hhit).symm⟩
        have hil : i < dn.p.ents.length := by
          rw [hans, hi] at hlow
          have := hlow.2
          rw [hents, List.length_map] at this
          omega
        obtain ⟨z, hz⟩ : ∃ z, dn.p.ents[i]? = some z := ⟨_, List.getElem?_eq_getElem hil⟩
        have hy : nd.ents[i]? = some z.e := by rw [hents, List.getElem?_map, hz]; rfl
        have hnml : nd.nms.length = dn.p.ents.length := hns.nml
        obtain ⟨nm, hnm⟩ : ∃ nm, nd.nms[i]? = some nm := ⟨_, List.getElem?_eq_getElem (by omega)⟩
        have hhz : nd.horizon = dn.p.horizon := hns.hz
        have han : ansN nd.up nd.horizon q x.lo x.hi nd.ents nd.ents.length = (i : Int) := hans.trans hi
        have hmt := ansN_meets _ _ _ _ _ _ _ _ _ han hy
        rw [hhz] at hmt
        refine ⟨z.e.val, true, 0, (dread_hit w xb D m q ts j i dn z h.dev hwalk hj hr hn hone hlh hq40 hrd (by rw [hkD]; exact hdn) (by rw [← hlo', ← hhi']; exact hi) hz).mono fun e w1 hp => ⟨hp.1, hp.2.choose_spec.2.2.1, fun w2 k2 => ?_⟩⟩
        have hwr := wread_hit w2 cb R r i q x nd z.e nm (keysL ts) (fun p => evalL p.st ts) (h.ref_after hp.2.choose_spec.2.2.1 k2) h.rfit hx he hq40 (by rw [← hk]; exact hnd) hel hfi han hy hnm hus (taken_of q w2 ts hrd h8 hks)
        rw [hm]
        refine hwr.mono fun e w3 hr3 => ?_
        obtain ⟨e2, v, hb⟩ := hr3
        rw [hhz] at hb
        have hu1 : ((R.spanR r x (max x.lo z.e.fr) (min x.hi (lastE z.e dn.p.horizon))).pushUse nm v).uses.length = R.uses.length + 1 := by show (R.uses ++ [nm]).length = _; simp
        refine ⟨e2, h.turned hp.2 k2 hb ?_ ?_ ?_ (by omega) h.nx0 ?_, hb.2.1⟩
        · rw [hkD]
          exact h.sim.hit v hj hr hnr hx he hlo hhi hs hnd hz hnm hmt.2
        · rw [hu1, hkD]
          exact h.good.hit hs hz
        · refine ⟨h.rfit.pos, h.rfit.pmax, h.rfit.clk0, h.rfit.clk1, ?_, h.rfit.npos, h.rfit.nmax, h.rfit.fmax⟩
          show (R.rdrs.set r _).length ≤ 200
          rw [List.length_set]; exact h.rfit.rmax
        · rw [hu1]
          have := h.nx1
          show R.next ≤ _
          omega
      · have hmi : ansN nd.up nd.horizon q x.lo x.hi nd.ents nd.ents.length = -1 := by omega
        have hsh : (D.seats j).hi ≤ D.past.length := by rw [← hhi']; exact hsp.2
        obtain ⟨p, hp⟩ : ∃ p, R.past[x.hi]? = some p := ⟨_, List.getElem?_eq_getElem (by have := hsp.2; omega)⟩
        obtain ⟨hst, hbd⟩ := at_st h.sim hp
        have hen : D.pu.answer q ts (D.seats j).hi = rightE R.past q (keysL ts) ((fun p : PastE => evalL p.st ts) p) x.hi := by
          rw [← hhi', h.sim.past]
          show rightE _ q _ (evalL (stAt D.pu.past x.hi) ts) _ = _
          rw [hst]
        have hok := answer_ok (P := D.pu) (t := (D.seats j).hi) hrd hsh
        obtain ⟨en, hEn⟩ : ∃ en, en = D.pu.answer q ts (D.seats j).hi := ⟨_, rfl⟩
        have hfr : en.fr ≤ x.hi := by rw [hEn, hen]; exact fromN_le _ _ _
        refine ⟨en.val, false, 0, ?_⟩
        have hdr := dread_miss w xb D m q ts j dn h.dev hwalk hj hr hn hone hlh hsh hq40 hrd (by rw [hkD]; exact hdn) (by rw [← hlo', ← hhi']; omega)
        rw [← hEn] at hdr hok
        refine hdr.mono fun e w1 hd => ⟨hd.1, hd.2.choose_spec.2.2.1, fun w2 k2 => ?_⟩
        have hwr := wread_store w2 cb R r q x p nd (keysL ts) (fun p => evalL p.st ts) (h.ref_after hd.2.choose_spec.2.2.1 k2) h.rfit hx he hp hq40 (by rw [← hk]; exact hnd) hel hfi hmi (by rw [h.sim.puts]; exact h.good.qmax) hbd (taken_of q w2 ts hrd h8 hks)
        rw [← hen, ← hEn] at hwr
        rw [hm]
        refine hwr.mono fun e w3 hr3 => ?_
        obtain ⟨e2, v', hr3, k3, f3⟩ := hr3
        refine ⟨e2, h.turned' hd.2 k2 ⟨hr3, k3, f3⟩ (h.sim.miss v' hj hr hnr hx he hlo hhi hfr) (h.good.miss hok) ⟨h.rfit.pos, h.rfit.pmax, h.rfit.clk0, h.rfit.clk1, ?_, h.rfit.npos, h.rfit.nmax, h.rfit.fmax⟩ rfl rfl, k3⟩
        show (R.rdrs.set r _).length ≤ 200
        rw [List.length_set]; exact h.rfit.rmax

/-! ### Drop -/
theorem pair_drop {w : World} {xb cb : Nat} {D : DevS} {R : RefS} (h : Pair w xb cb D R) (i : Int) :
    ∃ r : Int, Calls Tryz.prog 43 #[.pointer (some ⟨xb, 0, none⟩), .int .i64 i] w fun e w1 => e = .returned (.int .i64 r) ∧
      Then 44 #[.pointer (some ⟨cb, 0, none⟩), .int .i64 i] w w1 xb cb D R (.int .i64 r) := by
  have hps : R.puts = D.puts := h.sim.puts
  have hqm := h.dfit.qmax
  have hpl : R.puts.length ≤ 10 := by rw [hps]; exact hqm
  by_cases hi : i < 0 ∨ (D.puts.length : Int) ≤ i
  · refine ⟨10, (ddrop w xb D i h.dev h.dfit).mono fun e w1 hp => ?_⟩
    rcases hp with ⟨_, e1, k1⟩ | ⟨a, c, _⟩
    · refine ⟨e1, k1.mono (fun _ => False.elim), fun w2 k2 => (rdrop w2 cb R i (h.ref_after (k1.mono (fun _ => False.elim)) k2) hpl).mono fun e w3 hq => ?_⟩
      rcases hq with ⟨_, e2, rfl⟩ | ⟨a, c, _⟩
      · exact ⟨e2, h.stays k1 k2 (Kept.refl _ _), Kept.refl _ _⟩
      · rw [hps] at c; omega
    · omega
  · refine ⟨0, (ddrop w xb D i h.dev h.dfit).mono fun e w1 hp => ?_⟩
    rcases hp with ⟨a, _⟩ | ⟨_, _, e1, v, hd, k1, f1⟩
    · exact absurd a hi
    · refine ⟨e1, k1, fun w2 k2 => (rdrop w2 cb R i (h.ref_after k1 k2) hpl).mono fun e w3 hq => ?_⟩
      rcases hq with ⟨a, _⟩ | ⟨_, _, e2, v', hr3, k3, f3⟩
      · rw [hps] at a; exact absurd a hi
      · have hgd := h.good.drop i
        have hdp : D.pu.drop i = (0, { D.pu with puts := D.puts.eraseIdx i.toNat }) := by
          unfold DP.drop
          rw [if_neg (show ¬ (i < 0 ∨ (D.pu.puts.length : Int) ≤ i) from hi)]
          rfl
        rw [hdp] at hgd
        refine ⟨e2, h.turned' (P := { D.pu with puts := D.puts.eraseIdx i.toNat }) ⟨_, rfl, hd, k1, f1⟩ k2 ⟨hr3, k3, f3⟩ ⟨h.sim.past, h.sim.clock, h.sim.rdr, ?_, h.sim.bd, h.sim.len, h.sim.node, h.sim.room, h.sim.names, h.sim.fresh⟩ hgd ⟨h.rfit.pos, h.rfit.pmax, h.rfit.clk0, h.rfit.clk1, h.rfit.rmax, h.rfit.npos, h.rfit.nmax, h.rfit.fmax⟩ rfl rfl, k3⟩
        show R.puts.eraseIdx i.toNat = D.puts.eraseIdx i.toNat
        rw [hps]

end Go.Proofs.YtpfcacedpkaihaaGreat
