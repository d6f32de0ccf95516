import Derived.Test.YtpfcacedpkaihaaGreatC32
import Derived.Test.YtpfcacedpkaihaaGreatC24
import Derived.Test.YtpfcacedpkaihaaGreatC25
import Derived.Test.YtpfcacedpkaihaaGreatC26
import Derived.Test.YtpfcacedpkaihaaGreatC33
namespace Go.Proofs.YtpfcacedpkaihaaGreat
open Go.RowKit
set_option maxRecDepth 100000
set_option maxHeartbeats 16000000
theorem least_cons {l : List PastE} {tick : Int} {j : Nat} (hj : j ≤ l.length) (hb : ∀ i (h : i < l.length), i < j → l[i].tick < tick) (hs : ∀ (h : j < l.length), tick ≤ l[j].tick) (z : PastE) : Least (z :: l) tick j := by
 refine ⟨by simp; omega, ?_, ?_⟩
 · by_cases e : j < l.length
   · have := hs e
     simp [freshB, List.getElem?_eq_getElem e, this]
   · have : j = l.length := by omega
     simp [freshB, this]
 · intro i hi
   have hil : i < l.length := by omega
   have := hb i hil hi
   have h2 : ¬ i = l.length := by omega
   simp [freshB, List.getElem?_eq_getElem hil, h2]
   omega
theorem Least.unique {l : List PastE} {tick : Int} {a b : Nat} (h : Least l tick a) (k : Least l tick b) : a = b := by
 rcases Nat.lt_trichotomy a b with x | x | x
 · have := k.2.2 a x; rw [h.2.1] at this; cases this
 · exact x
 · have := h.2.2 b x; rw [k.2.1] at this; cases this
def Bd (p : PastE) : Prop := ∀ k, -2147483648 ≤ p.st k ∧ p.st k < 2147483648
def BdW (ws : List (Int × Int)) : Prop := ∀ x ∈ ws, -2147483648 ≤ x.2 ∧ x.2 < 2147483648
theorem Bd.write {p : PastE} (h : Bd p) {x : Int × Int} (hx : -2147483648 ≤ x.2 ∧ x.2 < 2147483648) : Bd (writeP p x) := by
 intro k
 show -2147483648 ≤ (if k = x.1.toNat then x.2 else p.st k) ∧ (if k = x.1.toNat then x.2 else p.st k) < 2147483648
 split
 · exact hx
 · exact h k
theorem Bd.writes {p : PastE} (h : Bd p) {ws : List (Int × Int)} (hw : BdW ws) : Bd (writesP p ws) := by
 induction ws generalizing p with
 | nil => exact h
 | cons x r ih => exact ih (h.write (hw x (List.mem_cons_self ..))) fun y hy => hw y (List.mem_cons_of_mem _ hy)
def keysP (l : List PastE) (t : Nat) : Int := (l[t]?.map PastE.keys).getD 0
theorem keysP_app {l : List PastE} {t : Nat} (q : PastE) (h : t < l.length) : keysP (l ++ [q]) t = keysP l t := by
 unfold keysP
 rw [List.getElem?_append_left h]
theorem keysP_last (l : List PastE) (q : PastE) : keysP (l ++ [q]) l.length = q.keys := by simp [keysP]
def histL (l : List PastE) (since hz : Nat) : List (Nat × Int) := (List.range' (max since (hz - 6) + 1) (hz - max since (hz - 6))).map fun t => (t, keysP l t)
def lastP (us : List Int) (x : Int) : Int := lastN us x us.length
structure NSim (past : List PastE) (us : List Int) (s : NodeP) (n : RNode) : Prop where
 up : n.up = s.up
 hz : n.horizon = s.horizon
 since : n.since ≤ n.horizon
 ents : n.ents = s.ents.map (·.e)
 fls : n.fls = s.flight.map (·.1)
 flk : ∀ c ∈ s.flight, c.1 < past.length ∧ c.2 = keysP past c.1
 wts : n.wts = s.waits.map (·.1)
 wtk : ∀ c ∈ s.waits, c.1 < past.length ∧ c.2 = keysP past c.1
 hist : s.hists = histL past n.since n.horizon
 top : n.horizon < past.length
 nml : n.nms.length = s.ents.length
 used : ∀ x ∈ s.ents, x.used ≤ s.uses
 order : ∀ (i j : Nat) (x y : HeldE) (a b : Int), s.ents[i]? = some x → s.ents[j]? = some y → n.nms[i]? = some a → n.nms[j]? = some b → (x.used < y.used ↔ lastP us a < lastP us b)
structure Sim (P : DP) (R : RefS) : Prop where
 past : R.past = zeroP :: P.past
 clock : R.clock = P.clock
 rdr : SimR P.begun P.seats R.rdrs P.past.length
 puts : R.puts = P.puts
 bd : ∀ p ∈ P.past, Bd p
 len : R.nodes.length = P.sites.length
 node : ∀ (k : Nat) (s : NodeP) (nd : NodeE), P.sites[k]? = some s → R.nodes[k]? = some nd → NSim R.past R.uses s nd.p
 room : ∀ s ∈ P.sites, s.room = R.room
 names : (R.nodes.flatMap (·.nms)).Nodup
 fresh : ∀ x ∈ R.nodes.flatMap (·.nms), 0 ≤ x ∧ x < R.next
theorem Sim.plen {P : DP} {R : RefS} (h : Sim P R) : R.past.length = P.past.length + 1 := by rw [h.past]; simp
theorem histL_app {l : List PastE} {a b : Nat} (q : PastE) (h : b < l.length) : histL (l ++ [q]) a b = histL l a b := by
 unfold histL
 refine List.map_congr_left fun t ht => ?_
 rw [List.mem_range'] at ht
 obtain ⟨i, hi, rfl⟩ := ht
 rw [keysP_app q (by omega)]
theorem NSim.tell {l : List PastE} {us : List Int} {s : NodeP} {nd : NodeE} (h : NSim l us s nd.p) (q : PastE) (v : Value) : NSim (l ++ [q]) us (s.tell l.length q.keys) (tellN nd l.length v).p := by
 have hup : nd.up = s.up := h.up
 have hhz : nd.horizon = s.horizon := h.hz
 have hfl : nd.fls = s.flight.map (·.1) := h.fls
 have hag : keepF l.length nd.fls = (s.age l.length).flight.map (·.1) := by
  unfold keepF NodeP.age
  rw [hfl, List.filter_map]
  rfl
 have hlag : (s.age l.length).lags l.length = fellB nd l.length := by
  unfold NodeP.lags fellB NodeP.age
  rw [hup, hhz]
 have hk : ∀ c ∈ (s.age l.length).flight, c.1 < (l ++ [q]).length ∧ c.2 = keysP (l ++ [q]) c.1 := by
  intro c hc
  have hc' : c ∈ s.flight := (List.mem_filter.mp hc).1
  have := h.flk c hc'
  exact ⟨by simp; omega, by rw [keysP_app q this.1]; exact this.2⟩
 have hlast : (l.length : Nat) < (l ++ [q]).length ∧ q.keys = keysP (l ++ [q]) l.length := ⟨by simp, by rw [keysP_last]⟩
 unfold NodeP.tell tellN leftN
 rw [hlag]
 cases hf : fellB nd l.length with
 | true =>
  refine ⟨rfl, rfl, Nat.le_refl _, rfl, rfl, ?_, rfl, ?_, rfl, by simp [NodeE.p, zeroN], rfl, ?_, ?_⟩
  · intro c hc
    have : c = (l.length, q.keys) := by simpa [NodeP.send, NodeP.clear, NodeP.fall] using hc
    subst this
    exact hlast
  · intro c hc
    simp [NodeP.send, NodeP.clear, NodeP.fall] at hc
  · intro x hx
    simp [NodeP.send, NodeP.clear, NodeP.fall] at hx
  · intro i j x y a b hx
    simp [NodeP.send, NodeP.clear, NodeP.fall] at hx
 | false =>
  have hlen : (keepF l.length nd.fls).length = (s.age l.length).flight.length := by rw [hag, List.length_map]
  have hw : ∀ c ∈ s.waits, c.1 < (l ++ [q]).length ∧ c.2 = keysP (l ++ [q]) c.1 := fun c hc => by
   have := h.wtk c hc
   exact ⟨by simp; omega, by rw [keysP_app q this.1]; exact this.2⟩
  have hh : s.hists = histL (l ++ [q]) nd.since nd.horizon := (h.hist).trans (histL_app (a := nd.since) (b := nd.horizon) q h.top).symm
  have ht : nd.horizon < (l ++ [q]).length := by have := h.top; simp only [List.length_append, List.length_singleton]; exact Nat.lt_succ_of_lt this
  by_cases h12 : 12 ≤ (s.age l.length).flight.length
  · have e : ((if false = true then (s.age l.length).fall.clear else s.age l.length).send (l.length, q.keys)) = s.age l.length := by simp [NodeP.send, h12]
    rw [e]
    have e2 : ¬ (keepF l.length nd.fls).length < 12 := by omega
    refine ⟨h.up, h.hz, h.since, h.ents, ?_, hk, h.wts, hw, hh, ht, h.nml, h.used, h.order⟩
    simp only [NodeE.p, Bool.false_eq_true, if_false, e2]
    exact hag
  · have e : ((if false = true then (s.age l.length).fall.clear else s.age l.length).send (l.length, q.keys)) = { s.age l.length with flight := (s.age l.length).flight ++ [(l.length, q.keys)] } := by simp [NodeP.send, h12]
    rw [e]
    have e2 : (keepF l.length nd.fls).length < 12 := by omega
    refine ⟨h.up, h.hz, h.since, h.ents, ?_, ?_, h.wts, hw, hh, ht, h.nml, h.used, h.order⟩
    · simp only [NodeE.p, Bool.false_eq_true, if_false, e2, if_true]
      rw [hag, List.map_append]
      rfl
    · intro c hc
      rw [List.mem_append, List.mem_singleton] at hc
      rcases hc with hc | rfl
      · exact hk c hc
      · exact hlast
theorem at_st {P : DP} {R : RefS} {p : PastE} {t : Nat} (h : Sim P R) (hp : R.past[t]? = some p) : stAt P.past t = p.st ∧ Bd p := by
 rw [h.past] at hp
 unfold stAt
 match t, hp with
 | 0, hp => simp at hp; subst hp; exact ⟨rfl, fun k => ⟨by simp [zeroP], by simp [zeroP]⟩⟩
 | t + 1, hp =>
  rw [List.getElem?_cons_succ] at hp
  rw [if_neg (by omega), Nat.add_sub_cancel, hp]
  exact ⟨rfl, h.bd p (List.mem_of_getElem? hp)⟩
theorem Sim.last {P : DP} {R : RefS} {p : PastE} (h : Sim P R) (hp : R.past[R.past.length - 1]? = some p) (ws : List (Int × Int)) : P.nextP ws = writesP { p with keys := 0, tick := R.clock } ws := by
 rw [h.plen, Nat.add_sub_cancel] at hp
 have := (at_st h hp).1
 unfold DP.nextP
 unfold stAt at this
 rw [this, h.clock]
theorem told_names {l l' : List NodeE} {t : Nat} (h : ToldTo l l' t l.length) (hn : (l.flatMap (·.nms)).Nodup) : (l'.flatMap (·.nms)).Nodup ∧ ∀ x ∈ l'.flatMap (·.nms), x ∈ l.flatMap (·.nms) := by
 have hs : List.Sublist (l'.flatMap (·.nms)) (l.flatMap (·.nms)) := by
  obtain ⟨hl, hj⟩ := h
  have key : ∀ (l l' : List NodeE), l'.length = l.length → (∀ (j : Nat) (nd : NodeE), l[j]? = some nd → ∃ v, l'[j]? = some (tellN nd t v)) → List.Sublist (l'.flatMap (·.nms)) (l.flatMap (·.nms)) := by
   intro l
   induction l with
   | nil => intro l' hl _; rw [List.length_nil, List.length_eq_zero_iff] at hl; subst hl; exact List.Sublist.refl _
   | cons a r ih =>
    intro l' hl hj
    match l' with
    | [] => simp at hl
    | b :: r' =>
     have hr := ih r' (by simpa using hl) fun j nd hnd => by simpa using hj (j + 1) nd (by simpa using hnd)
     obtain ⟨v, hv⟩ := hj 0 a rfl
     simp at hv
     subst hv
     rw [List.flatMap_cons, List.flatMap_cons]
     refine List.Sublist.append ?_ hr
     unfold tellN leftN
     split
     · exact List.nil_sublist _
     · exact List.Sublist.refl _
  exact key l l' hl fun j nd hnd => (hj j nd hnd).1 (List.getElem?_eq_some_iff.mp hnd).1
 exact ⟨hn.sublist hs, fun x hx => hs.subset hx⟩
theorem tell_room (s : NodeP) (t : Nat) (K : Int) : (s.tell t K).room = s.room := by
 unfold NodeP.tell NodeP.send
 split <;> split <;> rfl
theorem Sim.commit {P : DP} {R : RefS} {p : PastE} {ws : List (Int × Int)} {v' : Value} {l : List NodeE} (h : Sim P R) (hp : R.past[R.past.length - 1]? = some p) (ht : ToldTo R.nodes l R.past.length R.nodes.length) (hw : BdW ws) :
 Sim (P.push (P.nextP ws)) { R.pushP (writesP { p with keys := 0, tick := R.clock } ws) v' with nodes := l } := by
 have hq := h.last hp ws
 have hlen := h.plen
 have hn := told_names ht h.names
 refine ⟨?_, h.clock, ?_, h.puts, ?_, ?_, ?_, ?_, hn.1, fun x hx => h.fresh x (hn.2 x hx)⟩
 · show R.past ++ [_] = zeroP :: (P.past ++ [_])
   rw [h.past, hq]; rfl
 · show SimR P.begun P.seats R.rdrs (P.past ++ [_]).length
   exact h.rdr.top (by simp)
 · intro y hy
   have hy' : y ∈ P.past ++ [P.nextP ws] := hy
   rw [List.mem_append, List.mem_singleton] at hy'
   rcases hy' with hy' | rfl
   · exact h.bd y hy'
   · rw [hq]
     refine Bd.writes ?_ hw
     rw [hlen, Nat.add_sub_cancel] at hp
     exact (at_st h hp).2
 · show l.length = (P.sites.map _).length
   rw [ht.1, List.length_map]; exact h.len
 · intro k s nd hs hnd
   have hs' : (P.sites.map fun s => s.tell (P.past.length + 1) (P.nextP ws).keys)[k]? = some s := hs
   rw [List.getElem?_map] at hs'
   obtain ⟨s0, hs0, rfl⟩ := Option.map_eq_some_iff.mp hs'
   have hk : k < R.nodes.length := by rw [h.len]; exact (List.getElem?_eq_some_iff.mp hs0).1
   have h0 := List.getElem?_eq_getElem hk
   obtain ⟨v, hv⟩ := (ht.2 k _ h0).1 hk
   have hnd' : l[k]? = some nd := hnd
   rw [hv] at hnd'
   injection hnd' with e
   subst e
   have := (h.node k s0 _ hs0 h0).tell (P.nextP ws) v
   rw [hlen] at this
   show NSim (R.past ++ [_]) R.uses _ _
   rw [← hq, hlen]
   exact this
 · intro s hs
   obtain ⟨s0, hs0, rfl⟩ := List.mem_map.mp hs
   rw [tell_room]
   exact h.room s0 hs0
theorem fp_of_map {R R' : RefS} (h : R'.rows.map RowD.v = R.rows.map RowD.v) {b k : Nat} (hk : R'.fp b k) : R.fp b k := by
 rcases hk with hk | ⟨r, hr, hk⟩
 · exact .inl hk
 · have : r.v ∈ R.rows.map RowD.v := by rw [← h]; exact List.mem_map_of_mem hr
   obtain ⟨r', hr', e⟩ := List.mem_map.mp this
   exact .inr ⟨r', hr', by rw [e]; exact hk⟩
def pfp (xb cb : Nat) (D : DevS) (R : RefS) (k : Nat) : Prop := D.fp xb k ∨ R.fp cb k
structure Pair (w : World) (xb cb : Nat) (D : DevS) (R : RefS) : Prop where
 dev : Dev w xb D
 ref : Ref w cb R
 sim : Sim D.pu R
 good : D.pu.Good R.uses.length
 rfit : R.Fit
 nx0 : 0 ≤ R.next
 nx1 : R.next ≤ (R.uses.length : Int)
 sep : ∀ k, D.fp xb k → ¬ R.fp cb k
theorem Pair.kept {w w' : World} {xb cb : Nat} {D : DevS} {R : RefS} {F : Nat → Prop} (h : Pair w xb cb D R) (k : Kept F w w') (hF : ∀ j, pfp xb cb D R j → ¬ F j) : Pair w' xb cb D R :=
 ⟨h.dev.kept k fun j hj => hF j (.inl hj), h.ref.kept k fun j hj => hF j (.inr hj), h.sim, h.good, h.rfit, h.nx0, h.nx1, h.sep⟩
theorem Pair.lt {w : World} {xb cb : Nat} {D : DevS} {R : RefS} (h : Pair w xb cb D R) : ∀ k, pfp xb cb D R k → k < w.heap.size := fun k hk => hk.elim (h.dev.lt k) (h.ref.lt k)
theorem Pair.dfit {w : World} {xb cb : Nat} {D : DevS} {R : RefS} (h : Pair w xb cb D R) : D.Fit := ⟨h.good.pmax, h.good.clk0, h.good.clk1, h.good.bmax, h.good.qmax⟩
def Turned (w w' : World) (xb cb : Nat) (D : DevS) (R : RefS) : Prop :=
 ∃ D' R', Pair w' xb cb D' R' ∧ Kept (pfp xb cb D R) w w' ∧ (∀ k, pfp xb cb D' R' k → pfp xb cb D R k ∨ w.heap.size ≤ k) ∧ R'.uses.length ≤ R.uses.length + 1
theorem Turned.same {w w' : World} {xb cb : Nat} {D : DevS} {R : RefS} {F : Nat → Prop} (h : Pair w xb cb D R) (k : Kept F w w') (hF : ∀ j, j < w.heap.size → ¬ F j) : Turned w w' xb cb D R :=
 ⟨D, R, h.kept k (fun j hj => hF j (h.lt j hj)), ⟨k.os, k.tape, k.output, k.size, fun i hi _ => k.block i hi (hF i hi)⟩, fun _ hk => .inl hk, Nat.le_succ _⟩
def Then (f : FuncId) (args : Array Value) (w w1 : World) (xb cb : Nat) (D : DevS) (R : RefS) (v : Value) : Prop :=
 Kept (D.fp xb) w w1 ∧ ∀ w2, Kept (fun _ => False) w1 w2 → Calls Tryz.prog f args w2 fun e w3 => e = .returned v ∧ Turned w w3 xb cb D R ∧ Kept (R.fp cb) w2 w3
theorem Pair.turned {w w1 w2 w3 : World} {xb cb : Nat} {D : DevS} {P : DP} {R R' : RefS} (h : Pair w xb cb D R) (g : Goes w xb D P w1)
 (k2 : Kept (fun _ => False) w1 w2) (hb : Became w2 cb R w3 R') (hs : Sim P R') (hg : P.Good R'.uses.length) (hrf : R'.Fit) (hu : R'.uses.length ≤ R.uses.length + 1) (hx0 : 0 ≤ R'.next) (hx1 : R'.next ≤ (R'.uses.length : Int)) : Turned w w3 xb cb D R := by
 obtain ⟨D', rfl, hd, k1, f1⟩ := g
 obtain ⟨hr, k3, f3⟩ := hb
 have hd2 : Dev w2 xb D' := hd.kept k2 (fun _ _ => id)
 have far : ∀ k, D'.fp xb k → ¬ R.fp cb k := fun k hk hr => (f1 k hk).elim (fun x => h.sep k x hr) (fun x => by have := h.ref.lt k hr; omega)
 have k12 : Kept (D.fp xb) w w2 := k1.trans k2 (fun _ => id) (fun _ _ => False.elim)
 refine ⟨D', R', ⟨hd2.kept k3 far, hr, hs, hg, hrf, hx0, hx1, fun k hk hr' => ?_⟩, k12.trans k3 (fun _ => .inl) (fun _ _ => .inr), fun k hk => ?_, hu⟩
 · rcases f3 k hr' with x | x
   · exact far k hk x
   · have := hd2.lt k hk; omega
 · rcases hk with hk | hk
   · exact (f1 k hk).imp .inl id
   · exact (f3 k hk).imp .inr fun x => Nat.le_trans k12.size x
theorem Pair.turned' {w w1 w2 w3 : World} {xb cb : Nat} {D : DevS} {P : DP} {R R' : RefS} (h : Pair w xb cb D R) (g : Goes w xb D P w1)
 (k2 : Kept (fun _ => False) w1 w2) (hb : Became w2 cb R w3 R') (hs : Sim P R') (hg : P.Good R.uses.length) (hrf : R'.Fit) (hu : R'.uses = R.uses) (hx : R'.next = R.next) : Turned w w3 xb cb D R :=
 h.turned g k2 hb hs (by rw [hu]; exact hg) hrf (by rw [hu]; exact Nat.le_succ _) (by rw [hx]; exact h.nx0) (by rw [hx, hu]; exact h.nx1)
theorem Pair.stays {w w1 w2 w3 : World} {xb cb : Nat} {D : DevS} {R : RefS} (h : Pair w xb cb D R) (k1 : Kept (fun _ => False) w w1) (k2 : Kept (fun _ => False) w1 w2) (k3 : Kept (fun _ => False) w2 w3) : Turned w w3 xb cb D R :=
 Turned.same h ((k1.trans k2 (fun _ => id) (fun _ _ => id)).trans k3 (fun _ => id) (fun _ _ => id)) (fun _ _ => id)
theorem Pair.ref_after {w w1 w2 : World} {xb cb : Nat} {D : DevS} {R : RefS} (h : Pair w xb cb D R) (k1 : Kept (D.fp xb) w w1) (k2 : Kept (fun _ => False) w1 w2) : Ref w2 cb R :=
 (h.ref.kept k1 fun j hj hd => h.sep j hd hj).kept k2 (fun _ _ => id)
theorem pair_tick {w : World} {xb cb : Nat} {D : DevS} {R : RefS} (h : Pair w xb cb D R) :
 ∃ r : Int, Calls Tryz.prog 31 #[.pointer (some ⟨xb, 0, none⟩)] w fun e w1 => e = .returned (.int .i64 r) ∧
  Then 32 #[.pointer (some ⟨cb, 0, none⟩)] w w1 xb cb D R (.int .i64 r) := by
 have hc : R.clock = D.clock := h.sim.clock
 by_cases hlt : D.clock < 100000
 · refine ⟨0, (dtick w xb D h.dev h.dfit).mono fun e w1 hp => ?_⟩
   rcases hp with ⟨a, _⟩ | ⟨_, e1, hd, k1⟩
   · omega
   · refine ⟨e1, k1, fun w2 k2 => (rtick w2 cb R (h.ref_after k1 k2) h.rfit).mono fun e w3 hq => ?_⟩
     rcases hq with ⟨a, _⟩ | ⟨_, e2, hr, k3⟩
     · omega
     · have c0 := h.dfit.clk0
       refine ⟨e2, h.turned' (P := { D.pu with clock := D.clock + 1 }) ⟨_, rfl, hd, k1, fun k hk => .inl hk⟩ k2 ⟨hr, k3, fun k hk => .inl (fp_of_map rfl hk)⟩ ⟨h.sim.past, by show R.clock + 1 = D.clock + 1; rw [hc], h.sim.rdr, h.sim.puts, h.sim.bd, h.sim.len, h.sim.node, h.sim.room, h.sim.names, h.sim.fresh⟩ ⟨h.good.pmax, by show 0 ≤ D.clock + 1; omega, by show D.clock + 1 ≤ 100000; omega, h.good.bmax, h.good.qmax, h.good.s1, h.good.s3, h.good.sites, h.good.puts⟩ ⟨h.rfit.pos, h.rfit.pmax, by show 0 ≤ R.clock + 1; omega, by show R.clock + 1 ≤ 100000; omega, h.rfit.rmax, h.rfit.npos, h.rfit.nmax, h.rfit.fmax⟩ rfl rfl, k3⟩
 · refine ⟨6, (dtick w xb D h.dev h.dfit).mono fun e w1 hp => ?_⟩
   rcases hp with ⟨_, e1, rfl⟩ | ⟨a, _⟩
   · refine ⟨e1, Kept.refl _ _, fun w2 k2 => (rtick w2 cb R (h.ref_after (Kept.refl _ _) k2) h.rfit).mono fun e w3 hq => ?_⟩
     rcases hq with ⟨_, e2, rfl⟩ | ⟨a, _⟩
     · exact ⟨e2, h.stays (Kept.refl _ _) k2 (Kept.refl _ _), Kept.refl _ _⟩
     · omega
   · omega
theorem pair_begin {w : World} {xb cb : Nat} {D : DevS} {R : RefS} (h : Pair w xb cb D R) (limit : Int) :
 ∃ x y : Int, Calls Tryz.prog 34 #[.pointer (some ⟨xb, 0, none⟩), .int .i64 limit] w fun e w1 => e = .returned (.tuple #[.int .i64 x, .int .i64 y]) ∧
  Then 35 #[.pointer (some ⟨cb, 0, none⟩), .int .i64 limit] w w1 xb cb D R (.tuple #[.int .i64 x, .int .i64 y]) := by
 have hc : R.clock = D.clock := h.sim.clock
 have hlen : R.past.length = D.past.length + 1 := h.sim.plen
 by_cases hl : limit < 0 ∨ 100000 < limit
 · refine ⟨0, 10, (dbegin_bad w xb limit hl).mono fun e w1 hp => ?_⟩
   obtain ⟨e1, rfl⟩ := hp
   refine ⟨e1, Kept.refl _ _, fun w2 k2 => (rbegin_bad w2 cb limit hl).mono fun e w3 hq => ?_⟩
   obtain ⟨e2, rfl⟩ := hq
   exact ⟨e2, h.stays (Kept.refl _ _) k2 (Kept.refl _ _), Kept.refl _ _⟩
 · have hl0 : 0 ≤ limit := by omega
   have hl1 : limit ≤ 100000 := by omega
   have hcount : openN R.rdrs = seatN D.seats := h.sim.rdr.count
   have hbeg : D.begun = R.rdrs.length := h.sim.rdr.begun
   by_cases hall : ∀ i, i < 6 → (D.seats i).reads = true
   · have h6 := seatN_all hall
     refine ⟨0, 7, (dbegin w xb D limit h.dev h.dfit hl0 hl1).mono fun e w1 hp => ?_⟩
     obtain ⟨lo, _, ⟨_, e1, k1⟩ | ⟨j, hj, hr, _⟩ | ⟨j, hj, hr, _⟩⟩ := hp
     · refine ⟨e1, k1.mono (fun _ => False.elim), fun w2 k2 => (rbegin w2 cb R limit (h.ref_after (k1.mono (fun _ => False.elim)) k2) h.rfit hl0 hl1).mono fun e w3 hq => ?_⟩
       rcases hq with ⟨_, e2, rfl⟩ | ⟨a, _⟩ | ⟨a, _⟩
       · exact ⟨e2, h.stays k1 k2 (Kept.refl _ _), Kept.refl _ _⟩
       · omega
       · omega
     · rw [hall j hj] at hr; cases hr
     · rw [hall j hj] at hr; cases hr
   · obtain ⟨j0, hj0, hr0⟩ : ∃ j, j < 6 ∧ (D.seats j).reads = false := by
      false_or_by_contra
      rename_i hn
      refine hall fun i hi => ?_
      cases hh : (D.seats i).reads with
      | true => rfl
      | false => exact absurd ⟨i, hi, hh⟩ hn
     have h6 := seatN_free hj0 hr0
     by_cases h200 : 200 ≤ D.begun
     · refine ⟨0, 6, (dbegin w xb D limit h.dev h.dfit hl0 hl1).mono fun e w1 hp => ?_⟩
       obtain ⟨lo, _, ⟨a, _⟩ | ⟨j, hj, hr, _, e1, k1⟩ | ⟨j, hj, hr, a, _⟩⟩ := hp
       · exact absurd a hall
       · refine ⟨e1, k1.mono (fun _ => False.elim), fun w2 k2 => (rbegin w2 cb R limit (h.ref_after (k1.mono (fun _ => False.elim)) k2) h.rfit hl0 hl1).mono fun e w3 hq => ?_⟩
         rcases hq with ⟨a, _⟩ | ⟨_, _, e2, rfl⟩ | ⟨_, a, _⟩
         · omega
         · exact ⟨e2, h.stays k1 k2 (Kept.refl _ _), Kept.refl _ _⟩
         · omega
       · omega
     · refine ⟨D.begun, 0, (dbegin w xb D limit h.dev h.dfit hl0 hl1).mono fun e w1 hp => ?_⟩
       obtain ⟨lo, hfirst, ⟨a, _⟩ | ⟨j, hj, hr, a, _⟩ | ⟨j, hj, hr, _, e1, hd, k1⟩⟩ := hp
       · exact absurd a hall
       · omega
       · refine ⟨e1, k1, fun w2 k2 => (rbegin w2 cb R limit (h.ref_after k1 k2) h.rfit hl0 hl1).mono fun e w3 hq => ?_⟩
         rcases hq with ⟨a, _⟩ | ⟨_, a, _⟩ | ⟨_, _, lo', v, hleast, e2, hr3, k3, f3⟩
         · omega
         · omega
         · have hle : lo = lo' := by
            have a := least_cons hfirst.1 hfirst.2.1 hfirst.2.2 zeroP
            rw [show zeroP :: D.past = R.past from h.sim.past.symm, ← hc] at a
            exact a.unique hleast
           subst hle
           have htop : R.past.length - 1 = D.past.length := by omega
           refine ⟨by rw [e2, hbeg], h.turned' ⟨_, rfl, hd, k1, fun k hk => .inl hk⟩ k2 ⟨hr3, k3, f3⟩ ⟨h.sim.past, hc, ?_, h.sim.puts, h.sim.bd, h.sim.len, h.sim.node, h.sim.room, h.sim.names, h.sim.fresh⟩ (h.good.seats _ (D.begun + 1) (by omega)) ⟨h.rfit.pos, h.rfit.pmax, h.rfit.clk0, h.rfit.clk1, by show (R.rdrs ++ [_]).length ≤ 200; rw [List.length_append, List.length_singleton]; omega, h.rfit.npos, h.rfit.nmax, h.rfit.fmax⟩ rfl rfl, k3⟩
           show SimR (D.begun + 1) (putSeat D.seats j _) (R.rdrs ++ [⟨lo, R.past.length - 1, false⟩]) D.past.length
           rw [htop]
           exact h.sim.rdr.beginS hj hr lo hfirst.1
theorem goneB_open {l : List RdrE} {j : Nat} {x : RdrE} (hx : l[j]? = some x) (he : x.ended = false) : goneB l j = false := by
 have hlt := (List.getElem?_eq_some_iff.mp hx).1
 have a : ¬ (j : Int) < 0 := by omega
 have c : ¬ (l.length : Int) ≤ (j : Int) := by omega
 simp only [goneB, a, c, decide_false, Bool.false_or, Int.toNat_natCast, hx]
 exact he
theorem pair_end {w : World} {xb cb : Nat} {D : DevS} {R : RefS} (h : Pair w xb cb D R) (m : Int) :
 ∃ x y z : Int, Calls Tryz.prog 36 #[.pointer (some ⟨xb, 0, none⟩), .int .i64 m] w fun e w1 => e = .returned (.tuple #[.agg #[.int .u64 x, .int .u64 y], .int .i64 z]) ∧
  Then 37 #[.pointer (some ⟨cb, 0, none⟩), .int .i64 m] w w1 xb cb D R (.tuple #[.agg #[.int .u64 x, .int .u64 y], .int .i64 z]) := by
 have hrdr : SimR D.begun D.seats R.rdrs D.past.length := h.sim.rdr
 by_cases hall : ∀ i, i < 6 → (D.seats i).reads = true → (D.seats i).num ≠ m
 · refine ⟨0, 0, 8, (dend w xb D m h.dev).mono fun e w1 hp => ?_⟩
   rcases hp with ⟨_, e1, k1⟩ | ⟨j, hj, hr, hn, _⟩
   · refine ⟨e1, k1.mono (fun _ => False.elim), fun w2 k2 => (rend w2 cb R m (h.ref_after (k1.mono (fun _ => False.elim)) k2) h.rfit).mono fun e w3 hq => ?_⟩
     rcases hq with ⟨_, e2, b3⟩ | ⟨j, x, rfl, hx, he, _⟩
     · exact ⟨e2, h.stays k1 k2 (Kept.of_below b3 _), Kept.of_below b3 _⟩
     · obtain ⟨i, hi, hr, hn⟩ := hrdr.back j x hx he
       exact absurd hn (hall i hi hr)
   · exact absurd hn (hall j hj hr)
 · obtain ⟨j0, hj0, hr0, hn0⟩ : ∃ j, j < 6 ∧ (D.seats j).reads = true ∧ (D.seats j).num = m := by
    false_or_by_contra
    rename_i hn
    exact hall fun i hi hr e => hn ⟨i, hi, hr, e⟩
   refine ⟨(D.seats j0).lo, (D.seats j0).hi, 0, (dend w xb D m h.dev).mono fun e w1 hp => ?_⟩
   rcases hp with ⟨a, _⟩ | ⟨j, hj, hr, hn, e1, hd, k1⟩
   · exact absurd a hall
   · have hjj : j = j0 := hrdr.one j j0 hj hj0 hr hr0 (by rw [hn, hn0])
     subst hjj
     refine ⟨e1, k1, fun w2 k2 => (rend w2 cb R m (h.ref_after k1 k2) h.rfit).mono fun e w3 hq => ?_⟩
     obtain ⟨q, x, hq1, hx, he, hlo, hhi⟩ := hrdr.seat j hj hr
     have hmq : m = q := by rw [← hn, hq1]
     rcases hq with ⟨a, _⟩ | ⟨q', x', hm', hx', he', e2, hr3, k3⟩
     · rw [hmq, goneB_open hx he] at a; cases a
     · have hqq : q' = q := by omega
       subst hqq
       rw [hx] at hx'
       injection hx' with hx'
       subst hx'
       refine ⟨by rw [e2, hlo, hhi], h.turned' ⟨_, rfl, hd, k1, fun k hk => .inl hk⟩ k2 ⟨hr3, k3, fun k hk => .inl (fp_of_map (R' := R.endR _ x) (R := R) rfl hk)⟩ ⟨h.sim.past, h.sim.clock, ?_, h.sim.puts, h.sim.bd, h.sim.len, h.sim.node, h.sim.room, h.sim.names, h.sim.fresh⟩ (h.good.seats _ D.begun h.good.bmax) ⟨h.rfit.pos, h.rfit.pmax, h.rfit.clk0, h.rfit.clk1, by show (R.rdrs.set _ _).length ≤ 200; rw [List.length_set]; exact h.rfit.rmax, h.rfit.npos, h.rfit.nmax, h.rfit.fmax⟩ rfl rfl, k3⟩
       exact hrdr.endS hj hr hq1 hx he
theorem Wr.kept' {w w' : World} {F : Nat → Prop} {ao : Option Addr} {n : Nat} {ws : List (Int × Int)} (h : Wr w ao n ws) (k : Kept F w w') (hF : 0 < n → ∀ a, ao = some a → ¬ F a.block) : Wr w' ao n ws := by
 by_cases hn : 0 < n
 · exact h.kept k (hF hn)
 · exact ⟨h.len, fun j hj => by have := h.len; omega⟩
theorem pair_commit {w : World} {xb cb : Nat} {D : DevS} {R : RefS} (h : Pair w xb cb D R) (hnn : R.uses.length < 9223372036854775807) (ao ao' : Option Addr) (n cap cap' : Nat) (ws : List (Int × Int)) (hw : Wr w ao n ws) (hw' : Wr w ao' n ws) (hm : n ≤ maxLen) (hfar : 0 < n → ∀ a, ao' = some a → ¬ D.fp xb a.block) (hwb : BdW ws) :
 ∃ x y : Int, Calls Tryz.prog 28 #[.pointer (some ⟨xb, 0, none⟩), .slice ao n cap] w fun e w1 => e = .returned (.tuple #[.int .u64 x, .int .i64 y]) ∧
  Then 29 #[.pointer (some ⟨cb, 0, none⟩), .slice ao' n cap'] w w1 xb cb D R (.tuple #[.int .u64 x, .int .i64 y]) := by
 have hlen := h.sim.plen
 have hwalk := h.good.walk hnn
 have hpm := h.good.pmax
 refine ⟨_, _, (dCommit w xb D ao n cap ws h.dev hwalk hw hm).mono fun e w1 hp => ⟨hp.1, ?_⟩⟩
 obtain ⟨D', hD', hd, k1, f1⟩ := hp.2
 have hwd : ∀ w2, Kept (fun _ => False) w1 w2 → Wr w2 ao' n ws := fun w2 k2 => (hw'.kept' k1 hfar).kept k2 fun _ _ => id
 have keep : ∀ w2 w3, Kept (fun _ => False) w1 w2 → Kept (fun _ => False) w2 w3 → D'.pu = D.pu → Turned w w3 xb cb D R := fun w2 w3 k2 k3 hpu => by
  have hr2 := h.ref_after k1 k2
  exact h.turned' ⟨D', hpu, hd, k1, f1⟩ k2 ⟨hr2.kept k3 (fun _ _ => id), k3.mono (fun _ => False.elim), fun _ hx => .inl hx⟩ h.sim h.good h.rfit rfl rfl
 refine ⟨k1, fun w2 k2 => ?_⟩
 by_cases h8 : 8 < n
 · rw [DP.commit, if_pos h8] at hD' ⊢
   refine (rcommit_long w2 cb ao' n cap' (by omega) hm).mono fun e w3 hq => ?_
   obtain ⟨e2, rfl⟩ := hq
   exact ⟨e2, keep _ _ k2 (Kept.refl _ _) hD', Kept.refl _ _⟩
 · rw [DP.commit, if_neg h8] at hD' ⊢
   by_cases hk : ws.all keyOk = false
   · rw [if_pos hk] at hD' ⊢
     refine (rcommit_key w2 cb ao' n cap' ws (hwd w2 k2) (by omega) hk).mono fun e w3 hq => ?_
     obtain ⟨e2, rfl⟩ := hq
     exact ⟨e2, keep _ _ k2 (Kept.refl _ _) hD', Kept.refl _ _⟩
   · rw [if_neg hk] at hD' ⊢
     have hk : ws.all keyOk = true := by cases h : ws.all keyOk with
      | true => rfl
      | false => exact absurd h hk
     by_cases h7 : 700 ≤ D.pu.past.length
     · rw [if_pos h7] at hD' ⊢
       refine (rcommit_full w2 cb R ao' n cap' ws (h.ref_after k1 k2) h.rfit (hwd w2 k2) (by omega) hk (by omega)).mono fun e w3 hq => ?_
       obtain ⟨e2, rfl⟩ := hq
       exact ⟨e2, keep _ _ k2 (Kept.refl _ _) hD', Kept.refl _ _⟩
     · rw [if_neg h7] at hD' ⊢
       refine (rcommit_good w2 cb R ao' n cap' ws (h.ref_after k1 k2) h.rfit (hwd w2 k2) (by omega) hk (by omega)).mono fun e w3 hq => ?_
       obtain ⟨e2, p, v', l, hp, hr3, ht, hfit, k3, f3⟩ := hq
       refine ⟨by rw [e2, hlen], h.turned' ⟨D', hD', hd, k1, f1⟩ k2 ⟨hr3, k3, f3⟩ (h.sim.commit hp ht hwb) (h.good.push _ (by omega)) hfit rfl rfl, k3⟩
theorem Turned.from {w wb w' : World} {xb cb : Nat} {D : DevS} {R : RefS} (h : Turned wb w' xb cb D R) (k : Kept (fun _ => False) w wb) : Turned w w' xb cb D R := by
 obtain ⟨D', R', hp, hk, hf, hu⟩ := h
 exact ⟨D', R', hp, k.trans hk (fun _ => False.elim) (fun _ _ => id), fun i hi => (hf i hi).imp id fun x => Nat.le_trans k.size x, hu⟩
theorem Turned.still {w wb w' w2 : World} {xb cb : Nat} {D : DevS} {R : RefS} {F : Nat → Prop} (h : Turned wb w' xb cb D R) (k0 : Kept (fun _ => False) w wb) (k : Kept F w' w2) (hF : ∀ i, F i → w.heap.size ≤ i ∧ i < wb.heap.size) (hlt : ∀ i, pfp xb cb D R i → i < w.heap.size) : Turned w w2 xb cb D R := by
 obtain ⟨D', R', hp, hk, hf, hu⟩ := h
 refine ⟨D', R', hp.kept k fun j hj hfj => ?_, (k0.trans hk (H := pfp xb cb D R) (fun _ => False.elim) (fun _ _ => id)).trans k (fun _ => id) (fun i hi hfi => ?_), fun i hi => (hf i hi).imp id fun x => Nat.le_trans k0.size x, hu⟩
 · obtain ⟨a, c⟩ := hF j hfj
   rcases hf j hj with x | x
   · have := hlt j x; omega
   · omega
 · have := (hF i hfi).1; omega
def boxed (w : World) (xb cb : Nat) (kd a b c : Int) (s : ByteArray) (l : Value) : World :=
 (w.alloc (.cells #[.pointer (some ⟨xb, 0, none⟩), .pointer (some ⟨cb, 0, none⟩)] 44)).alloc (.cells #[.int .i64 kd, .int .i64 a, .int .i64 b, .int .i64 c, .string s, l] 37)
theorem boxed_kept (w : World) (xb cb : Nat) (kd a b c : Int) (s : ByteArray) (l : Value) : Kept (fun _ => False) w (boxed w xb cb kd a b c s l) := (Kept.alloc w _ _).allocNew _
theorem boxed_c {w w1 : World} {xb cb : Nat} {kd a b c : Int} {s : ByteArray} {l : Value} {F : Nat → Prop} (k : Kept F (boxed w xb cb kd a b c s l) w1) (hF : ∀ i, F i → i < w.heap.size) : w1.cell? ⟨w.heap.size, 1, none⟩ = some (.pointer (some ⟨cb, 0, none⟩)) :=
 k.keep (fun hf => by have := hF _ hf; simp at this) (by simp [boxed])
theorem boxed_b {w w1 : World} {xb cb : Nat} {kd a b c : Int} {s : ByteArray} {l : Value} {F : Nat → Prop} (k : Kept F (boxed w xb cb kd a b c s l) w1) (hF : ∀ i, F i → i < w.heap.size) : w1.cell? ⟨w.heap.size + 1, 2, none⟩ = some (.int .i64 b) :=
 k.keep (fun hf => by have := hF _ hf; simp at this; omega) (by simp [boxed])
theorem boxed_size (w : World) (xb cb : Nat) (kd a b c : Int) (s : ByteArray) (l : Value) : (boxed w xb cb kd a b c s l).heap.size = w.heap.size + 2 := by simp [boxed]
theorem span_box {w1 w3 : World} {a b : Value} {T : TypeId} {F : Nat → Prop} (k : Kept F (w1.alloc (.cells #[a, b] T)) w3) (hF : ∀ i, F i → i < w1.heap.size) : w3.cell? ⟨w1.heap.size, 0, none⟩ = some a ∧ w3.cell? ⟨w1.heap.size, 1, none⟩ = some b ∧ w1.heap.size < w3.heap.size :=
 ⟨k.keep (fun hf => by have := hF _ hf; simp at this) (by simp), k.keep (fun hf => by have := hF _ hf; simp at this) (by simp), by have := k.size; simp at this; omega⟩
def StepPost (w : World) (xb cb : Nat) (D : DevS) (R : RefS) (e : Ending) (w' : World) : Prop := e = .returned (.bool true) ∧ Turned w w' xb cb D R
theorem lreader_tick (w : World) (pb xb cb : Nat) (a b c : Int) (s : ByteArray) (ao : Option Addr) (n cap : Nat) (D : DevS) (R : RefS) (h : Pair w xb cb D R) :
 Calls Tryz.prog 15 #[.pointer (some ⟨pb, 0, none⟩), .agg #[.pointer (some ⟨xb, 0, none⟩), .pointer (some ⟨cb, 0, none⟩)], .agg #[.int .i64 3, .int .i64 a, .int .i64 b, .int .i64 c, .string s, .slice ao n cap]] w fun e w' => StepPost w xb cb D R e w' := by
 have hk := boxed_kept w xb cb 3 a b c s (.slice ao n cap)
 obtain ⟨r, hr⟩ := pair_tick (h.kept hk fun _ _ => id)
 have H0 : Hid (Calls Tryz.prog 31 #[.pointer (some ⟨xb, 0, none⟩)] (boxed w xb cb 3 a b c s (.slice ao n cap)) fun e w1 => e = .returned (.int .i64 r) ∧ Hid (Then 32 #[.pointer (some ⟨cb, 0, none⟩)] (boxed w xb cb 3 a b c s (.slice ao n cap)) w1 xb cb D R (.int .i64 r))) := hr
 have HK : Hid (Kept (fun _ => False) w (boxed w xb cb 3 a b c s (.slice ao n cap))) := hk
 have HL : Hid (∀ i, D.fp xb i → i < w.heap.size) := h.dev.lt
 clear hr hk h
 go_enter Tryz.func15, Tryz.ntmps15
 go_wp2_with first
  | (go_at_call 31; refine H0.out.mono ?_; rintro e w1 ⟨rfl, ht⟩; have q1 := boxed_c ht.out.1 HL.out)
  | (go_at_call 32; refine (ht.out.2 _ (Kept.refl _ _)).mono ?_; rintro e w3 ⟨rfl, hz, _⟩; have HZ : Hid (Turned (boxed w xb cb 3 a b c s (.slice ao n cap)) w3 xb cb D R) := hz; clear hz)
 go_ret
 exact ⟨rt_bool (by simp), HZ.out.from HK.out⟩
theorem lreader_now (w : World) (pb xb cb : Nat) (a b c : Int) (s : ByteArray) (ao : Option Addr) (n cap : Nat) (D : DevS) (R : RefS) (h : Pair w xb cb D R) :
 Calls Tryz.prog 15 #[.pointer (some ⟨pb, 0, none⟩), .agg #[.pointer (some ⟨xb, 0, none⟩), .pointer (some ⟨cb, 0, none⟩)], .agg #[.int .i64 4, .int .i64 a, .int .i64 b, .int .i64 c, .string s, .slice ao n cap]] w fun e w' => StepPost w xb cb D R e w' := by
 have hk := boxed_kept w xb cb 4 a b c s (.slice ao n cap)
 have hp := h.kept hk fun _ _ => id
 have H0 : Hid (Calls Tryz.prog 33 #[.pointer (some ⟨xb, 0, none⟩)] (boxed w xb cb 4 a b c s (.slice ao n cap)) fun e w1 => e = .returned (.tuple #[.int .u64 (D.past.length : Int), .int .i64 D.clock]) ∧ boxed w xb cb 4 a b c s (.slice ao n cap) = w1) := dnow _ xb D hp.dev hp.dfit
 obtain ⟨av, cv, hv, _⟩ := h.ref.past.form
 have c0 := h.ref.c0
 have c1 := h.ref.c1
 rw [hv, show R.past.length = D.past.length + 1 from h.sim.plen] at c0
 rw [show R.clock = D.clock from h.sim.clock] at c1
 have hcb := h.ref.blk.lt
 have hpm := h.dfit.pmax
 have HK : Hid (Kept (fun _ => False) w (boxed w xb cb 4 a b c s (.slice ao n cap))) := hk
 have HH : Hid (Pair w xb cb D R) := h
 clear hp hk h hv
 go_enter Tryz.func15, Tryz.ntmps15
 go_wp2_with (go_at_call 33; refine H0.out.mono ?_; rintro e w1 ⟨rfl, rfl⟩; unfold boxed)
 go_ret
 exact ⟨rt_bool (by simp), Turned.same HH.out HK.out (fun _ _ => id)⟩
theorem lreader_begin (w : World) (pb xb cb : Nat) (a b c : Int) (s : ByteArray) (ao : Option Addr) (n cap : Nat) (D : DevS) (R : RefS) (h : Pair w xb cb D R) :
 Calls Tryz.prog 15 #[.pointer (some ⟨pb, 0, none⟩), .agg #[.pointer (some ⟨xb, 0, none⟩), .pointer (some ⟨cb, 0, none⟩)], .agg #[.int .i64 5, .int .i64 a, .int .i64 b, .int .i64 c, .string s, .slice ao n cap]] w fun e w' => StepPost w xb cb D R e w' := by
 have hk := boxed_kept w xb cb 5 a b c s (.slice ao n cap)
 obtain ⟨x, y, hr⟩ := pair_begin (h.kept hk fun _ _ => id) b
 have H0 : Hid (Calls Tryz.prog 34 #[.pointer (some ⟨xb, 0, none⟩), .int .i64 b] (boxed w xb cb 5 a b c s (.slice ao n cap)) fun e w1 => e = .returned (.tuple #[.int .i64 x, .int .i64 y]) ∧ Hid (Then 35 #[.pointer (some ⟨cb, 0, none⟩), .int .i64 b] (boxed w xb cb 5 a b c s (.slice ao n cap)) w1 xb cb D R (.tuple #[.int .i64 x, .int .i64 y]))) := hr
 have HK : Hid (Kept (fun _ => False) w (boxed w xb cb 5 a b c s (.slice ao n cap))) := hk
 have HL : Hid (∀ i, D.fp xb i → i < w.heap.size) := h.dev.lt
 clear hr hk h
 go_enter Tryz.func15, Tryz.ntmps15
 go_wp2_with first
  | (go_at_call 34; refine H0.out.mono ?_; rintro e w1 ⟨rfl, ht⟩; have q1 := boxed_c ht.out.1 HL.out; have q2 := boxed_b ht.out.1 HL.out)
  | (go_at_call 35; refine (ht.out.2 _ (Kept.refl _ _)).mono ?_; rintro e w3 ⟨rfl, hz, _⟩; have HZ : Hid (Turned (boxed w xb cb 5 a b c s (.slice ao n cap)) w3 xb cb D R) := hz; clear hz)
 go_ret
 exact ⟨rt_bool (by simp), HZ.out.from HK.out⟩
theorem lreader_end (w : World) (pb xb cb : Nat) (a b c : Int) (s : ByteArray) (ao : Option Addr) (n cap : Nat) (D : DevS) (R : RefS) (h : Pair w xb cb D R) :
 Calls Tryz.prog 15 #[.pointer (some ⟨pb, 0, none⟩), .agg #[.pointer (some ⟨xb, 0, none⟩), .pointer (some ⟨cb, 0, none⟩)], .agg #[.int .i64 6, .int .i64 a, .int .i64 b, .int .i64 c, .string s, .slice ao n cap]] w fun e w' => StepPost w xb cb D R e w' := by
 have hk := boxed_kept w xb cb 6 a b c s (.slice ao n cap)
 obtain ⟨x, y, z, hr⟩ := pair_end (h.kept hk fun _ _ => id) b
 have H0 : Hid (Calls Tryz.prog 36 #[.pointer (some ⟨xb, 0, none⟩), .int .i64 b] (boxed w xb cb 6 a b c s (.slice ao n cap)) fun e w1 => e = .returned (.tuple #[.agg #[.int .u64 x, .int .u64 y], .int .i64 z]) ∧ Hid (Then 37 #[.pointer (some ⟨cb, 0, none⟩), .int .i64 b] (boxed w xb cb 6 a b c s (.slice ao n cap)) w1 xb cb D R (.tuple #[.agg #[.int .u64 x, .int .u64 y], .int .i64 z]))) := hr
 have HK : Hid (Kept (fun _ => False) w (boxed w xb cb 6 a b c s (.slice ao n cap))) := hk
 have HL : Hid (∀ i, D.fp xb i → i < w.heap.size) := h.dev.lt
 have HLR : Hid (∀ i, R.fp cb i → i < w.heap.size) := h.ref.lt
 have HP : Hid (∀ i, pfp xb cb D R i → i < w.heap.size) := h.lt
 clear hr hk h
 go_enter Tryz.func15, Tryz.ntmps15
 go_wp2_with first
  | (go_at_call 36; refine H0.out.mono ?_; rintro e w1 ⟨rfl, ht⟩; have q1 := boxed_c ht.out.1 HL.out; have q2 := boxed_b ht.out.1 HL.out; have hs1 := ht.out.1.size; have hs2 : w.heap.size + 2 ≤ w1.heap.size := Nat.le_trans (Nat.le_of_eq (boxed_size _ _ _ _ _ _ _ _ _).symm) hs1; have hs3 : w.heap.size < w1.heap.size := Nat.lt_of_lt_of_le (Nat.lt_add_of_pos_right (Nat.succ_pos 1)) hs2; have hs4 : w.heap.size + 1 < w1.heap.size := hs2; clear hs1)
  | (go_at_call 37; refine (ht.out.2 _ (Kept.alloc _ _ _)).mono ?_; rintro e w3 ⟨rfl, hz, hk3⟩; have HZ : Hid (Turned (boxed w xb cb 6 a b c s (.slice ao n cap)) w3 xb cb D R) := hz; clear hz; have y0 := span_box hk3 (fun i hi => Nat.lt_trans (HLR.out i hi) hs3); clear hk3)
 obtain ⟨y0, y1, y2⟩ := y0
 go_wp2
 go_ret
 exact ⟨rt_bool (by simp), HZ.out.still HK.out (Kept.alloc _ _ (fun _ => False)) (fun _ => False.elim) HP.out⟩
theorem roomy_use {w1 : World} {g cap n : Nat} {ws : List (Int × Int)} (hl : ws.length = n) (h : Row w1 152 2 (.slice (some ⟨g, 0, none⟩) (n + 2) cap) (n + 2) ((ws ++ [farW, farW]).flatMap wrC)) :
 Wr w1 (some ⟨g, 0, none⟩) n ws ∧ Left w1 w1 g 0 (ws ++ [farW, farW]) ∧ cap ≤ maxLen := by
 have hcell : ∀ j (hj : j < (ws ++ [farW, farW]).length), w1.cell? ⟨g, j * 2, none⟩ = some (.int .i64 (ws ++ [farW, farW])[j].1) ∧ w1.cell? ⟨g, j * 2 + 1, none⟩ = some (.int .i32 (ws ++ [farW, farW])[j].2) := by
  intro j hj
  refine ⟨h.cell rfl (j * 2) _ ?_, h.cell rfl (j * 2 + 1) _ ?_⟩
  · have := flat_at wrC 2 (fun _ => rfl) (ws ++ [farW, farW]) j hj 0 (by omega)
    rw [Nat.add_zero] at this
    rw [this]; rfl
  · rw [flat_at wrC 2 (fun _ => rfl) (ws ++ [farW, farW]) j hj 1 (by omega)]; rfl
 have hblk : ∃ cur, Blk w1 g 152 cur ∧ cap ≤ maxLen := by
  rcases h.shape with ⟨e, _⟩ | ⟨g', cap', cur, e, hb, _, hm, _⟩
  · cases e
  · injection e with e1 _ e2
    injection e1 with e1
    injection e1 with e1 _ _
    subst e1 e2
    exact ⟨cur, hb, hm⟩
 obtain ⟨cur, hb, hm⟩ := hblk
 refine ⟨⟨hl, fun j hj => ⟨g, 0, rfl, ?_⟩⟩, ⟨Kept.refl _ _, fun j hj _ => hcell j hj, fun o => hb.free o, hb.lt⟩, hm⟩
 have hj' : j < (ws ++ [farW, farW]).length := by simp; omega
 have e : (ws ++ [farW, farW])[j] = ws[j] := List.getElem_append_left hj
 have := hcell j hj'
 rw [e] at this
 simpa using this
theorem Left.kept' {w1 w3 : World} {g : Nat} {xs : List (Int × Int)} {F : Nat → Prop} (h : Left w1 w1 g 0 xs) (k : Kept F w1 w3) (hF : ¬ F g) : Left w3 w3 g 0 xs := by
 have hb := k.block g h.lt hF
 refine ⟨Kept.refl _ _, fun j hj _ => ?_, fun o => ?_, Nat.lt_of_lt_of_le h.lt k.size⟩
 · obtain ⟨c0, c1⟩ := h.cell j hj (Nat.zero_le _)
   exact ⟨(World.cell?_of_block (a := ⟨g, j * 2, none⟩) hb).trans c0, (World.cell?_of_block (a := ⟨g, j * 2 + 1, none⟩) hb).trans c1⟩
 · exact (World.frozen?_of_block (a := ⟨g, o, none⟩) hb).trans (h.free o)
theorem roomy_any (w : World) (ao : Option Addr) (n cap : Nat) (ws : List (Int × Int)) (hw : Wr w ao n ws) (hreach : n * 16 ≤ 140737488351232) (hno : ao = none → n = 0 ∧ cap = 0) :
 Calls Tryz.prog 27 #[.slice ao n cap] w fun e w' => RoomyPost w n ws e w' := by
 cases ao with
 | some a => exact roomy_some w a n cap ws hw hreach
 | none =>
  obtain ⟨rfl, rfl⟩ := hno rfl
  have : ws = [] := List.eq_nil_of_length_eq_zero hw.len
  subst this
  exact roomy_none w
def playC (vps : Value) (a b c : Value) (commits most : Int) : Array Value := #[vps, a, b, c, .int .i64 commits, .int .i64 most]
def LCommitPost (w : World) (pb xb cb : Nat) (D : DevS) (R : RefS) (vps b0 b1 b2 : Value) (commits most : Int) (e : Ending) (w' : World) : Prop :=
 e = .returned (.bool true) ∧ Blk w' pb 34 (playC vps b0 b1 b2 (commits + 1) most) ∧
  ∃ D' R', Pair w' xb cb D' R' ∧ Kept (fun k => k = pb ∨ pfp xb cb D R k) w w' ∧ (∀ k, pfp xb cb D' R' k → pfp xb cb D R k ∨ w.heap.size ≤ k) ∧ R'.uses.length ≤ R.uses.length + 1
theorem LCommitPost.mk' {w wc w' : World} {pb xb cb : Nat} {D : DevS} {R : RefS} {vps b0 b1 b2 : Value} {commits most : Int} (hpb : ¬ pfp xb cb D R pb)
 (k0 : Kept (fun k => k = pb) w wc) (hb : Blk wc pb 34 (playC vps b0 b1 b2 (commits + 1) most)) (h : Turned wc w' xb cb D R) :
 LCommitPost w pb xb cb D R vps b0 b1 b2 commits most (.returned (.bool true)) w' := by
 obtain ⟨D', R', hp, hk, hf, hu⟩ := h
 exact ⟨rfl, hb.kept hk hpb, D', R', hp, k0.trans hk (fun _ => .inl) (fun _ _ => .inr), fun k hk => (hf k hk).imp id fun x => Nat.le_trans k0.size x, hu⟩
theorem lastN_le (l : List Int) (x : Int) : ∀ n, lastN l x n < (n : Int)
 | 0 => by simp [lastN]
 | n + 1 => by
  have := lastN_le l x n
  simp only [lastN]
  split <;> omega
theorem lastN_app (l m : List Int) (x : Int) : ∀ n, n ≤ l.length → lastN (l ++ m) x n = lastN l x n
 | 0, _ => rfl
 | n + 1, h => by
  simp only [lastN]
  rw [List.getElem?_append_left (by omega), lastN_app l m x n (by omega)]
theorem lastP_lt (us : List Int) (x : Int) : lastP us x < (us.length : Int) := lastN_le us x _
theorem lastP_self (us : List Int) (x : Int) : lastP (us ++ [x]) x = (us.length : Int) := by
 unfold lastP
 rw [List.length_append, List.length_singleton, lastN, List.getElem?_append_right (Nat.le_refl _)]
 simp
theorem lastP_ne {us : List Int} {x a : Int} (h : a ≠ x) : lastP (us ++ [x]) a = lastP us a := by
 unfold lastP
 rw [List.length_append, List.length_singleton, lastN, List.getElem?_append_right (Nat.le_refl _)]
 have : ¬ ([x][us.length - us.length]? = some a) := by simp; exact fun e => h e.symm
 rw [if_neg this, lastN_app _ _ _ _ (Nat.le_refl _)]
theorem flat_names {l : List NodeE} : (l.flatMap (·.nms)).Nodup → (∀ nd ∈ l, nd.nms.Nodup) ∧ ∀ (k k' : Nat) (nd nd' : NodeE), l[k]? = some nd → l[k']? = some nd' → k ≠ k' → ∀ a ∈ nd.nms, ∀ b ∈ nd'.nms, a ≠ b := by
 induction l with
 | nil => intro _; exact ⟨fun _ h => (by cases h), fun k k' nd nd' h => by simp at h⟩
 | cons x r ih =>
  intro hn
  rw [List.flatMap_cons, List.nodup_append] at hn
  obtain ⟨h1, h2, h3⟩ := hn
  obtain ⟨i1, i2⟩ := ih h2
  refine ⟨fun nd hm => ?_, fun k k' nd nd' hk hk' hne a ha b hb => ?_⟩
  · rcases List.mem_cons.mp hm with rfl | hm
    · exact h1
    · exact i1 nd hm
  · match k, k' with
    | 0, 0 => exact absurd rfl hne
    | 0, k' + 1 =>
     simp at hk hk'
     subst hk
     exact h3 a ha b (List.mem_flatMap.mpr ⟨nd', List.mem_of_getElem? hk', hb⟩)
    | k + 1, 0 =>
     simp at hk hk'
     subst hk'
     exact fun e => h3 b hb a (List.mem_flatMap.mpr ⟨nd, List.mem_of_getElem? hk, ha⟩) e.symm
    | k + 1, k' + 1 =>
     simp at hk hk'
     exact i2 k k' nd nd' hk hk' (by omega) a ha b hb
theorem nodup_at {l : List Int} (h : l.Nodup) {i j : Nat} {a : Int} (hi : l[i]? = some a) (hj : l[j]? = some a) : i = j := by
 obtain ⟨h1, h2⟩ := List.getElem?_eq_some_iff.mp hi
 obtain ⟨h3, h4⟩ := List.getElem?_eq_some_iff.mp hj
 have hp := List.pairwise_iff_getElem.mp h
 rcases Nat.lt_trichotomy i j with x | x | x
 · exact absurd (h2.trans h4.symm) (hp i j h1 h3 x)
 · exact x
 · exact absurd (h4.trans h2.symm) (hp j i h3 h1 x)
theorem NSim.other {l : List PastE} {us : List Int} {s : NodeP} {n : RNode} (h : NSim l us s n) {nm : Int} (hne : ∀ a ∈ n.nms, a ≠ nm) : NSim l (us ++ [nm]) s n :=
 ⟨h.up, h.hz, h.since, h.ents, h.fls, h.flk, h.wts, h.wtk, h.hist, h.top, h.nml, h.used, fun i j x y a b hx hy ha hb => by
  rw [lastP_ne (hne a (List.mem_of_getElem? ha)), lastP_ne (hne b (List.mem_of_getElem? hb))]
  exact h.order i j x y a b hx hy ha hb⟩
theorem NSim.use {l : List PastE} {us : List Int} {s : NodeP} {n : RNode} (h : NSim l us s n) {i : Nat} {x : HeldE} {nm : Int} (hx : s.ents[i]? = some x) (hm : n.nms[i]? = some nm) (hn : n.nms.Nodup) : NSim l (us ++ [nm]) (s.use i x) n := by
 obtain ⟨hi, hx'⟩ := List.getElem?_eq_some_iff.mp hx
 have far : ∀ (j : Nat) (a : Int), n.nms[j]? = some a → j ≠ i → a ≠ nm := fun j a ha hj e => by
  subst e
  exact hj (nodup_at hn ha hm)
 refine ⟨h.up, h.hz, h.since, ?_, h.fls, h.flk, h.wts, h.wtk, h.hist, h.top, ?_, ?_, ?_⟩
 · show n.ents = (s.ents.set i { x with used := s.uses + 1 }).map (·.e)
   rw [List.map_set, h.ents]
   have : (s.ents.map (·.e))[i]? = some x.e := by rw [List.getElem?_map, hx]; rfl
   obtain ⟨hl, he⟩ := List.getElem?_eq_some_iff.mp this
   show _ = (s.ents.map (·.e)).set i x.e
   rw [← he, List.set_getElem_self]
 · show n.nms.length = (s.ents.set i _).length
   rw [List.length_set]; exact h.nml
 · intro y hy
   show y.used ≤ s.uses + 1
   rcases List.mem_or_eq_of_mem_set hy with hy | rfl
   · exact Nat.le_succ_of_le (h.used y hy)
   · exact Nat.le_refl _
 · intro p q y z a b hy hz ha hb
   have hy' : (s.ents.set i { x with used := s.uses + 1 })[p]? = some y := hy
   have hz' : (s.ents.set i { x with used := s.uses + 1 })[q]? = some z := hz
   by_cases hp : p = i
   · subst hp
     rw [List.getElem?_set_self hi] at hy'
     injection hy' with hy'
     rw [hm] at ha
     injection ha with ha
     subst ha hy'
     rw [lastP_self]
     by_cases hq : q = p
     · subst hq
       rw [List.getElem?_set_self hi] at hz'
       injection hz' with hz'
       rw [hm] at hb
       injection hb with hb
       subst hb hz'
       rw [lastP_self]
       simp
     · rw [List.getElem?_set_ne (fun e => hq e.symm)] at hz'
       rw [lastP_ne (far q b hb hq)]
       have h1 := h.used z (List.mem_of_getElem? hz')
       have h2 := lastP_lt us b
       show s.uses + 1 < z.used ↔ _
       omega
   · rw [List.getElem?_set_ne (fun e => hp e.symm)] at hy'
     rw [lastP_ne (far p a ha hp)]
     by_cases hq : q = i
     · subst hq
       rw [List.getElem?_set_self hi] at hz'
       injection hz' with hz'
       rw [hm] at hb
       injection hb with hb
       subst hb hz'
       rw [lastP_self]
       have h1 := h.used y (List.mem_of_getElem? hy')
       have h2 := lastP_lt us a
       show y.used < s.uses + 1 ↔ _
       omega
     · rw [List.getElem?_set_ne (fun e => hq e.symm)] at hz'
       rw [lastP_ne (far q b hb hq)]
       exact h.order p q y z a b hy' hz' ha hb
theorem ansN_meets (up : Bool) (hz : Nat) (q : ByteArray) (lo hi : Nat) (l : List EntE) : ∀ (n i : Nat) (x : EntE), ansN up hz q lo hi l n = (i : Int) → l[i]? = some x → meetsE hz q lo hi x
 | 0, i, x, h, _ => by simp only [ansN] at h; omega
 | n + 1, i, x, h, hx => by
  simp only [ansN] at h
  split at h
  · rename_i y hy
    split at h
    · rename_i hc
      obtain rfl : n = i := by omega
      rw [hy] at hx
      injection hx with hx
      subst hx
      exact hc.2.1
    · exact ansN_meets up hz q lo hi l n i x h hx
  · exact ansN_meets up hz q lo hi l n i x h hx
theorem NSim.ans {l : List PastE} {us : List Int} {s : NodeP} {nd : NodeE} {t n : Nat} (h : NSim l us s nd.p) (hg : s.Good t n) (q : ByteArray) (lo hi : Nat) : ansN nd.up nd.horizon q lo hi nd.ents nd.ents.length = s.ans q lo hi s.ents.length := by
 have h1 : nd.up = s.up := h.up
 have h2 : nd.horizon = s.horizon := h.hz
 have h3 : nd.ents = s.ents.map (·.e) := h.ents
 unfold NodeP.ans
 rw [h1, h2, h3, List.length_map]
 cases hu : s.up with
 | true => rfl
 | false => rw [(hg.dn hu).1]; rfl
end Go.Proofs.YtpfcacedpkaihaaGreat
