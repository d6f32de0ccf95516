import Derived.Test.YtpfcacedpkaihaaGreatC28
import Derived.Test.YtpfcacedpkaihaaGreatC19
import Derived.Test.YtpfcacedpkaihaaGreatC20
import Derived.Test.YtpfcacedpkaihaaGreatC24
namespace Go.Proofs.YtpfcacedpkaihaaGreat
open Go.RowKit
set_option maxRecDepth 100000
set_option maxHeartbeats 16000000
abbrev set6 (W : World) (P o : Nat) (e : EntE) : World :=
 (((((W.setCell ⟨P, o, none⟩ (.string e.q)).setCell ⟨P, o + 1, none⟩ (.int .i32 e.val)).setCell ⟨P, o + 2, none⟩ (.int .u64 (e.fr : Int))).setCell ⟨P, o + 3, none⟩ (.int .u64 (e.till : Int))).setCell ⟨P, o + 4, none⟩ (.bool e.op)).setCell ⟨P, o + 5, none⟩ (.int .u64 (e.kn : Int))
theorem set6_kept (W : World) (P o : Nat) (e : EntE) : Kept (fun k => k = P) W (set6 W P o e) := by
 have st : ∀ (a : World) (f : Nat) (v : Value), Kept (fun k => k = P) W a → Kept (fun k => k = P) W (a.setCell ⟨P, f, none⟩ v) := fun a f v ha => ha.trans (Kept.setCell a _ v) (fun _ => id) (fun _ _ hk => hk)
 exact st _ _ _ (st _ _ _ (st _ _ _ (st _ _ _ (st _ _ _ (st _ _ _ (Kept.refl _ _))))))
theorem Blk.set6 {W : World} {P : Nat} {x : EntE} (h : Blk W P 55 (entA x)) (e : EntE) : Blk (set6 W P 0 e) P 55 (entA e) :=
 (((((h.set 0 _).set 1 _).set 2 _).set 3 _).set 4 _).set 5 _
theorem Row.set6 {W : World} {v : Value} {g n j : Nat} {l : List EntE} (h : Row W 55 6 v n (l.flatMap entC)) (hg : v.ownBlock = some g) (hj : j < l.length) (e : EntE) :
  Row (Go.Proofs.YtpfcacedpkaihaaGreat.set6 W g (j * 6) e) 55 6 v n ((l.set j e).flatMap entC) := by
 have s0 := flat_set entC 6 (fun _ => rfl) l j hj 0 (by omega) (.string e.q) { l[j] with q := e.q } rfl
 have r0 := h.set hg (j * 6 + 0) (.string e.q)
 rw [s0] at r0
 have l1 : j < (l.set j { l[j] with q := e.q }).length := by simpa using hj
 have s1 := flat_set entC 6 (fun _ => rfl) _ j l1 1 (by omega) (.int .i32 e.val) { l[j] with q := e.q, val := e.val } (by rw [List.getElem_set_self]; rfl)
 have r1 := r0.set hg (j * 6 + 1) (.int .i32 e.val)
 rw [s1, List.set_set] at r1
 have l2 : j < (l.set j { l[j] with q := e.q, val := e.val }).length := by simpa using hj
 have s2 := flat_set entC 6 (fun _ => rfl) _ j l2 2 (by omega) (.int .u64 (e.fr : Int)) { l[j] with q := e.q, val := e.val, fr := e.fr } (by rw [List.getElem_set_self]; rfl)
 have r2 := r1.set hg (j * 6 + 2) (.int .u64 (e.fr : Int))
 rw [s2, List.set_set] at r2
 have l3 : j < (l.set j { l[j] with q := e.q, val := e.val, fr := e.fr }).length := by simpa using hj
 have s3 := flat_set entC 6 (fun _ => rfl) _ j l3 3 (by omega) (.int .u64 (e.till : Int)) { l[j] with q := e.q, val := e.val, fr := e.fr, till := e.till } (by rw [List.getElem_set_self]; rfl)
 have r3 := r2.set hg (j * 6 + 3) (.int .u64 (e.till : Int))
 rw [s3, List.set_set] at r3
 have l4 : j < (l.set j { l[j] with q := e.q, val := e.val, fr := e.fr, till := e.till }).length := by simpa using hj
 have s4 := flat_set entC 6 (fun _ => rfl) _ j l4 4 (by omega) (.bool e.op) { l[j] with q := e.q, val := e.val, fr := e.fr, till := e.till, op := e.op } (by rw [List.getElem_set_self]; rfl)
 have r4 := r3.set hg (j * 6 + 4) (.bool e.op)
 rw [s4, List.set_set] at r4
 have l5 : j < (l.set j { l[j] with q := e.q, val := e.val, fr := e.fr, till := e.till, op := e.op }).length := by simpa using hj
 have s5 := flat_set entC 6 (fun _ => rfl) _ j l5 5 (by omega) (.int .u64 (e.kn : Int)) e (by rw [List.getElem_set_self]; rfl)
 have r5 := r4.set hg (j * 6 + 5) (.int .u64 (e.kn : Int))
 rw [s5, List.set_set] at r5
 exact r5
structure Storing (w : World) (b : Nat) (R : RefS) (W : World) (R' : RefS) (P : Nat) (p : EntE) : Prop where
 bec : Became w b R W R'
 box : Blk W P 55 (entA p)
 away : ¬ R'.fp b P
theorem Storing.next {w W W2 : World} {b P : Nat} {R R' R2 : RefS} {p : EntE} (h : Storing w b R W R' P p) (h2 : Became W b R' W2 R2) : Storing w b R W2 R2 P p :=
 ⟨h.bec.trans h2, h.box.kept h2.2.1 h.away, fun hp => by
  rcases h2.2.2 P hp with h1 | h1
  · exact h.away h1
  · have := h.box.lt; omega⟩
theorem Became.kept {w w1 : World} {b : Nat} {R : RefS} (h : Ref w b R) (k : Kept (fun _ => False) w w1) : Became w b R w1 R := ⟨h.kept k (fun _ _ => id), k.mono (fun _ => False.elim), fun _ hx => .inl hx⟩
theorem Storing.same {w W W2 : World} {b P : Nat} {R R' : RefS} {p : EntE} (h : Storing w b R W R' P p) (k : Kept (fun _ => False) W W2) : Storing w b R W2 R' P p := h.next (Became.kept h.bec.1 k)
theorem Storing.setBox {w W : World} {b P : Nat} {R R' : RefS} {p : EntE} (h : Storing w b R W R' P p) (hP : w.heap.size ≤ P) (p' : EntE) : Storing w b R (Go.Proofs.YtpfcacedpkaihaaGreat.set6 W P 0 p') R' P p' := by
 have k := set6_kept W P 0 p'
 refine ⟨⟨h.bec.1.kept k fun j hj e => h.away (e ▸ hj), h.bec.2.1.trans k (fun _ => id) (fun i hi e => by omega), h.bec.2.2⟩, h.box.set6 p', h.away⟩
theorem Ref.turnEnts {w w1 : World} {b k : Nat} {R : RefS} {nd : NodeE} (h : Ref w b R) (hnd : R.nodes[k]? = some nd) (l : List EntE) (k1 : Kept (fun j => nd.en.ownBlock = some j) w w1) (hr : Row w1 55 6 nd.en l.length (l.flatMap entC)) : Became w b R w1 (R.putN k (nd.setEnts l nd.en)) := by
 obtain ⟨hk, hnd'⟩ := List.getElem?_eq_some_iff.mp hnd
 have hrn : Row w1 146 7 R.vn R.nodes.length (R.nodes.flatMap nodeC) := h.nodes.kept k1 fun j hj he => by
  have := (h.ents nd (List.mem_of_getElem? hnd)).ne_row h.nodes (by decide) j he
  exact this hj
 refine h.putF hnd (f := 2) (r := ⟨55, 6, nd.en, nd.ents.length, nd.ents.flatMap entC⟩) (r' := ⟨55, 6, nd.en, l.length, l.flatMap entC⟩) (by omega) rfl rfl k1 hr (fun x hx => .inl hx) (Kept.refl _ _) ?_
 rw [List.length_set]
 have e : (R.nodes.set k (nd.setEnts l nd.en)).flatMap nodeC = R.nodes.flatMap nodeC := by
  have := flat_set nodeC 7 (fun _ => rfl) R.nodes k hk 0 (by omega) (.bool nd.up) (nd.setEnts l nd.en) (by rw [hnd']; rfl)
  rw [← this]
  refine List.ext_getElem? fun j => ?_
  rw [List.getElem?_set]
  split
  · rename_i e
   subst e
   split
   · rename_i hlt
    have := flat_at nodeC 7 (fun _ => rfl) R.nodes k hk 0 (by omega)
    rw [hnd'] at this
    exact this.symm
   · rename_i hlt
    exact (List.getElem?_eq_none (by omega)).symm
  · rfl
 rw [e]
 exact hrn
def RefS.pushUse (R : RefS) (x : Int) (v : Value) : RefS := { R with uses := R.uses ++ [x], vs := v }
theorem Ref.pushUse {w w' : World} {b : Nat} {R : RefS} (h : Ref w b R) (x : Int) (v : Value) (hA : Appended w w' 3 1 R.vs v R.uses.length 1 (i64s R.uses) [.int .i64 x]) : Became w b R (w'.setCell ⟨b, 6, none⟩ v) (R.pushUse x v) := by
 have hr : Row w' 3 1 v (R.uses ++ [x]).length (i64s (R.uses ++ [x])) := by
  rw [List.length_append, show i64s (R.uses ++ [x]) = i64s R.uses ++ [.int .i64 x] by simp [i64s]]
  exact hA.row
 exact h.put 4 6 ⟨3, 1, R.vs, R.uses.length, i64s R.uses⟩ ⟨3, 1, v, (R.uses ++ [x]).length, i64s (R.uses ++ [x])⟩ rfl hA.kept hr (fun y hy => by
  rcases hA.own with e | e
  · exact .inl (by rw [← e]; exact hy)
  · exact .inr (e y hy)) rfl (by dsimp only; decide) rfl
theorem Ref.next1 {w : World} {b : Nat} {R : RefS} (h : Ref w b R) (x : Int) : Became w b R (w.setCell ⟨b, 7, none⟩ (.int .i64 x)) { R with next := x } := by
 have k := Kept.setCell w ⟨b, 7, none⟩ (.int .i64 x)
 refine ⟨⟨h.blk.set 7 _, h.all.kept k ?_⟩, k.mono fun j hj => .inl hj, fun _ hx => .inl hx⟩
 rintro j ⟨r, hr, hj⟩ he
 subst he
 exact h.ne r hr hj
theorem Ref.pushEnt {w w1 : World} {b k g : Nat} {R : RefS} {nd : NodeE} (h : Ref w b R) (hnd : R.nodes[k]? = some nd) (ho : R.vn.ownBlock = some g) (p : EntE) (v : Value) (hA : Appended w w1 55 6 nd.en v nd.ents.length 1 (nd.ents.flatMap entC) (entC p)) :
  Became w b R (w1.setCell ⟨g, k * 7 + 5, none⟩ v) (R.putN k (nd.setEnts (nd.ents ++ [p]) v)) :=
 h.setEnts hnd ho _ v hA.kept (by rw [List.length_append, List.flatMap_append, List.flatMap_singleton]; exact hA.row) fun y hy => by
  rcases hA.own with e | e
  · exact .inl (by rw [← e]; exact hy)
  · exact .inr (e y hy)
theorem Ref.pushNm {w w1 : World} {b k g : Nat} {R : RefS} {nd : NodeE} (h : Ref w b R) (hnd : R.nodes[k]? = some nd) (ho : R.vn.ownBlock = some g) (x : Int) (v : Value) (hA : Appended w w1 3 1 nd.nm v nd.nms.length 1 (i64s nd.nms) [.int .i64 x]) :
  Became w b R (w1.setCell ⟨g, k * 7 + 6, none⟩ v) (R.putN k (nd.setNms (nd.nms ++ [x]) v)) :=
 h.setNms hnd ho _ v hA.kept (by rw [List.length_append, show i64s (nd.nms ++ [x]) = i64s nd.nms ++ [.int .i64 x] by simp [i64s]]; exact hA.row) fun y hy => by
  rcases hA.own with e | e
  · exact .inl (by rw [← e]; exact hy)
  · exact .inr (e y hy)
structure RNode where
 up : Bool
 since : Nat
 horizon : Nat
 fls : List Nat
 wts : List Nat
 ents : List EntE
 nms : List Int
def NodeE.p (n : NodeE) : RNode := ⟨n.up, n.since, n.horizon, n.fls, n.wts, n.ents, n.nms⟩
def RTurns (w : World) (b : Nat) (R : RefS) (k : Nat) (p : RNode) (w' : World) : Prop := ∃ nd', nd'.p = p ∧ Became w b R w' (R.putN k nd')
theorem u64s_at {l : List Nat} {j : Nat} (hj : j < l.length) : (u64s l)[j]? = some (.int .u64 (l[j] : Int)) := by
 unfold u64s
 rw [List.getElem?_map, List.getElem?_eq_getElem hj]
 rfl
theorem least_cons {l : List PastE} {tick : Int} {j : Nat} (hj : j ≤ l.length) (hb : ∀ i (h : i < l.length), i < j → l[i].tick < tick) (hs : ∀ (h : j < l.length), tick ≤ l[j].tick) (z : PastE) : Least (z :: l) tick j := by
 refine ⟨by simp; omega, ?_, ?_⟩
 · by_cases e : j < l.length
  · have := hs e
   simp [freshB, List.getElem?_eq_getElem e, this]
  · have : j = l.length := by omega
   simp [freshB, this]
 · intro i hi
  have hil : i < l.length := by omega
  have := hb i hil hi
  have h2 : ¬ i = l.length := by omega
  simp [freshB, List.getElem?_eq_getElem hil, h2]
  omega
theorem Least.unique {l : List PastE} {tick : Int} {a b : Nat} (h : Least l tick a) (k : Least l tick b) : a = b := by
 rcases Nat.lt_trichotomy a b with x | x | x
 · have := k.2.2 a x; rw [h.2.1] at this; cases this
 · exact x
 · have := h.2.2 b x; rw [k.2.1] at this; cases this
def Bd (p : PastE) : Prop := ∀ k, -2147483648 ≤ p.st k ∧ p.st k < 2147483648
def BdW (ws : List (Int × Int)) : Prop := ∀ x ∈ ws, -2147483648 ≤ x.2 ∧ x.2 < 2147483648
theorem Bd.write {p : PastE} (h : Bd p) {x : Int × Int} (hx : -2147483648 ≤ x.2 ∧ x.2 < 2147483648) : Bd (writeP p x) := by
 intro k
 show -2147483648 ≤ (if k = x.1.toNat then x.2 else p.st k) ∧ (if k = x.1.toNat then x.2 else p.st k) < 2147483648
 split
 · exact hx
 · exact h k
theorem Bd.writes {p : PastE} (h : Bd p) {ws : List (Int × Int)} (hw : BdW ws) : Bd (writesP p ws) := by
 induction ws generalizing p with
 | nil => exact h
 | cons x r ih => exact ih (h.write (hw x (List.mem_cons_self ..))) fun y hy => hw y (List.mem_cons_of_mem _ hy)
def keysP (l : List PastE) (t : Nat) : Int := (l[t]?.map PastE.keys).getD 0
theorem keysP_app {l : List PastE} {t : Nat} (q : PastE) (h : t < l.length) : keysP (l ++ [q]) t = keysP l t := by
 unfold keysP
 rw [List.getElem?_append_left h]
theorem keysP_last (l : List PastE) (q : PastE) : keysP (l ++ [q]) l.length = q.keys := by simp [keysP]
def histL (l : List PastE) (since hz : Nat) : List (Nat × Int) := (List.range' (max since (hz - 6) + 1) (hz - max since (hz - 6))).map fun t => (t, keysP l t)
def lastP (us : List Int) (x : Int) : Int := lastN us x us.length
structure NSim (past : List PastE) (us : List Int) (s : NodeP) (n : RNode) : Prop where
 up : n.up = s.up
 hz : n.horizon = s.horizon
 since : n.since ≤ n.horizon
 ents : n.ents = s.ents.map (·.e)
 fls : n.fls = s.flight.map (·.1)
 flk : ∀ c ∈ s.flight, c.1 < past.length ∧ c.2 = keysP past c.1
 wts : n.wts = s.waits.map (·.1)
 wtk : ∀ c ∈ s.waits, c.1 < past.length ∧ c.2 = keysP past c.1
 hist : s.hists = histL past n.since n.horizon
 top : n.horizon < past.length
 nml : n.nms.length = s.ents.length
 used : ∀ x ∈ s.ents, x.used ≤ s.uses
 order : ∀ (i j : Nat) (x y : HeldE) (a b : Int), s.ents[i]? = some x → s.ents[j]? = some y → n.nms[i]? = some a → n.nms[j]? = some b → (x.used < y.used ↔ lastP us a < lastP us b)
structure Sim (P : DP) (R : RefS) : Prop where
 past : R.past = zeroP :: P.past
 clock : R.clock = P.clock
 rdr : SimR P.begun P.seats R.rdrs P.past.length
 puts : R.puts = P.puts
 bd : ∀ p ∈ P.past, Bd p
 len : R.nodes.length = P.sites.length
 node : ∀ (k : Nat) (s : NodeP) (nd : NodeE), P.sites[k]? = some s → R.nodes[k]? = some nd → NSim R.past R.uses s nd.p
 room : ∀ s ∈ P.sites, s.room = R.room
 names : (R.nodes.flatMap (·.nms)).Nodup
 fresh : ∀ x ∈ R.nodes.flatMap (·.nms), 0 ≤ x ∧ x < R.next
theorem Sim.plen {P : DP} {R : RefS} (h : Sim P R) : R.past.length = P.past.length + 1 := by rw [h.past]; simp
theorem histL_app {l : List PastE} {a b : Nat} (q : PastE) (h : b < l.length) : histL (l ++ [q]) a b = histL l a b := by
 unfold histL
 refine List.map_congr_left fun t ht => ?_
 rw [List.mem_range'] at ht
 obtain ⟨i, hi, rfl⟩ := ht
 rw [keysP_app q (by omega)]
theorem NSim.tell {l : List PastE} {us : List Int} {s : NodeP} {nd : NodeE} (h : NSim l us s nd.p) (q : PastE) (v : Value) : NSim (l ++ [q]) us (s.tell l.length q.keys) (tellN nd l.length v).p := by
 have hup : nd.up = s.up := h.up
 have hhz : nd.horizon = s.horizon := h.hz
 have hfl : nd.fls = s.flight.map (·.1) := h.fls
 have hag : keepF l.length nd.fls = (s.age l.length).flight.map (·.1) := by
  unfold keepF NodeP.age
  rw [hfl, List.filter_map]
  rfl
 have hlag : (s.age l.length).lags l.length = fellB nd l.length := by
  unfold NodeP.lags fellB NodeP.age
  rw [hup, hhz]
 have hk : ∀ c ∈ (s.age l.length).flight, c.1 < (l ++ [q]).length ∧ c.2 = keysP (l ++ [q]) c.1 := by
  intro c hc
  have hc' : c ∈ s.flight := (List.mem_filter.mp hc).1
  have := h.flk c hc'
  exact ⟨by simp; omega, by rw [keysP_app q this.1]; exact this.2⟩
 have hlast : (l.length : Nat) < (l ++ [q]).length ∧ q.keys = keysP (l ++ [q]) l.length := ⟨by simp, by rw [keysP_last]⟩
 unfold NodeP.tell tellN leftN
 rw [hlag]
 cases hf : fellB nd l.length with
 | true =>
  refine ⟨rfl, rfl, Nat.le_refl _, rfl, rfl, ?_, rfl, ?_, rfl, by simp [NodeE.p, zeroN], rfl, ?_, ?_⟩
  · intro c hc
   have : c = (l.length, q.keys) := by simpa [NodeP.send, NodeP.clear, NodeP.fall] using hc
   subst this
   exact hlast
  · intro c hc
   simp [NodeP.send, NodeP.clear, NodeP.fall] at hc
  · intro x hx
   simp [NodeP.send, NodeP.clear, NodeP.fall] at hx
  · intro i j x y a b hx
   simp [NodeP.send, NodeP.clear, NodeP.fall] at hx
 | false =>
  have hlen : (keepF l.length nd.fls).length = (s.age l.length).flight.length := by rw [hag, List.length_map]
  have hw : ∀ c ∈ s.waits, c.1 < (l ++ [q]).length ∧ c.2 = keysP (l ++ [q]) c.1 := fun c hc => by
   have := h.wtk c hc
   exact ⟨by simp; omega, by rw [keysP_app q this.1]; exact this.2⟩
  have hh : s.hists = histL (l ++ [q]) nd.since nd.horizon := (h.hist).trans (histL_app (a := nd.since) (b := nd.horizon) q h.top).symm
  have ht : nd.horizon < (l ++ [q]).length := by have := h.top; simp only [List.length_append, List.length_singleton]; exact Nat.lt_succ_of_lt this
  by_cases h12 : 12 ≤ (s.age l.length).flight.length
  · have e : ((if false = true then (s.age l.length).fall.clear else s.age l.length).send (l.length, q.keys)) = s.age l.length := by simp [NodeP.send, h12]
   rw [e]
   have e2 : ¬ (keepF l.length nd.fls).length < 12 := by omega
   refine ⟨h.up, h.hz, h.since, h.ents, ?_, hk, h.wts, hw, hh, ht, h.nml, h.used, h.order⟩
   simp only [NodeE.p, Bool.false_eq_true, if_false, e2]
   exact hag
  · have e : ((if false = true then (s.age l.length).fall.clear else s.age l.length).send (l.length, q.keys)) = { s.age l.length with flight := (s.age l.length).flight ++ [(l.length, q.keys)] } := by simp [NodeP.send, h12]
   rw [e]
   have e2 : (keepF l.length nd.fls).length < 12 := by omega
   refine ⟨h.up, h.hz, h.since, h.ents, ?_, ?_, h.wts, hw, hh, ht, h.nml, h.used, h.order⟩
   · simp only [NodeE.p, Bool.false_eq_true, if_false, e2, if_true]
    rw [hag, List.map_append]
    rfl
   · intro c hc
    rw [List.mem_append, List.mem_singleton] at hc
    rcases hc with hc | rfl
    · exact hk c hc
    · exact hlast
theorem at_st {P : DP} {R : RefS} {p : PastE} {t : Nat} (h : Sim P R) (hp : R.past[t]? = some p) : stAt P.past t = p.st ∧ Bd p := by
 rw [h.past] at hp
 unfold stAt
 match t, hp with
 | 0, hp => simp at hp; subst hp; exact ⟨rfl, fun k => ⟨by simp [zeroP], by simp [zeroP]⟩⟩
 | t + 1, hp =>
  rw [List.getElem?_cons_succ] at hp
  rw [if_neg (by omega), Nat.add_sub_cancel, hp]
  exact ⟨rfl, h.bd p (List.mem_of_getElem? hp)⟩
theorem Sim.last {P : DP} {R : RefS} {p : PastE} (h : Sim P R) (hp : R.past[R.past.length - 1]? = some p) (ws : List (Int × Int)) : P.nextP ws = writesP { p with keys := 0, tick := R.clock } ws := by
 rw [h.plen, Nat.add_sub_cancel] at hp
 have := (at_st h hp).1
 unfold DP.nextP
 unfold stAt at this
 rw [this, h.clock]
theorem told_names {l l' : List NodeE} {t : Nat} (h : ToldTo l l' t l.length) (hn : (l.flatMap (·.nms)).Nodup) : (l'.flatMap (·.nms)).Nodup ∧ ∀ x ∈ l'.flatMap (·.nms), x ∈ l.flatMap (·.nms) := by
 have hs : List.Sublist (l'.flatMap (·.nms)) (l.flatMap (·.nms)) := by
  obtain ⟨hl, hj⟩ := h
  have key : ∀ (l l' : List NodeE), l'.length = l.length → (∀ (j : Nat) (nd : NodeE), l[j]? = some nd → ∃ v, l'[j]? = some (tellN nd t v)) → List.Sublist (l'.flatMap (·.nms)) (l.flatMap (·.nms)) := by
   intro l
   induction l with
   | nil => intro l' hl _; rw [List.length_nil, List.length_eq_zero_iff] at hl; subst hl; exact List.Sublist.refl _
   | cons a r ih =>
    intro l' hl hj
    match l' with
    | [] => simp at hl
    | b :: r' =>
     have hr := ih r' (by simpa using hl) fun j nd hnd => by simpa using hj (j + 1) nd (by simpa using hnd)
     obtain ⟨v, hv⟩ := hj 0 a rfl
     simp at hv
     subst hv
     rw [List.flatMap_cons, List.flatMap_cons]
     refine List.Sublist.append ?_ hr
     unfold tellN leftN
     split
     · exact List.nil_sublist _
     · exact List.Sublist.refl _
  exact key l l' hl fun j nd hnd => (hj j nd hnd).1 (List.getElem?_eq_some_iff.mp hnd).1
 exact ⟨hn.sublist hs, fun x hx => hs.subset hx⟩
theorem tell_room (s : NodeP) (t : Nat) (K : Int) : (s.tell t K).room = s.room := by
 unfold NodeP.tell NodeP.send
 split <;> split <;> rfl
theorem Sim.commit {P : DP} {R : RefS} {p : PastE} {ws : List (Int × Int)} {v' : Value} {l : List NodeE} (h : Sim P R) (hp : R.past[R.past.length - 1]? = some p) (ht : ToldTo R.nodes l R.past.length R.nodes.length) (hw : BdW ws) :
  Sim (P.push (P.nextP ws)) { R.pushP (writesP { p with keys := 0, tick := R.clock } ws) v' with nodes := l } := by
 have hq := h.last hp ws
 have hlen := h.plen
 have hn := told_names ht h.names
 refine ⟨?_, h.clock, ?_, h.puts, ?_, ?_, ?_, ?_, hn.1, fun x hx => h.fresh x (hn.2 x hx)⟩
 · show R.past ++ [_] = zeroP :: (P.past ++ [_])
  rw [h.past, hq]; rfl
 · show SimR P.begun P.seats R.rdrs (P.past ++ [_]).length
  exact h.rdr.top (by simp)
 · intro y hy
  have hy' : y ∈ P.past ++ [P.nextP ws] := hy
  rw [List.mem_append, List.mem_singleton] at hy'
  rcases hy' with hy' | rfl
  · exact h.bd y hy'
  · rw [hq]
   refine Bd.writes ?_ hw
   rw [hlen, Nat.add_sub_cancel] at hp
   exact (at_st h hp).2
 · show l.length = (P.sites.map _).length
  rw [ht.1, List.length_map]; exact h.len
 · intro k s nd hs hnd
  have hs' : (P.sites.map fun s => s.tell (P.past.length + 1) (P.nextP ws).keys)[k]? = some s := hs
  rw [List.getElem?_map] at hs'
  obtain ⟨s0, hs0, rfl⟩ := Option.map_eq_some_iff.mp hs'
  have hk : k < R.nodes.length := by rw [h.len]; exact (List.getElem?_eq_some_iff.mp hs0).1
  have h0 := List.getElem?_eq_getElem hk
  obtain ⟨v, hv⟩ := (ht.2 k _ h0).1 hk
  have hnd' : l[k]? = some nd := hnd
  rw [hv] at hnd'
  injection hnd' with e
  subst e
  have := (h.node k s0 _ hs0 h0).tell (P.nextP ws) v
  rw [hlen] at this
  show NSim (R.past ++ [_]) R.uses _ _
  rw [← hq, hlen]
  exact this
 · intro s hs
  obtain ⟨s0, hs0, rfl⟩ := List.mem_map.mp hs
  rw [tell_room]
  exact h.room s0 hs0
end Go.Proofs.YtpfcacedpkaihaaGreat
