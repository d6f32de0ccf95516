import Derived.Test.YtpfcacedpkaihaaGreatC9
import Derived.Test.YtpfcacedpkaihaaGreatC4
namespace Go.Proofs.YtpfcacedpkaihaaGreat
open Go.RowKit
set_option maxRecDepth 100000
set_option maxHeartbeats 16000000
def keysQ (q : ByteArray) : Int := keysL (Q.readL q.data.toList).2
def aheadB (x y : HeldE) : Bool := if x.e.op != y.e.op then y.e.op else if x.e.op then decide ((x.used : Int) < (y.used : Int)) else decide ((x.e.till : Int) < (y.e.till : Int))
def leastD (l : List HeldE) : Nat → Nat
 | 0 => 0
 | n + 1 => match l[n]?, l[leastD l n]? with
  | some x, some y => if aheadB x y then n else leastD l n
  | _, _ => leastD l n
theorem leastD_lt (l : List HeldE) (n : Nat) : leastD l n = 0 ∨ leastD l n < n := by
 induction n with
 | zero => simp [leastD]
 | succ n ih =>
  simp only [leastD]
  split
  · split <;> omega
  · omega
def waitsB (l : List (Nat × Int)) (t : Nat) : Bool := l.any fun c => decide (c.1 = t)
def wroteL (l : List (Nat × Int)) (t : Nat) : Option Int := (l.find? fun c => decide (c.1 = t)).map (·.2)
namespace NodeP
def use (p : NodeP) (j : Nat) (x : HeldE) : NodeP := { p with uses := p.uses + 1, ents := p.ents.set j { x with used := p.uses + 1 } }
def merge (p : NodeP) (j : Nat) (x : HeldE) (e : EntE) : NodeP := { p with ents := p.ents.set j ⟨mergedE x.e e, x.used⟩ }
def remove (p : NodeP) (i : Nat) : NodeP := { p with ents := p.ents.eraseIdx i }
def lay0 (p : NodeP) (e : EntE) : NodeP := { p with uses := p.uses + 1, ents := p.ents ++ [⟨e, p.uses + 1⟩] }
def lay (p : NodeP) (e : EntE) : NodeP := if p.room ≤ (p.ents.length : Int) then (p.remove (leastD p.ents p.ents.length)).lay0 e else p.lay0 e
def sameI (p : NodeP) (e : EntE) : Option Nat := p.ents.findIdx? fun x => decide (sameE x.e e)
def caughtGo (l : List (Nat × Int)) (K : Int) : Nat → Nat → EntE → Option EntE
 | 0, _, e => some e
 | n + 1, t, e => match wroteL l t with
  | none => none
  | some k => caughtGo l K n (t + 1) (if e.op = true ∧ (bits .and .u8 k K != 0) = true then { e with op := false, till := t } else e)
def caught (p : NodeP) (e : EntE) : Option EntE :=
 if e.op = false ∨ p.horizon ≤ e.kn then some e
 else (caughtGo p.hists (keysQ e.q) (p.horizon - e.kn) (e.kn + 1) e).map fun y => if y.op then { y with kn := p.horizon } else y
def store (p : NodeP) (e : EntE) : NodeP × Bool :=
 if p.up = false then (p, false) else
 match p.caught e with
 | none => (p, false)
 | some y => match p.sameI y with
  | some j => match p.ents[j]? with
   | some x => ((p.merge j x y).use j ⟨mergedE x.e y, x.used⟩, true)
   | none => (p, true)
  | none => (p.lay y, true)
def ans (p : NodeP) (q : ByteArray) (lo hi : Nat) (n : Nat) : Int := ansN true p.horizon q lo hi (p.ents.map (·.e)) n
def fall (p : NodeP) : NodeP := { up := false, room := p.room, horizon := 0, hists := [], waits := [], ents := [], uses := 0, flight := p.flight }
def lags (p : NodeP) (t : Nat) : Bool := p.up && decide (p.horizon + 40 < t)
def age (p : NodeP) (t : Nat) : NodeP := { p with flight := p.flight.filter fun c => decide (t < c.1 + 100) }
def clear (p : NodeP) : NodeP := { p with flight := [] }
def send (p : NodeP) (c : Nat × Int) : NodeP := if 12 ≤ p.flight.length then p else { p with flight := p.flight ++ [c] }
def tell (p : NodeP) (t : Nat) (K : Int) : NodeP := (if (p.age t).lags t then (p.age t).fall.clear else p.age t).send (t, K)
structure Ok (p : NodeP) (B : Nat) : Prop where
 hz : p.horizon ≤ B
 hl : p.hists.length ≤ 6
 wl : p.waits.length ≤ 1000
 el : p.ents.length ≤ 1000
 eq : ∀ x ∈ p.ents, x.e.q.size ≤ maxLen
end NodeP
structure DP where
 clock : Int
 past : List PastE
 begun : Nat
 seats : Nat → SeatE
 puts : List EntE
 sites : List NodeP
def DevS.pu (D : DevS) : DP := ⟨D.clock, D.past, D.begun, D.seats, D.puts, D.nodes.map (·.p)⟩
def Goes (w : World) (b : Nat) (D : DevS) (P : DP) (w' : World) : Prop := ∃ D' : DevS, D'.pu = P ∧ DBecame w b D w' D'
namespace DP
def site? (P : DP) (i : Int) : Option NodeP := if i < 0 then none else P.sites[i.toNat]?
def put (P : DP) (i : Int) (p : NodeP) : DP := { P with sites := P.sites.set i.toNat p }
def evict (P : DP) (k i : Int) : Int × DP := match P.site? k with
 | none => (9, P)
 | some s => if i < 0 ∨ (s.ents.length : Int) ≤ i then (10, P) else (0, P.put k (s.remove i.toNat))
def nodeN (P : DP) (q : ByteArray) : Nat := sumB q.data.toList % P.sites.length
def store (P : DP) (i : Int) : Bool × Int × DP := if i < 0 then (false, 10, P) else match P.puts[i.toNat]? with
 | none => (false, 10, P)
 | some e => match P.sites[P.nodeN e.q]? with
  | none => (false, 0, P)
  | some s => ((s.store e).2, 0, { P with puts := P.puts.eraseIdx i.toNat, sites := P.sites.set (P.nodeN e.q) (s.store e).1 })
def drop (P : DP) (i : Int) : Int × DP := if i < 0 ∨ (P.puts.length : Int) ≤ i then (10, P) else (0, { P with puts := P.puts.eraseIdx i.toNat })
def nextP (P : DP) (ws : List (Int × Int)) : PastE := writesP ⟨if P.past.length = 0 then fun _ => 0 else (P.past[P.past.length - 1]?.map PastE.st).getD fun _ => 0, 0, P.clock⟩ ws
def push (P : DP) (q : PastE) : DP := { P with past := P.past ++ [q], sites := P.sites.map fun s => s.tell (P.past.length + 1) q.keys }
def commit (P : DP) (n : Nat) (ws : List (Int × Int)) : Nat × Int × DP :=
 if 8 < n then (0, 3, P) else if ws.all keyOk = false then (0, 5, P) else if 700 ≤ P.past.length then (0, 6, P) else (P.past.length + 1, 0, P.push (P.nextP ws))
end DP
structure NodeP.Walk (p : NodeP) : Prop where
 ok : p.Ok 900000
 el : p.ents.length ≤ 900
 r1 : 1 ≤ p.room
 r2 : p.room ≤ 1000
 us : p.uses < 9223372036854775807
 fl : p.flight.length ≤ 1000
 fs : ∀ c ∈ p.flight, c.1 ≤ 1000000
 es : ∀ x ∈ p.ents, x.e.Fit ∧ x.e.fr ≤ lastE x.e p.horizon
structure DevS.Walk (D : DevS) : Prop where
 fit : D.Fit
 n1 : 0 < D.nodes.length
 n3 : D.nodes.length ≤ 3
 nodes : ∀ nd ∈ D.nodes, nd.p.Walk
 putq : ∀ e ∈ D.puts, e.q.size ≤ 40
theorem Goes.of_kept {w w' : World} {b : Nat} {D : DevS} (h : Dev w b D) (hk : Kept (fun _ => False) w w') : Goes w b D D.pu w' := ⟨D, rfl, DBecame.of_kept h hk⟩
theorem DevS.pu_site {D : DevS} {k : Nat} {nd : DNodeE} (h : D.nodes[k]? = some nd) : D.pu.site? (k : Int) = some nd.p := by
 unfold DP.site?
 rw [if_neg (by omega)]
 show (D.nodes.map (·.p))[((k : Nat) : Int).toNat]? = some nd.p
 rw [Int.toNat_natCast, List.getElem?_map, h]
 rfl
theorem DevS.pu_none {D : DevS} {i : Int} (h : i < 0 ∨ (D.nodes.length : Int) ≤ i) : D.pu.site? i = none := by
 unfold DP.site?
 by_cases h0 : i < 0
 · rw [if_pos h0]
 · rw [if_neg h0]
   show (D.nodes.map (·.p))[i.toNat]? = none
   rw [List.getElem?_eq_none_iff, List.length_map]
   omega
theorem DevS.pu_put (D : DevS) (k : Nat) (nd : DNodeE) : (D.putN k nd).pu = D.pu.put (k : Int) nd.p := by
 unfold DevS.pu DevS.putN DP.put
 simp [List.map_set]
structure EntOk (e : EntE) (top : Nat) : Prop where
 q40 : e.q.size ≤ 40
 kn : e.kn ≤ top
 till : e.till ≤ top
 cl : e.op = false → e.fr < e.till
 opn : e.op = true → e.fr ≤ e.kn
theorem EntOk.more {e : EntE} {t t' : Nat} (h : EntOk e t) (ht : t ≤ t') : EntOk e t' := ⟨h.q40, Nat.le_trans h.kn ht, Nat.le_trans h.till ht, h.cl, h.opn⟩
theorem EntOk.last {e : EntE} {t : Nat} (h : EntOk e t) (hz : Nat) : e.fr ≤ lastE e hz := by
 unfold lastE
 cases ho : e.op with
 | true => have := h.opn ho; simp; omega
 | false => have := h.cl ho; simp; omega
theorem EntOk.fit {e : EntE} {t : Nat} (h : EntOk e t) (ht : t ≤ 700) : e.Fit := ⟨fun ho => by have := h.cl ho; omega, by have := h.till; omega, by have := h.kn; omega⟩
structure NodeP.Good (p : NodeP) (top n : Nat) : Prop where
 room1 : 1 ≤ p.room
 room6 : p.room ≤ 6
 hz : p.horizon ≤ top
 hl : p.hists.length ≤ 6
 ws : ∀ c ∈ p.waits, p.horizon + 1 < c.1 ∧ c.1 ≤ p.horizon + 5 ∧ c.1 ≤ top
 wn : (p.waits.map (·.1)).Nodup
 el : (p.ents.length : Int) ≤ p.room
 es : ∀ x ∈ p.ents, EntOk x.e top
 fl : p.flight.length ≤ 12
 fs : ∀ c ∈ p.flight, c.1 ≤ top
 us : p.uses ≤ n
 dn : p.up = false → p.ents = [] ∧ p.waits = [] ∧ p.horizon = 0
theorem nodup_range : ∀ (n a : Nat) (l : List Nat), l.Nodup → (∀ x ∈ l, a ≤ x ∧ x < a + n) → l.length ≤ n
 | 0, a, l, _, h => by
  cases l with
  | nil => simp
  | cons x r => have := h x (List.mem_cons_self ..); omega
 | n + 1, a, l, hn, h => by
  have h1 : (l.erase (a + n)).length ≤ n := by
   refine nodup_range n a _ (hn.erase _) fun x hx => ?_
   have hx' := (List.Nodup.mem_erase_iff hn).mp hx
   have := h x hx'.2
   have := hx'.1
   omega
  have h2 : l.length ≤ (l.erase (a + n)).length + 1 := by
   by_cases hm : a + n ∈ l
   · rw [List.length_erase_of_mem hm]; omega
   · rw [List.erase_of_not_mem hm]; omega
  omega
theorem NodeP.Good.wl {p : NodeP} {top n : Nat} (h : p.Good top n) : p.waits.length ≤ 4 := by
 have := nodup_range 4 (p.horizon + 2) (p.waits.map (·.1)) h.wn fun x hx => by
  obtain ⟨c, hc, rfl⟩ := List.mem_map.mp hx
  have := h.ws c hc
  omega
 simpa using this
theorem NodeP.Good.walk {p : NodeP} {top n : Nat} (h : p.Good top n) (ht : top ≤ 700) (hn : n < 9223372036854775807) : p.Walk := by
 have h1 := h.hz
 have h2 := h.hl
 have h3 := h.wl
 have h4 := h.el
 have h5 := h.room6
 have h6 := h.fl
 have h7 := h.us
 have h8 := h.room1
 refine ⟨⟨by omega, h2, by omega, by omega, fun x hx => ?_⟩, by omega, h8, by omega, by omega, by omega, fun c hc => ?_, fun x hx => ⟨(h.es x hx).fit ht, (h.es x hx).last _⟩⟩
 · have := (h.es x hx).q40; unfold maxLen; omega
 · have := h.fs c hc; omega
theorem NodeP.Good.more {p : NodeP} {t t' n n' : Nat} (h : p.Good t n) (ht : t ≤ t') (hn : n ≤ n') : p.Good t' n' :=
 ⟨h.room1, h.room6, Nat.le_trans h.hz ht, h.hl, fun c hc => ⟨(h.ws c hc).1, (h.ws c hc).2.1, Nat.le_trans (h.ws c hc).2.2 ht⟩, h.wn, h.el, fun x hx => (h.es x hx).more ht, h.fl, fun c hc => Nat.le_trans (h.fs c hc) ht, Nat.le_trans h.us hn, h.dn⟩
theorem NodeP.Good.remove {p : NodeP} {t n : Nat} (h : p.Good t n) (i : Nat) : (p.remove i).Good t n := by
 have hle := List.length_eraseIdx_le p.ents i
 refine ⟨h.room1, h.room6, h.hz, h.hl, h.ws, h.wn, ?_, fun x hx => h.es x (List.mem_of_mem_eraseIdx hx), h.fl, h.fs, h.us, fun hu => ⟨?_, (h.dn hu).2⟩⟩
 · have := h.el; show ((p.ents.eraseIdx i).length : Int) ≤ p.room; omega
 · show p.ents.eraseIdx i = []; rw [(h.dn hu).1]; rfl
theorem NodeP.Good.bare {p : NodeP} {t n : Nat} (h : p.Good t n) (u : Bool) (z : Nat) (hz : z ≤ t) (hu : u = false → z = 0) (l : List (Nat × Int)) (hl : l.length ≤ 12) (hs : ∀ c ∈ l, c.1 ≤ t) : (⟨u, p.room, z, [], [], [], 0, l⟩ : NodeP).Good t n :=
 ⟨h.room1, h.room6, hz, by simp, fun c hc => (by cases hc), by simp, by have := h.room1; simp; omega, fun x hx => (by cases hx), hl, hs, Nat.zero_le _, fun hu' => ⟨rfl, rfl, hu hu'⟩⟩
theorem NodeP.Good.fell {p : NodeP} {t n : Nat} (h : p.Good t n) : p.fall.clear.Good t n := h.bare false 0 (Nat.zero_le _) (fun _ => rfl) [] (by simp) (fun c hc => (by cases hc))
theorem NodeP.Good.age {p : NodeP} {t n : Nat} (h : p.Good t n) (s : Nat) : (p.age s).Good t n := by
 have hle := List.length_filter_le (fun c : Nat × Int => decide (s < c.1 + 100)) p.flight
 refine ⟨h.room1, h.room6, h.hz, h.hl, h.ws, h.wn, h.el, h.es, ?_, fun c hc => h.fs c (List.mem_filter.mp hc).1, h.us, h.dn⟩
 have := h.fl; show (p.flight.filter _).length ≤ 12; omega
theorem NodeP.Good.send {p : NodeP} {t n : Nat} (h : p.Good t n) (c : Nat × Int) (hc : c.1 ≤ t) : (p.send c).Good t n := by
 unfold NodeP.send
 split
 · exact h
 · rename_i h12
   refine ⟨h.room1, h.room6, h.hz, h.hl, h.ws, h.wn, h.el, h.es, ?_, fun x hx => ?_, h.us, h.dn⟩
   · show (p.flight ++ [c]).length ≤ 12; simp; omega
   · have hx' : x ∈ p.flight ++ [c] := hx
     rw [List.mem_append, List.mem_singleton] at hx'
     rcases hx' with hx' | rfl
     · exact h.fs x hx'
     · exact hc
theorem NodeP.Good.tell {p : NodeP} {t n : Nat} (h : p.Good t n) (K : Int) : (p.tell (t + 1) K).Good (t + 1) n := by
 unfold NodeP.tell
 have h1 := (h.more (Nat.le_succ t) (Nat.le_refl n)).age (t + 1)
 split
 · exact h1.fell.send _ (Nat.le_refl _)
 · exact h1.send _ (Nat.le_refl _)
theorem NodeP.Good.use {p : NodeP} {t n j : Nat} {x : HeldE} (h : p.Good t n) (hx : p.ents[j]? = some x) : (p.use j x).Good t (n + 1) := by
 refine ⟨h.room1, h.room6, h.hz, h.hl, h.ws, h.wn, by show ((p.ents.set j _).length : Int) ≤ p.room; rw [List.length_set]; exact h.el, fun y hy => ?_, h.fl, h.fs, Nat.succ_le_succ h.us, fun hu => ?_⟩
 · rcases List.mem_or_eq_of_mem_set hy with hy | rfl
   · exact h.es y hy
   · exact h.es x (List.mem_of_getElem? hx)
 · have := (h.dn hu).1
   rw [this] at hx; cases hx
theorem EntOk.merged {x p : EntE} {t : Nat} (hx : EntOk x t) (hp : EntOk p t) (hf : x.fr = p.fr) : EntOk (mergedE x p) t := by
 refine ⟨hx.q40, ?_, ?_, fun ho => ?_, fun ho => ?_⟩
 · have := hx.kn; have := hp.kn; show max x.kn p.kn ≤ t; omega
 · show (if x.op && !p.op then p.till else x.till) ≤ t
   split
   · exact hp.till
   · exact hx.till
 · have ho' : (x.op && p.op) = false := ho
   show x.fr < (if x.op && !p.op then p.till else x.till)
   cases h1 : x.op with
   | false => simp; exact hx.cl h1
   | true =>
    rw [h1] at ho'
    have h2 : p.op = false := by simpa using ho'
    rw [h2]
    simp
    rw [hf]
    exact hp.cl h2
 · have ho' : (x.op && p.op) = true := ho
   have h1 : x.op = true := by cases h1 : x.op with
    | true => rfl
    | false => rw [h1] at ho'; cases ho'
   have := hx.opn h1
   show x.fr ≤ max x.kn p.kn
   omega
theorem NodeP.Good.merge {p : NodeP} {t n j : Nat} {x : HeldE} {e : EntE} (h : p.Good t n) (hx : p.ents[j]? = some x) (he : EntOk e t) (hf : x.e.fr = e.fr) : (p.merge j x e).Good t n := by
 refine ⟨h.room1, h.room6, h.hz, h.hl, h.ws, h.wn, by show ((p.ents.set j _).length : Int) ≤ p.room; rw [List.length_set]; exact h.el, fun y hy => ?_, h.fl, h.fs, h.us, fun hu => ?_⟩
 · rcases List.mem_or_eq_of_mem_set hy with hy | rfl
   · exact h.es y hy
   · exact (h.es x (List.mem_of_getElem? hx)).merged he hf
 · have := (h.dn hu).1
   rw [this] at hx; cases hx
theorem NodeP.Good.lay0 {p : NodeP} {t n : Nat} {e : EntE} (h : p.Good t n) (he : EntOk e t) (hup : p.up = true) (hl : (p.ents.length : Int) < p.room) : (p.lay0 e).Good t (n + 1) := by
 refine ⟨h.room1, h.room6, h.hz, h.hl, h.ws, h.wn, by show ((p.ents ++ [_]).length : Int) ≤ p.room; simp; omega, fun y hy => ?_, h.fl, h.fs, Nat.succ_le_succ h.us, fun hu => by have hu' : p.up = false := hu; rw [hup] at hu'; cases hu'⟩
 have hy' : y ∈ p.ents ++ [⟨e, p.uses + 1⟩] := hy
 rw [List.mem_append, List.mem_singleton] at hy'
 rcases hy' with hy' | rfl
 · exact h.es y hy'
 · exact he
theorem NodeP.Good.lay {p : NodeP} {t n : Nat} {e : EntE} (h : p.Good t n) (he : EntOk e t) (hup : p.up = true) : (p.lay e).Good t (n + 1) := by
 unfold NodeP.lay
 split
 · rename_i hf
   have hpos : 0 < p.ents.length := by have := h.room1; omega
   have hlt : leastD p.ents p.ents.length < p.ents.length := by rcases leastD_lt p.ents p.ents.length with h1 | h1 <;> omega
   refine (h.remove _).lay0 he hup ?_
   show ((p.ents.eraseIdx _).length : Int) < p.room
   rw [List.length_eraseIdx_of_lt hlt]
   have := h.el
   omega
 · rename_i hf
   exact h.lay0 he hup (by omega)
theorem caughtGo_ok {l : List (Nat × Int)} {K : Int} {t : Nat} : ∀ (m s : Nat) (e y : EntE), NodeP.caughtGo l K m s e = some y → EntOk e t → (e.op = true → e.kn < s) → s + m ≤ t + 1 → EntOk y t ∧ y.q = e.q ∧ y.fr = e.fr ∧ y.kn = e.kn
 | 0, s, e, y, h, he, _, _ => by
  simp only [NodeP.caughtGo, Option.some.injEq] at h
  subst h
  exact ⟨he, rfl, rfl, rfl⟩
 | m + 1, s, e, y, h, he, hk, hm => by
  simp only [NodeP.caughtGo] at h
  cases hw : wroteL l s with
  | none => rw [hw] at h; cases h
  | some k =>
   rw [hw] at h
   dsimp only at h
   split at h
   · rename_i hc
     have h1 : EntOk ({ e with op := false, till := s } : EntE) t := ⟨he.q40, he.kn, by show s ≤ t; omega, fun _ => by have := he.opn hc.1; have := hk hc.1; show e.fr < s; omega, fun ho => by cases ho⟩
     obtain ⟨r1, r2, r3, r4⟩ := caughtGo_ok m (s + 1) _ y h h1 (fun ho => by cases ho) (by omega)
     exact ⟨r1, r2, r3, r4⟩
   · exact caughtGo_ok m (s + 1) e y h he (fun ho => by have := hk ho; omega) (by omega)
theorem NodeP.Good.caught {p : NodeP} {t n : Nat} {e y : EntE} (h : p.Good t n) (he : EntOk e t) (hc : p.caught e = some y) : EntOk y t ∧ y.q = e.q ∧ y.fr = e.fr := by
 unfold NodeP.caught at hc
 split at hc
 · injection hc with hc; subst hc; exact ⟨he, rfl, rfl⟩
 · rename_i h1
   have hlt : e.kn < p.horizon := by have := mt Or.inr h1; omega
   cases hg : NodeP.caughtGo p.hists (keysQ e.q) (p.horizon - e.kn) (e.kn + 1) e with
   | none => rw [hg] at hc; cases hc
   | some z =>
    rw [hg] at hc
    simp only [Option.map_some, Option.some.injEq] at hc
    have hz := h.hz
    obtain ⟨r1, r2, r3, r4⟩ := caughtGo_ok _ _ e z hg he (fun _ => by omega) (by omega)
    subst hc
    split
    · rename_i ho
      refine ⟨⟨r1.q40, hz, r1.till, fun e1 => ?_, fun _ => ?_⟩, r2, r3⟩
      · have e2 : z.op = false := e1
        rw [ho] at e2; cases e2
      · have := r1.opn ho
        show z.fr ≤ p.horizon
        omega
    · exact ⟨r1, r2, r3⟩
theorem NodeP.Good.store {p : NodeP} {t n : Nat} {e : EntE} (h : p.Good t n) (he : EntOk e t) : (p.store e).1.Good t (n + 1) := by
 unfold NodeP.store
 split
 · exact h.more (Nat.le_refl _) (Nat.le_succ _)
 · rename_i hup
   have hup' : p.up = true := by cases hu : p.up with
    | true => rfl
    | false => exact absurd hu hup
   cases hc : p.caught e with
   | none => exact h.more (Nat.le_refl _) (Nat.le_succ _)
   | some y =>
    dsimp only
    have hy := h.caught he hc
    cases hs : p.sameI y with
    | none => exact h.lay hy.1 hup'
    | some j =>
     dsimp only
     cases hx : p.ents[j]? with
     | none => exact h.more (Nat.le_refl _) (Nat.le_succ _)
     | some x =>
      dsimp only
      have hsm : sameE x.e y := by
       unfold NodeP.sameI at hs
       rw [List.findIdx?_eq_some_iff_getElem] at hs
       obtain ⟨hj, h1, _⟩ := hs
       rw [List.getElem?_eq_getElem hj] at hx
       injection hx with hx
       subst hx
       simpa using h1
      refine (h.merge hx hy.1 hsm.2).use ?_
      show (p.ents.set j _)[j]? = _
      rw [List.getElem?_set_self (List.getElem?_eq_some_iff.mp hx).1]
end Go.Proofs.YtpfcacedpkaihaaGreat
