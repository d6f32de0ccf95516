import Derived.Test.YtpfcacedpkaihaaGreatC5
import Derived.Test.YtpfcacedpkaihaaGreatC4
namespace Go.Proofs.YtpfcacedpkaihaaGreat
open Go.RowKit
set_option maxRecDepth 100000
set_option maxHeartbeats 16000000
structure EntOk (e : EntE) (top : Nat) : Prop where
 q40 : e.q.size ≤ 40
 kn : e.kn ≤ top
 till : e.till ≤ top
 cl : e.op = false → e.fr < e.till
 opn : e.op = true → e.fr ≤ e.kn
theorem EntOk.more {e : EntE} {t t' : Nat} (h : EntOk e t) (ht : t ≤ t') : EntOk e t' := ⟨h.q40, Nat.le_trans h.kn ht, Nat.le_trans h.till ht, h.cl, h.opn⟩
theorem EntOk.last {e : EntE} {t : Nat} (h : EntOk e t) (hz : Nat) : e.fr ≤ lastE e hz := by
 unfold lastE
 cases ho : e.op with
 | true => have := h.opn ho; simp; omega
 | false => have := h.cl ho; simp; omega
theorem EntOk.fit {e : EntE} {t : Nat} (h : EntOk e t) (ht : t ≤ 700) : e.Fit := ⟨fun ho => by have := h.cl ho; omega, by have := h.till; omega, by have := h.kn; omega⟩
structure NodeP.Good (p : NodeP) (top n : Nat) : Prop where
 room1 : 1 ≤ p.room
 room6 : p.room ≤ 6
 hz : p.horizon ≤ top
 hl : p.hists.length ≤ 6
 ws : ∀ c ∈ p.waits, p.horizon + 1 < c.1 ∧ c.1 ≤ p.horizon + 5 ∧ c.1 ≤ top
 wn : (p.waits.map (·.1)).Nodup
 el : (p.ents.length : Int) ≤ p.room
 es : ∀ x ∈ p.ents, EntOk x.e top
 fl : p.flight.length ≤ 12
 fs : ∀ c ∈ p.flight, c.1 ≤ top
 us : p.uses ≤ n
 dn : p.up = false → p.ents = [] ∧ p.waits = [] ∧ p.horizon = 0
theorem nodup_range : ∀ (n a : Nat) (l : List Nat), l.Nodup → (∀ x ∈ l, a ≤ x ∧ x < a + n) → l.length ≤ n
 | 0, a, l, _, h => by
  cases l with
  | nil => simp
  | cons x r => have := h x (List.mem_cons_self ..); omega
 | n + 1, a, l, hn, h => by
  have h1 : (l.erase (a + n)).length ≤ n := by
   refine nodup_range n a _ (hn.erase _) fun x hx => ?_
   have hx' := (List.Nodup.mem_erase_iff hn).mp hx
   have := h x hx'.2
   have := hx'.1
   omega
  have h2 : l.length ≤ (l.erase (a + n)).length + 1 := by
   by_cases hm : a + n ∈ l
   · rw [List.length_erase_of_mem hm]; omega
   · rw [List.erase_of_not_mem hm]; omega
  omega
theorem NodeP.Good.wl {p : NodeP} {top n : Nat} (h : p.Good top n) : p.waits.length ≤ 4 := by
 have := nodup_range 4 (p.horizon + 2) (p.waits.map (·.1)) h.wn fun x hx => by
  obtain ⟨c, hc, rfl⟩ := List.mem_map.mp hx
  have := h.ws c hc
  omega
 simpa using this
theorem NodeP.Good.walk {p : NodeP} {top n : Nat} (h : p.Good top n) (ht : top ≤ 700) (hn : n < 9223372036854775807) : p.Walk := by
 have h1 := h.hz
 have h2 := h.hl
 have h3 := h.wl
 have h4 := h.el
 have h5 := h.room6
 have h6 := h.fl
 have h7 := h.us
 have h8 := h.room1
 refine ⟨⟨by omega, h2, by omega, by omega, fun x hx => ?_⟩, by omega, h8, by omega, by omega, by omega, fun c hc => ?_, fun x hx => ⟨(h.es x hx).fit ht, (h.es x hx).last _⟩⟩
 · have := (h.es x hx).q40; unfold maxLen; omega
 · have := h.fs c hc; omega
theorem NodeP.Good.more {p : NodeP} {t t' n n' : Nat} (h : p.Good t n) (ht : t ≤ t') (hn : n ≤ n') : p.Good t' n' :=
 ⟨h.room1, h.room6, Nat.le_trans h.hz ht, h.hl, fun c hc => ⟨(h.ws c hc).1, (h.ws c hc).2.1, Nat.le_trans (h.ws c hc).2.2 ht⟩, h.wn, h.el, fun x hx => (h.es x hx).more ht, h.fl, fun c hc => Nat.le_trans (h.fs c hc) ht, Nat.le_trans h.us hn, h.dn⟩
theorem NodeP.Good.remove {p : NodeP} {t n : Nat} (h : p.Good t n) (i : Nat) : (p.remove i).Good t n := by
 have hle := List.length_eraseIdx_le p.ents i
 refine ⟨h.room1, h.room6, h.hz, h.hl, h.ws, h.wn, ?_, fun x hx => h.es x (List.mem_of_mem_eraseIdx hx), h.fl, h.fs, h.us, fun hu => ⟨?_, (h.dn hu).2⟩⟩
 · have := h.el; show ((p.ents.eraseIdx i).length : Int) ≤ p.room; omega
 · show p.ents.eraseIdx i = []; rw [(h.dn hu).1]; rfl
theorem NodeP.Good.bare {p : NodeP} {t n : Nat} (h : p.Good t n) (u : Bool) (z : Nat) (hz : z ≤ t) (hu : u = false → z = 0) (l : List (Nat × Int)) (hl : l.length ≤ 12) (hs : ∀ c ∈ l, c.1 ≤ t) : (⟨u, p.room, z, [], [], [], 0, l⟩ : NodeP).Good t n :=
 ⟨h.room1, h.room6, hz, by simp, fun c hc => (by cases hc), by simp, by have := h.room1; simp; omega, fun x hx => (by cases hx), hl, hs, Nat.zero_le _, fun hu' => ⟨rfl, rfl, hu hu'⟩⟩
theorem NodeP.Good.fell {p : NodeP} {t n : Nat} (h : p.Good t n) : p.fall.clear.Good t n := h.bare false 0 (Nat.zero_le _) (fun _ => rfl) [] (by simp) (fun c hc => (by cases hc))
theorem NodeP.Good.age {p : NodeP} {t n : Nat} (h : p.Good t n) (s : Nat) : (p.age s).Good t n := by
 have hle := List.length_filter_le (fun c : Nat × Int => decide (s < c.1 + 100)) p.flight
 refine ⟨h.room1, h.room6, h.hz, h.hl, h.ws, h.wn, h.el, h.es, ?_, fun c hc => h.fs c (List.mem_filter.mp hc).1, h.us, h.dn⟩
 have := h.fl; show (p.flight.filter _).length ≤ 12; omega
theorem NodeP.Good.send {p : NodeP} {t n : Nat} (h : p.Good t n) (c : Nat × Int) (hc : c.1 ≤ t) : (p.send c).Good t n := by
 unfold NodeP.send
 split
 · exact h
 · rename_i h12
  refine ⟨h.room1, h.room6, h.hz, h.hl, h.ws, h.wn, h.el, h.es, ?_, fun x hx => ?_, h.us, h.dn⟩
  · show (p.flight ++ [c]).length ≤ 12; simp; omega
  · have hx' : x ∈ p.flight ++ [c] := hx
   rw [List.mem_append, List.mem_singleton] at hx'
   rcases hx' with hx' | rfl
   · exact h.fs x hx'
   · exact hc
theorem NodeP.Good.tell {p : NodeP} {t n : Nat} (h : p.Good t n) (K : Int) : (p.tell (t + 1) K).Good (t + 1) n := by
 unfold NodeP.tell
 have h1 := (h.more (Nat.le_succ t) (Nat.le_refl n)).age (t + 1)
 split
 · exact h1.fell.send _ (Nat.le_refl _)
 · exact h1.send _ (Nat.le_refl _)
theorem NodeP.Good.use {p : NodeP} {t n j : Nat} {x : HeldE} (h : p.Good t n) (hx : p.ents[j]? = some x) : (p.use j x).Good t (n + 1) := by
 refine ⟨h.room1, h.room6, h.hz, h.hl, h.ws, h.wn, by show ((p.ents.set j _).length : Int) ≤ p.room; rw [List.length_set]; exact h.el, fun y hy => ?_, h.fl, h.fs, Nat.succ_le_succ h.us, fun hu => ?_⟩
 · rcases List.mem_or_eq_of_mem_set hy with hy | rfl
  · exact h.es y hy
  · exact h.es x (List.mem_of_getElem? hx)
 · have := (h.dn hu).1
  rw [this] at hx; cases hx
theorem EntOk.merged {x p : EntE} {t : Nat} (hx : EntOk x t) (hp : EntOk p t) (hf : x.fr = p.fr) : EntOk (mergedE x p) t := by
 refine ⟨hx.q40, ?_, ?_, fun ho => ?_, fun ho => ?_⟩
 · have := hx.kn; have := hp.kn; show max x.kn p.kn ≤ t; omega
 · show (if x.op && !p.op then p.till else x.till) ≤ t
  split
  · exact hp.till
  · exact hx.till
 · have ho' : (x.op && p.op) = false := ho
  show x.fr < (if x.op && !p.op then p.till else x.till)
  cases h1 : x.op with
  | false => simp; exact hx.cl h1
  | true =>
   rw [h1] at ho'
   have h2 : p.op = false := by simpa using ho'
   rw [h2]
   simp
   rw [hf]
   exact hp.cl h2
 · have ho' : (x.op && p.op) = true := ho
  have h1 : x.op = true := by cases h1 : x.op with
   | true => rfl
   | false => rw [h1] at ho'; cases ho'
  have := hx.opn h1
  show x.fr ≤ max x.kn p.kn
  omega
theorem NodeP.Good.merge {p : NodeP} {t n j : Nat} {x : HeldE} {e : EntE} (h : p.Good t n) (hx : p.ents[j]? = some x) (he : EntOk e t) (hf : x.e.fr = e.fr) : (p.merge j x e).Good t n := by
 refine ⟨h.room1, h.room6, h.hz, h.hl, h.ws, h.wn, by show ((p.ents.set j _).length : Int) ≤ p.room; rw [List.length_set]; exact h.el, fun y hy => ?_, h.fl, h.fs, h.us, fun hu => ?_⟩
 · rcases List.mem_or_eq_of_mem_set hy with hy | rfl
  · exact h.es y hy
  · exact (h.es x (List.mem_of_getElem? hx)).merged he hf
 · have := (h.dn hu).1
  rw [this] at hx; cases hx
theorem NodeP.Good.lay0 {p : NodeP} {t n : Nat} {e : EntE} (h : p.Good t n) (he : EntOk e t) (hup : p.up = true) (hl : (p.ents.length : Int) < p.room) : (p.lay0 e).Good t (n + 1) := by
 refine ⟨h.room1, h.room6, h.hz, h.hl, h.ws, h.wn, by show ((p.ents ++ [_]).length : Int) ≤ p.room; simp; omega, fun y hy => ?_, h.fl, h.fs, Nat.succ_le_succ h.us, fun hu => by have hu' : p.up = false := hu; rw [hup] at hu'; cases hu'⟩
 have hy' : y ∈ p.ents ++ [⟨e, p.uses + 1⟩] := hy
 rw [List.mem_append, List.mem_singleton] at hy'
 rcases hy' with hy' | rfl
 · exact h.es y hy'
 · exact he
theorem NodeP.Good.lay {p : NodeP} {t n : Nat} {e : EntE} (h : p.Good t n) (he : EntOk e t) (hup : p.up = true) : (p.lay e).Good t (n + 1) := by
 unfold NodeP.lay
 split
 · rename_i hf
  have hpos : 0 < p.ents.length := by have := h.room1; omega
  have hlt : leastD p.ents p.ents.length < p.ents.length := by rcases leastD_lt p.ents p.ents.length with h1 | h1 <;> omega
  refine (h.remove _).lay0 he hup ?_
  show ((p.ents.eraseIdx _).length : Int) < p.room
  rw [List.length_eraseIdx_of_lt hlt]
  have := h.el
  omega
 · rename_i hf
  exact h.lay0 he hup (by omega)
theorem caughtGo_ok {l : List (Nat × Int)} {K : Int} {t : Nat} : ∀ (m s : Nat) (e y : EntE), NodeP.caughtGo l K m s e = some y → EntOk e t → (e.op = true → e.kn < s) → s + m ≤ t + 1 → EntOk y t ∧ y.q = e.q ∧ y.fr = e.fr ∧ y.kn = e.kn
 | 0, s, e, y, h, he, _, _ => by
  simp only [NodeP.caughtGo, Option.some.injEq] at h
  subst h
  exact ⟨he, rfl, rfl, rfl⟩
 | m + 1, s, e, y, h, he, hk, hm => by
  simp only [NodeP.caughtGo] at h
  cases hw : wroteL l s with
  | none => rw [hw] at h; cases h
  | some k =>
   rw [hw] at h
   dsimp only at h
   split at h
   · rename_i hc
    have h1 : EntOk ({ e with op := false, till := s } : EntE) t := ⟨he.q40, he.kn, by show s ≤ t; omega, fun _ => by have := he.opn hc.1; have := hk hc.1; show e.fr < s; omega, fun ho => by cases ho⟩
    obtain ⟨r1, r2, r3, r4⟩ := caughtGo_ok m (s + 1) _ y h h1 (fun ho => by cases ho) (by omega)
    exact ⟨r1, r2, r3, r4⟩
   · exact caughtGo_ok m (s + 1) e y h he (fun ho => by have := hk ho; omega) (by omega)
theorem NodeP.Good.caught {p : NodeP} {t n : Nat} {e y : EntE} (h : p.Good t n) (he : EntOk e t) (hc : p.caught e = some y) : EntOk y t ∧ y.q = e.q ∧ y.fr = e.fr := by
 unfold NodeP.caught at hc
 split at hc
 · injection hc with hc; subst hc; exact ⟨he, rfl, rfl⟩
 · rename_i h1
  have hlt : e.kn < p.horizon := by have := mt Or.inr h1; omega
  cases hg : NodeP.caughtGo p.hists (keysQ e.q) (p.horizon - e.kn) (e.kn + 1) e with
  | none => rw [hg] at hc; cases hc
  | some z =>
   rw [hg] at hc
   simp only [Option.map_some, Option.some.injEq] at hc
   have hz := h.hz
   obtain ⟨r1, r2, r3, r4⟩ := caughtGo_ok _ _ e z hg he (fun _ => by omega) (by omega)
   subst hc
   split
   · rename_i ho
    refine ⟨⟨r1.q40, hz, r1.till, fun e1 => ?_, fun _ => ?_⟩, r2, r3⟩
    · have e2 : z.op = false := e1
     rw [ho] at e2; cases e2
    · have := r1.opn ho
     show z.fr ≤ p.horizon
     omega
   · exact ⟨r1, r2, r3⟩
theorem NodeP.Good.store {p : NodeP} {t n : Nat} {e : EntE} (h : p.Good t n) (he : EntOk e t) : (p.store e).1.Good t (n + 1) := by
 unfold NodeP.store
 split
 · exact h.more (Nat.le_refl _) (Nat.le_succ _)
 · rename_i hup
  have hup' : p.up = true := by cases hu : p.up with
   | true => rfl
   | false => exact absurd hu hup
  cases hc : p.caught e with
  | none => exact h.more (Nat.le_refl _) (Nat.le_succ _)
  | some y =>
   dsimp only
   have hy := h.caught he hc
   cases hs : p.sameI y with
   | none => exact h.lay hy.1 hup'
   | some j =>
    dsimp only
    cases hx : p.ents[j]? with
    | none => exact h.more (Nat.le_refl _) (Nat.le_succ _)
    | some x =>
     dsimp only
     have hsm : sameE x.e y := by
      unfold NodeP.sameI at hs
      rw [List.findIdx?_eq_some_iff_getElem] at hs
      obtain ⟨hj, h1, _⟩ := hs
      rw [List.getElem?_eq_getElem hj] at hx
      injection hx with hx
      subst hx
      simpa using h1
     refine (h.merge hx hy.1 hsm.2).use ?_
     show (p.ents.set j _)[j]? = _
     rw [List.getElem?_set_self (List.getElem?_eq_some_iff.mp hx).1]
theorem Dev.c0 {w : World} {b : Nat} {D : DevS} (h : Dev w b D) : w.cell? ⟨b, 0, none⟩ = some (.int .i64 D.clock) := h.blk.cell 0
theorem Dev.c1 {w : World} {b : Nat} {D : DevS} (h : Dev w b D) : w.cell? ⟨b, 1, none⟩ = some D.vc := h.blk.cell 1
theorem Dev.c2 {w : World} {b : Nat} {D : DevS} (h : Dev w b D) : w.cell? ⟨b, 2, none⟩ = some (.int .i64 (D.begun : Int)) := h.blk.cell 2
theorem dnewest_c (w : World) (b : Nat) (ao : Option Addr) (n cap : Nat) (c1 : w.cell? ⟨b, 1, none⟩ = some (.slice ao n cap)) (hm : n ≤ 700) :
  Calls Tryz.prog 80 #[.pointer (some ⟨b, 0, none⟩)] w fun e w' => e = .returned (.int .u64 (n : Int)) ∧ w = w' := by
 go_enter Tryz.func80, Tryz.ntmps80
 go_wp2
 go_ret
 exact ⟨rt_int (by omega), rfl⟩
theorem dnewest (w : World) (b : Nat) (D : DevS) (h : Dev w b D) (hf : D.Fit) :
  Calls Tryz.prog 80 #[.pointer (some ⟨b, 0, none⟩)] w fun e w' => e = .returned (.int .u64 (D.past.length : Int)) ∧ w = w' := by
 obtain ⟨ao, cap, hv, _⟩ := h.past.form
 exact dnewest_c w b ao _ cap (by rw [h.c1, hv]) hf.pmax
theorem dclock_c (w : World) (b : Nat) (k : Int) (c0 : w.cell? ⟨b, 0, none⟩ = some (.int .i64 k)) :
  Calls Tryz.prog 81 #[.pointer (some ⟨b, 0, none⟩)] w fun e w' => e = .returned (.int .i64 k) ∧ w = w' := by
 go_enter Tryz.func81, Tryz.ntmps81
 go_wp2
 go_ret
 exact ⟨rfl, rfl⟩
def DTickPost (w : World) (b : Nat) (D : DevS) (e : Ending) (w' : World) : Prop :=
 (D.clock = 100000 ∧ e = .returned (.int .i64 6) ∧ w = w') ∨ (D.clock < 100000 ∧ e = .returned (.int .i64 0) ∧ Dev w' b { D with clock := D.clock + 1 } ∧ Kept (D.fp b) w w')
theorem dtick0 (w : World) (b : Nat) (D : DevS) (h : Dev w b D) (hf : D.Fit) :
  Calls Tryz.prog 79 #[.pointer (some ⟨b, 0, none⟩)] w fun e w' => DTickPost w b D e w' := by
 have c0 := h.c0
 have f0 := h.blk.free 0
 have hm0 := hf.clk0
 have hm1 := hf.clk1
 by_cases hc : D.clock < 100000
 · have HR : Hid (Dev w b D) := h
  clear h hf
  go_enter Tryz.func79, Tryz.ntmps79
  go_wp2
  go_ret
  exact .inr ⟨hc, rfl, HR.out.setOwn 0 _ rfl (by simp [DevS.cells]), (Kept.setCell _ _ _).mono fun k hk => .inl hk⟩
 · clear h hf
  go_enter Tryz.func79, Tryz.ntmps79
  go_wp2
  go_ret
  exact .inl ⟨by omega, rfl, rfl⟩
def stAt (l : List PastE) (t : Nat) : Nat → Int := if t = 0 then fun _ => 0 else (l[t - 1]?.map PastE.st).getD fun _ => 0
def stC (s : Nat → Int) : Array Value := #[.int .i32 (s 0), .int .i32 (s 1), .int .i32 (s 2), .int .i32 (s 3), .int .i32 (s 4), .int .i32 (s 5), .int .i32 (s 6), .int .i32 (s 7)]
theorem dat (w : World) (b : Nat) (D : DevS) (t : Nat) (h : Dev w b D) (hf : D.Fit) (ht : t ≤ D.past.length) :
  Calls Tryz.prog 128 #[.pointer (some ⟨b, 0, none⟩), .int .u64 t] w fun e w' => e = .returned (.agg (stC (stAt D.past t))) ∧ Kept (fun _ => False) w w' := by
 have hm := hf.pmax
 by_cases h0 : t = 0
 · subst h0
  go_enter Tryz.func128, Tryz.ntmps128
  go_wp2
  refine bodyPost_ret (v := .agg (stC (stAt D.past 0))) (by simp [results, Tryz.results128, go_sem, stC, stAt]) rfl ⟨rfl, ?_⟩
  trace_state
  exact (Kept.alloc _ _ _).trans (Kept.refl _ _) (fun _ => id) (fun _ _ => id)
 · obtain ⟨j, rfl⟩ : ∃ j, t = j + 1 := ⟨t - 1, by omega⟩
  have hlt : j < D.past.length := by omega
  obtain ⟨g, cap, hv, ho, hgl⟩ := h.past.block (by omega)
  have c1 := h.c1
  rw [hv] at c1
  have hbl := h.blk.lt
  have hb : (((j + 1 : Nat) : Int) == 0) = false := beq_eq_false_iff_ne.mpr (by omega)
  obtain ⟨p, hp⟩ : ∃ p, p = D.past[j] := ⟨_, rfl⟩
  have HS : ∀ f (hf : f < 10), w.cell? ⟨g, j * 10 + f, none⟩ = (pastC p)[f]? := by
   intro f hf
   have e := past_at D.past j hlt f hf
   rw [← hp] at e
   obtain ⟨u, hu⟩ : ∃ u, (pastC p)[f]? = some u := ⟨(pastC p)[f]'(by simpa [pastC] using hf), List.getElem?_eq_getElem _⟩
   rw [hu]
   exact h.past.cell ho _ u (e.trans hu)
  have s0 : w.cell? ⟨g, j * 10, none⟩ = some (.int .i32 (p.st 0)) := HS 0 (by omega)
  have s1 : w.cell? ⟨g, j * 10 + 1, none⟩ = some (.int .i32 (p.st 1)) := HS 1 (by omega)
  have s2 : w.cell? ⟨g, j * 10 + 2, none⟩ = some (.int .i32 (p.st 2)) := HS 2 (by omega)
  have s3 : w.cell? ⟨g, j * 10 + 3, none⟩ = some (.int .i32 (p.st 3)) := HS 3 (by omega)
  have s4 : w.cell? ⟨g, j * 10 + 4, none⟩ = some (.int .i32 (p.st 4)) := HS 4 (by omega)
  have s5 : w.cell? ⟨g, j * 10 + 5, none⟩ = some (.int .i32 (p.st 5)) := HS 5 (by omega)
  have s6 : w.cell? ⟨g, j * 10 + 6, none⟩ = some (.int .i32 (p.st 6)) := HS 6 (by omega)
  have s7 : w.cell? ⟨g, j * 10 + 7, none⟩ = some (.int .i32 (p.st 7)) := HS 7 (by omega)
  have HST : Hid (stAt D.past (j + 1) = p.st) := by simp [Hid, stAt, List.getElem?_eq_getElem hlt, hp]
  have HN : Hid (∀ W : World, W.cell? ⟨b, 1, none⟩ = some (.slice (some ⟨g, 0, none⟩) D.past.length cap) → Calls Tryz.prog 80 #[.pointer (some ⟨b, 0, none⟩)] W fun e w' => e = .returned (.int .u64 (D.past.length : Int)) ∧ W = w') := fun W hW => dnewest_c W b _ _ _ hW hm
  have n1 : ∀ o, (w.alloc o).cell? ⟨b, 1, none⟩ = some (.slice (some ⟨g, 0, none⟩) D.past.length cap) := fun o => (World.cell?_alloc_past o b 1 hbl).trans c1
  clear HS h hf hv ho hp
  go_enter Tryz.func128, Tryz.ntmps128
  go_wp2_with (go_at_call 80; refine (HN.out _ (n1 _)).mono ?_; rintro e w' ⟨rfl, rfl⟩)
  refine bodyPost_ret (v := .agg (stC p.st)) (by simp [results, Tryz.results128, go_sem, stC]) rfl ⟨by rw [HST.out], ?_⟩
  trace_state
  exact (Kept.alloc _ _ _).trans (Kept.refl _ _) (fun _ => id) (fun _ _ => id)
def First (l : List PastE) (tick : Int) (j : Nat) : Prop := j ≤ l.length ∧ (∀ i (h : i < l.length), i < j → l[i].tick < tick) ∧ ∀ (h : j < l.length), tick ≤ l[j].tick
def SincePost (w : World) (D : DevS) (tick : Int) (e : Ending) (w' : World) : Prop := ∃ j, First D.past tick j ∧ e = .returned (.int .u64 (j : Int)) ∧ Kept (fun _ => False) w w'
theorem dsince (w : World) (b : Nat) (D : DevS) (tick : Int) (h : Dev w b D) (hf : D.Fit) :
  Calls Tryz.prog 82 #[.pointer (some ⟨b, 0, none⟩), .int .i64 tick] w fun e w' => SincePost w D tick e w' := by
 have hm := hf.pmax
 obtain ⟨ao, cap, hv, hno⟩ := h.past.form
 have c1 := h.c1
 rw [hv] at c1
 have HC : Hid (w.cell? ⟨b, 1, none⟩ = some (.slice ao D.past.length cap)) := c1
 have HCELL : Hid (∀ k (hk : k < D.past.length), ∃ g, ao = some ⟨g, 0, none⟩ ∧ ∀ f, f < 10 → w.cell? ⟨g, k * 10 + f, none⟩ = (pastC D.past[k])[f]?) := by
  intro k hk
  obtain ⟨g, cap', hv', ho, _⟩ := h.past.block (by omega)
  rw [hv] at hv'
  injection hv' with e1 _ _
  refine ⟨g, e1, fun f hf => ?_⟩
  have e := past_at D.past k hk f hf
  obtain ⟨u, hu⟩ : ∃ u, (pastC D.past[k])[f]? = some u := ⟨(pastC D.past[k])[f]'(by simpa [pastC] using hf), List.getElem?_eq_getElem _⟩
  rw [hu]
  exact h.past.cell ho _ u (e.trans hu)
 clear h hf hv hno
 go_enter Tryz.func82, Tryz.ntmps82
 go_wp2
 go_loopw [12] (fun i wr => ∃ k : Nat, k ≤ D.past.length ∧ i = .int .i64 k ∧ Hid (∀ i (h : i < D.past.length), i < k → D.past[i].tick < tick) ∧ Hid (Kept (fun _ => False) w wr)) (fun i _ => D.past.length - (intOf i).toNat)
 case atStart => exact ⟨0, Nat.zero_le _, rfl, fun i _ hi => absurd hi (Nat.not_lt_zero _), Kept.refl _ _⟩
 case round =>
  obtain ⟨k, hk, rfl, HB, HK⟩ := hrel
  by_cases hlt : k < D.past.length
  · obtain ⟨g, hg, hcell⟩ := HCELL.out k hlt
   obtain ⟨p, hp⟩ : ∃ p, p = D.past[k] := ⟨_, rfl⟩
   rw [← hp] at hcell
   have s0 : wr.cell? ⟨g, k * 10, none⟩ = some (.int .i32 (p.st 0)) := HK.out.keep id (hcell 0 (by omega))
   have s1 : wr.cell? ⟨g, k * 10 + 1, none⟩ = some (.int .i32 (p.st 1)) := HK.out.keep id (hcell 1 (by omega))
   have s2 : wr.cell? ⟨g, k * 10 + 2, none⟩ = some (.int .i32 (p.st 2)) := HK.out.keep id (hcell 2 (by omega))
   have s3 : wr.cell? ⟨g, k * 10 + 3, none⟩ = some (.int .i32 (p.st 3)) := HK.out.keep id (hcell 3 (by omega))
   have s4 : wr.cell? ⟨g, k * 10 + 4, none⟩ = some (.int .i32 (p.st 4)) := HK.out.keep id (hcell 4 (by omega))
   have s5 : wr.cell? ⟨g, k * 10 + 5, none⟩ = some (.int .i32 (p.st 5)) := HK.out.keep id (hcell 5 (by omega))
   have s6 : wr.cell? ⟨g, k * 10 + 6, none⟩ = some (.int .i32 (p.st 6)) := HK.out.keep id (hcell 6 (by omega))
   have s7 : wr.cell? ⟨g, k * 10 + 7, none⟩ = some (.int .i32 (p.st 7)) := HK.out.keep id (hcell 7 (by omega))
   have s8 : wr.cell? ⟨g, k * 10 + 8, none⟩ = some (.int .u8 p.keys) := HK.out.keep id (hcell 8 (by omega))
   have s9 : wr.cell? ⟨g, k * 10 + 9, none⟩ = some (.int .i64 p.tick) := HK.out.keep id (hcell 9 (by omega))
   have HP : Hid (p = D.past[k]) := hp
   clear hcell hp c1
   subst hg
   by_cases ht : tick ≤ p.tick
   · go_wp2
    go_ret
    refine ⟨k, ⟨hk, HB.out, fun _ => by rw [← HP.out]; exact ht⟩, rt_int (by omega), ?_⟩
    exact HK.out.trans (Kept.alloc _ _ (fun _ => False)) (fun _ => id) (fun _ _ => id)
   · go_wp2
    go_roundw
    case rel =>
     refine ⟨k + 1, by omega, by go_num, fun i hi hik => ?_, HK.out.trans (Kept.alloc _ _ (fun _ => False)) (fun _ => id) (fun _ _ => id)⟩
     by_cases e : i = k
     · subst e; rw [← HP.out]; omega
     · exact HB.out i hi (by omega)
    case measure => simp [intOf]; omega
  · have hk' : k = D.past.length := by omega
   subst hk'
   have HC2 : Hid (wr.cell? ⟨b, 1, none⟩ = some (.slice ao D.past.length cap)) := HK.out.keep id HC.out
   go_wp2_with (go_at_call 80; refine (dnewest_c _ b _ _ _ HC2.out hm).mono ?_; rintro e w' ⟨rfl, rfl⟩)
   go_ret
   exact ⟨D.past.length, ⟨Nat.le_refl _, HB.out, fun h => absurd h (Nat.lt_irrefl _)⟩, rfl, HK.out⟩
theorem stC_set {q : PastE} {kk : Nat} {y : Int} (hk : kk ≤ 7) : (stC q.st).setIfInBounds kk (.int .i32 y) = stC (writeP q ((kk : Int), y)).st := by
 have hc : kk = 0 ∨ kk = 1 ∨ kk = 2 ∨ kk = 3 ∨ kk = 4 ∨ kk = 5 ∨ kk = 6 ∨ kk = 7 := by omega
 rcases hc with rfl | rfl | rfl | rfl | rfl | rfl | rfl | rfl <;> simp [stC, writeP]
theorem stC_at {q : PastE} {kk : Nat} (hk : kk ≤ 7) : (stC q.st)[kk]? = some (.int .i32 (q.st kk)) := by
 have hc : kk = 0 ∨ kk = 1 ∨ kk = 2 ∨ kk = 3 ∨ kk = 4 ∨ kk = 5 ∨ kk = 6 ∨ kk = 7 := by omega
 rcases hc with rfl | rfl | rfl | rfl | rfl | rfl | rfl | rfl <;> rfl
def WrittenPost (w : World) (p : PastE) (ws : List (Int × Int)) (e : Ending) (w' : World) : Prop :=
 Kept (fun _ => False) w w' ∧ ((ws.all keyOk = true ∧ e = .returned (.tuple #[.agg (stC (writesP p ws).st), .int .u8 (writesP p ws).keys, .bool true])) ∨
  (ws.all keyOk = false ∧ e = .returned (.tuple #[.agg (stC fun _ => 0), .int .u8 0, .bool false])))
theorem all_bad {ws : List (Int × Int)} {k : Nat} (h : k < ws.length) (hb : keyOk ws[k] = false) : ws.all keyOk = false := by
 cases hh : ws.all keyOk with
 | false => rfl
 | true => have := List.all_eq_true.mp hh _ (List.getElem_mem h); rw [hb] at this; cases this
theorem all_take {ws : List (Int × Int)} {k : Nat} (h : k < ws.length) (ha : (ws.take k).all keyOk = true) (hb : keyOk ws[k] = true) : (ws.take (k + 1)).all keyOk = true := by
 rw [List.take_succ_eq_append_getElem h, List.all_append, ha]; simp [hb]
theorem dwritten (w : World) (p : PastE) (hp0 : p.keys = 0) (ao : Option Addr) (n cap : Nat) (ws : List (Int × Int)) (hw : Wr w ao n ws) (hn : n ≤ 8) :
  Calls Tryz.prog 127 #[.agg (stC p.st), .slice ao n cap] w fun e w' => WrittenPost w p ws e w' := by
 have HW : Hid (Wr w ao n ws) := hw
 have hl := hw.len
 have HP0 : Hid (p.keys = 0) := hp0
 clear hw hp0
 unfold stC
 go_enter Tryz.func127, Tryz.ntmps127
 go_wp2
 go_loopw [7, 12] (fun ks i wr => ∃ k : Nat, k ≤ n ∧ i = .int .i64 k ∧ ks = .int .u8 (writesP p (ws.take k)).keys ∧ Hid ((ws.take k).all keyOk = true) ∧ Hid (Kept (fun _ => False) w wr ∧ Blk wr w.heap.size 141 (stC (writesP p (ws.take k)).st) ∧ Blk wr (w.heap.size + 1) 141 (stC fun _ => 0))) (fun _ i _ => n - (intOf i).toNat)
 case atStart =>
  refine ⟨0, Nat.zero_le _, rfl, ?_, rfl, ((Kept.alloc w _ (fun _ => False)).trans (Kept.alloc _ _ (fun _ => False)) (fun _ => id) (fun _ _ => id)), ?_, ?_⟩
  · show _ = Value.int .u8 p.keys
   rw [HP0.out]
  · exact (Blk.new w _ _).kept (Kept.alloc _ _ (fun _ => False)) id
  · have := Blk.new (w.alloc (.cells (stC p.st) 141)) 141 (stC fun _ => 0)
   simp only [World.size_alloc] at this
   exact this
 case round =>
  obtain ⟨k, hkn, rfl, rfl, HA, HB2⟩ := hrel
  obtain ⟨q, hq⟩ : ∃ q, q = writesP p (ws.take k) := ⟨_, rfl⟩
  rw [← hq] at HB2 ⊢
  have HQ : Hid (q = writesP p (ws.take k)) := hq
  clear hq
  have hsz : w.heap.size + 1 < wr.heap.size := HB2.out.2.2.lt
  have hsz0 : w.heap.size < wr.heap.size := by omega
  by_cases hlt : k < n
  · have hlt' : k < ws.length := by omega
   obtain ⟨bl, off, hao, z0, z1⟩ := HW.out.cell k hlt'
   have hbl : bl < w.heap.size := World.block_lt_of_cell? w _ z0
   have c0 := HB2.out.1.keep id z0
   have c1 := HB2.out.1.keep id z1
   clear z0 z1
   obtain ⟨x, hx⟩ : ∃ x, ws[k].1 = x := ⟨_, rfl⟩
   obtain ⟨y, hy⟩ : ∃ y, ws[k].2 = y := ⟨_, rfl⟩
   rw [hx] at c0
   rw [hy] at c1
   have hbw : bl < wr.heap.size := by omega
   have hkx : keyOk ws[k] = (decide (0 ≤ x) && decide (x < 8)) := by rw [keyOk, hx]
   by_cases hx0 : x < 0
   · have hd : decide (x < 0) = true := by simpa using hx0
    have HBAD : Hid (ws.all keyOk = false) := all_bad hlt' (by rw [hkx]; simp; omega)
    have b0 : wr.cell? ⟨w.heap.size + 1, 0, none⟩ = some (.int .i32 0) := HB2.out.2.2.cell 0
    have g0 := HB2.out.2.2.free 0
    have b1 : wr.cell? ⟨w.heap.size + 1, 1, none⟩ = some (.int .i32 0) := HB2.out.2.2.cell 1
    have g1 := HB2.out.2.2.free 1
    have b2 : wr.cell? ⟨w.heap.size + 1, 2, none⟩ = some (.int .i32 0) := HB2.out.2.2.cell 2
    have g2 := HB2.out.2.2.free 2
    have b3 : wr.cell? ⟨w.heap.size + 1, 3, none⟩ = some (.int .i32 0) := HB2.out.2.2.cell 3
    have g3 := HB2.out.2.2.free 3
    have b4 : wr.cell? ⟨w.heap.size + 1, 4, none⟩ = some (.int .i32 0) := HB2.out.2.2.cell 4
    have g4 := HB2.out.2.2.free 4
    have b5 : wr.cell? ⟨w.heap.size + 1, 5, none⟩ = some (.int .i32 0) := HB2.out.2.2.cell 5
    have g5 := HB2.out.2.2.free 5
    have b6 : wr.cell? ⟨w.heap.size + 1, 6, none⟩ = some (.int .i32 0) := HB2.out.2.2.cell 6
    have g6 := HB2.out.2.2.free 6
    have b7 : wr.cell? ⟨w.heap.size + 1, 7, none⟩ = some (.int .i32 0) := HB2.out.2.2.cell 7
    have g7 := HB2.out.2.2.free 7
    subst hao
    clear hkx hx hy
    go_wp2
    refine bodyPost_ret (v := .tuple #[.agg (stC fun _ => 0), .int .u8 0, .bool false]) (by simp [results, Tryz.results127, go_sem, stC, *]) rfl ⟨?_, .inr ⟨HBAD.out, rfl⟩⟩
    exact ((((((((HB2.out.1.setNew _ 0 _ (Nat.le_succ _)).setNew _ 1 _ (Nat.le_succ _)).setNew _ 2 _ (Nat.le_succ _)).setNew _ 3 _ (Nat.le_succ _)).setNew _ 4 _ (Nat.le_succ _)).setNew _ 5 _ (Nat.le_succ _)).setNew _ 6 _ (Nat.le_succ _)).setNew _ 7 _ (Nat.le_succ _)).allocNew _
   · by_cases hx8 : 8 ≤ x
    · have hd : decide (x < 0) = false := by simpa using hx0
     have HBAD : Hid (ws.all keyOk = false) := all_bad hlt' (by rw [hkx]; simp; omega)
     have b0 : wr.cell? ⟨w.heap.size + 1, 0, none⟩ = some (.int .i32 0) := HB2.out.2.2.cell 0
     have g0 := HB2.out.2.2.free 0
     have b1 : wr.cell? ⟨w.heap.size + 1, 1, none⟩ = some (.int .i32 0) := HB2.out.2.2.cell 1
     have g1 := HB2.out.2.2.free 1
     have b2 : wr.cell? ⟨w.heap.size + 1, 2, none⟩ = some (.int .i32 0) := HB2.out.2.2.cell 2
     have g2 := HB2.out.2.2.free 2
     have b3 : wr.cell? ⟨w.heap.size + 1, 3, none⟩ = some (.int .i32 0) := HB2.out.2.2.cell 3
     have g3 := HB2.out.2.2.free 3
     have b4 : wr.cell? ⟨w.heap.size + 1, 4, none⟩ = some (.int .i32 0) := HB2.out.2.2.cell 4
     have g4 := HB2.out.2.2.free 4
     have b5 : wr.cell? ⟨w.heap.size + 1, 5, none⟩ = some (.int .i32 0) := HB2.out.2.2.cell 5
     have g5 := HB2.out.2.2.free 5
     have b6 : wr.cell? ⟨w.heap.size + 1, 6, none⟩ = some (.int .i32 0) := HB2.out.2.2.cell 6
     have g6 := HB2.out.2.2.free 6
     have b7 : wr.cell? ⟨w.heap.size + 1, 7, none⟩ = some (.int .i32 0) := HB2.out.2.2.cell 7
     have g7 := HB2.out.2.2.free 7
     subst hao
     clear hkx hx hy
     go_wp2
     refine bodyPost_ret (v := .tuple #[.agg (stC fun _ => 0), .int .u8 0, .bool false]) (by simp [results, Tryz.results127, go_sem, stC, *]) rfl ⟨?_, .inr ⟨HBAD.out, rfl⟩⟩
     exact ((((((((HB2.out.1.setNew _ 0 _ (Nat.le_succ _)).setNew _ 1 _ (Nat.le_succ _)).setNew _ 2 _ (Nat.le_succ _)).setNew _ 3 _ (Nat.le_succ _)).setNew _ 4 _ (Nat.le_succ _)).setNew _ 5 _ (Nat.le_succ _)).setNew _ 6 _ (Nat.le_succ _)).setNew _ 7 _ (Nat.le_succ _)).allocNew _
    · have hd : decide (x < 0) = false := by simpa using hx0
     obtain ⟨kk, rfl⟩ : ∃ kk : Nat, x = kk := ⟨x.toNat, by omega⟩
     have HALL : Hid ((ws.take (k + 1)).all keyOk = true) := all_take hlt' HA.out (by rw [hkx]; simp; omega)
     have hk7 : kk ≤ 7 := by omega
     have HE : Hid (writesP p (ws.take (k + 1)) = writeP q ((kk : Int), y)) := by
      show _ = _
      rw [writesP_snoc _ ws k hlt', ← HQ.out, ← hx, ← hy]
     have d0 := HB2.out.2.1.cell kk
     rw [stC_at hk7] at d0
     have f0 := HB2.out.2.1.free kk
     subst hao
     clear hkx hx hy
     go_wp2
     go_roundw
     case rel =>
      refine ⟨k + 1, by omega, by go_num, ?_, HALL.out, ?_⟩
      · rw [HE.out]; rfl
      · rw [HE.out, ← stC_set hk7]
       refine ⟨(HB2.out.1.setNew _ _ _ (Nat.le_refl _)).allocNew _, (HB2.out.2.1.set kk _).kept (Kept.alloc _ _ (fun _ => False)) id, ?_⟩
       exact (HB2.out.2.2.kept (Kept.setCell wr ⟨w.heap.size, kk, none⟩ (.int .i32 y)) (by simp)).kept (Kept.alloc _ _ (fun _ => False)) id
     case measure => simp [intOf]; omega
  · have hk' : k = ws.length := by omega
   subst hk'
   rw [List.take_length] at HQ HA
   have b0 : wr.cell? ⟨w.heap.size + 1, 0, none⟩ = some (.int .i32 0) := HB2.out.2.2.cell 0
   have g0 := HB2.out.2.2.free 0
   have d0 : wr.cell? ⟨w.heap.size, 0, none⟩ = some (.int .i32 (q.st 0)) := HB2.out.2.1.cell 0
   have b1 : wr.cell? ⟨w.heap.size + 1, 1, none⟩ = some (.int .i32 0) := HB2.out.2.2.cell 1
   have g1 := HB2.out.2.2.free 1
   have d1 : wr.cell? ⟨w.heap.size, 1, none⟩ = some (.int .i32 (q.st 1)) := HB2.out.2.1.cell 1
   have b2 : wr.cell? ⟨w.heap.size + 1, 2, none⟩ = some (.int .i32 0) := HB2.out.2.2.cell 2
   have g2 := HB2.out.2.2.free 2
   have d2 : wr.cell? ⟨w.heap.size, 2, none⟩ = some (.int .i32 (q.st 2)) := HB2.out.2.1.cell 2
   have b3 : wr.cell? ⟨w.heap.size + 1, 3, none⟩ = some (.int .i32 0) := HB2.out.2.2.cell 3
   have g3 := HB2.out.2.2.free 3
   have d3 : wr.cell? ⟨w.heap.size, 3, none⟩ = some (.int .i32 (q.st 3)) := HB2.out.2.1.cell 3
   have b4 : wr.cell? ⟨w.heap.size + 1, 4, none⟩ = some (.int .i32 0) := HB2.out.2.2.cell 4
   have g4 := HB2.out.2.2.free 4
   have d4 : wr.cell? ⟨w.heap.size, 4, none⟩ = some (.int .i32 (q.st 4)) := HB2.out.2.1.cell 4
   have b5 : wr.cell? ⟨w.heap.size + 1, 5, none⟩ = some (.int .i32 0) := HB2.out.2.2.cell 5
   have g5 := HB2.out.2.2.free 5
   have d5 : wr.cell? ⟨w.heap.size, 5, none⟩ = some (.int .i32 (q.st 5)) := HB2.out.2.1.cell 5
   have b6 : wr.cell? ⟨w.heap.size + 1, 6, none⟩ = some (.int .i32 0) := HB2.out.2.2.cell 6
   have g6 := HB2.out.2.2.free 6
   have d6 : wr.cell? ⟨w.heap.size, 6, none⟩ = some (.int .i32 (q.st 6)) := HB2.out.2.1.cell 6
   have b7 : wr.cell? ⟨w.heap.size + 1, 7, none⟩ = some (.int .i32 0) := HB2.out.2.2.cell 7
   have g7 := HB2.out.2.2.free 7
   have d7 : wr.cell? ⟨w.heap.size, 7, none⟩ = some (.int .i32 (q.st 7)) := HB2.out.2.1.cell 7
   go_wp2
   refine bodyPost_ret (v := .tuple #[.agg (stC q.st), .int .u8 q.keys, .bool true]) (by simp [results, Tryz.results127, go_sem, stC, *]) rfl ⟨?_, .inl ⟨HA.out, by rw [HQ.out]⟩⟩
   exact ((((((((HB2.out.1.setNew _ 0 _ (Nat.le_succ _)).setNew _ 1 _ (Nat.le_succ _)).setNew _ 2 _ (Nat.le_succ _)).setNew _ 3 _ (Nat.le_succ _)).setNew _ 4 _ (Nat.le_succ _)).setNew _ 5 _ (Nat.le_succ _)).setNew _ 6 _ (Nat.le_succ _)).setNew _ 7 _ (Nat.le_succ _))
end Go.Proofs.YtpfcacedpkaihaaGreat
