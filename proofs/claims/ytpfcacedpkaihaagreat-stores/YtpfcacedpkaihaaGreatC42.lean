import Derived.Test.YtpfcacedpkaihaaGreatC41
import Derived.OrdersHeld
import Derived.Test.YtpfcacedpkaihaaGreatC0
namespace Go.Proofs.YtpfcacedpkaihaaGreat
open Go.RowKit
set_option maxRecDepth 100000
set_option maxHeartbeats 16000000
theorem flat_set_new {l : List NodeE} {k : Nat} {nd nd' : NodeE} {m : List Int} {x : Int} (hnd : l[k]? = some nd) (he : nd'.nms = m ++ [x]) (hm : m.Sublist nd.nms) : (l.flatMap (·.nms)).Nodup → (x ∉ l.flatMap (·.nms)) → ((l.set k nd').flatMap (·.nms)).Nodup ∧ ∀ a ∈ (l.set k nd').flatMap (·.nms), a ∈ l.flatMap (·.nms) ∨ a = x := by
 induction l generalizing k with
 | nil => simp at hnd
 | cons c r ih =>
  intro hn hx
  rw [List.flatMap_cons] at hn hx
  rw [List.nodup_append] at hn
  obtain ⟨h1, h2, h3⟩ := hn
  rw [List.mem_append] at hx
  match k with
  | 0 =>
   simp at hnd
   subst hnd
   rw [List.set_cons_zero, List.flatMap_cons, List.flatMap_cons, he]
   refine ⟨?_, fun a ha => ?_⟩
   · rw [List.nodup_append, List.nodup_append]
    refine ⟨⟨h1.sublist hm, by simp, fun a ha b hb e => ?_⟩, h2, fun a ha b hb e => ?_⟩
    · simp at hb
     subst hb e
     exact hx (.inl (hm.subset ha))
    · rw [List.mem_append] at ha
     rcases ha with ha | ha
     · exact h3 a (hm.subset ha) b hb e
     · simp at ha
      subst ha e
      exact hx (.inr hb)
   · rw [List.mem_append, List.mem_append] at ha
    rw [List.mem_append]
    rcases ha with (ha | ha) | ha
    · exact .inl (.inl (hm.subset ha))
    · simp at ha; exact .inr ha
    · exact .inl (.inr ha)
  | k + 1 =>
   obtain ⟨i1, i2⟩ := ih (by simpa using hnd) h2 (fun h => hx (.inr h))
   rw [List.set_cons_succ, List.flatMap_cons, List.flatMap_cons]
   refine ⟨?_, fun a ha => ?_⟩
   · rw [List.nodup_append]
    refine ⟨h1, i1, fun a ha b hb e => ?_⟩
    rcases i2 b hb with hb | hb
    · exact h3 a ha b hb e
    · subst hb e
     exact hx (.inl ha)
   · rw [List.mem_append] at ha
    rw [List.mem_append]
    rcases ha with ha | ha
    · exact .inl (.inl ha)
    · exact (i2 a ha).imp .inr id
theorem Sim.turnU {P : DP} {R : RefS} (h : Sim P R) {k : Nat} {s s' : NodeP} {nd nd' : NodeE} {nm nx : Int} {v : Value} (hs : P.sites[k]? = some s) (hnd : R.nodes[k]? = some nd) (hn : NSim R.past (R.uses ++ [nm]) s' nd'.p) (hr : s'.room = s.room)
  (ho : ∀ (k' : Nat) (nd2 : NodeE), R.nodes[k']? = some nd2 → k' ≠ k → ∀ a ∈ nd2.nms, a ≠ nm) (h1 : ((R.nodes.set k nd').flatMap (·.nms)).Nodup) (h2 : ∀ x ∈ (R.nodes.set k nd').flatMap (·.nms), 0 ≤ x ∧ x < nx) : Sim (P.put (k : Int) s') { (R.putN k nd').pushUse nm v with next := nx } := by
 obtain ⟨hk, _⟩ := List.getElem?_eq_some_iff.mp hs
 obtain ⟨hk', _⟩ := List.getElem?_eq_some_iff.mp hnd
 refine ⟨h.past, h.clock, h.rdr, h.puts, h.bd, ?_, ?_, ?_, h1, h2⟩
 · show (R.nodes.set k nd').length = (P.sites.set (k : Int).toNat s').length
  rw [List.length_set, List.length_set]; exact h.len
 · intro k' t nt ht hnt
  have ht' : (P.sites.set (k : Int).toNat s')[k']? = some t := ht
  have hnt' : (R.nodes.set k nd')[k']? = some nt := hnt
  rw [Int.toNat_natCast] at ht'
  show NSim R.past (R.uses ++ [nm]) t nt.p
  by_cases hkk : k' = k
  · subst hkk
   rw [List.getElem?_set_self hk] at ht'
   rw [List.getElem?_set_self hk'] at hnt'
   injection ht' with ht'
   injection hnt' with hnt'
   subst ht' hnt'
   exact hn
  · rw [List.getElem?_set_ne (fun e => hkk e.symm)] at ht' hnt'
   exact (h.node k' t nt ht' hnt').other (ho k' nt hnt' hkk)
 · intro t ht
  rcases List.mem_or_eq_of_mem_set ht with ht | rfl
  · exact h.room t ht
  · rw [hr]; exact h.room s (List.mem_of_getElem? hs)
def StorePost (w : World) (b : Nat) (R : RefS) (i : Int) (e : Ending) (w' : World) : Prop :=
 ((i < 0 ∨ (R.puts.length : Int) ≤ i) ∧ e = .returned (.tuple #[.bool false, .int .i64 10]) ∧ w = w') ∨
 ∃ (t k : Nat) (p : EntE) (nd : NodeE) (v : Value), i = (t : Int) ∧ R.puts[t]? = some p ∧ k = sumB p.q.data.toList % R.nodes.length ∧ R.nodes[k]? = some nd ∧
  (((nd.up = false ∨ lateE R.past nd.since nd.horizon p = none) ∧ e = .returned (.tuple #[.bool false, .int .i64 0]) ∧ Became w b R w' (R.setPuts (R.puts.eraseIdx t) v)) ∨
   (nd.up = true ∧ ∃ (y : EntE) (nd' : NodeE) (vs : Value), lateE R.past nd.since nd.horizon p = some y ∧ e = .returned (.tuple #[.bool true, .int .i64 0]) ∧
   ((∃ (j : Nat) (x : EntE) (nm : Int), nd.ents.findIdx? (fun x => decide (sameE x y)) = some j ∧ nd.ents[j]? = some x ∧ nd.nms[j]? = some nm ∧ nd'.p = { nd.p with ents := nd.ents.set j (mergedE x y) } ∧ Became w b R w' (((R.setPuts (R.puts.eraseIdx t) v).putN k nd').pushUse nm vs)) ∨
    (nd.ents.findIdx? (fun x => decide (sameE x y)) = none ∧ ∃ n1 : RNode, n1 = (if R.room ≤ (nd.ents.length : Int) then { nd.p with ents := nd.ents.eraseIdx (goesN R.uses nd).toNat, nms := nd.nms.eraseIdx (goesN R.uses nd).toNat } else nd.p) ∧ nd'.p = { n1 with ents := n1.ents ++ [y], nms := n1.nms ++ [R.next] } ∧
     Became w b R w' { ((R.setPuts (R.puts.eraseIdx t) v).putN k nd').pushUse R.next vs with next := R.next + 1 }))))
theorem Sim.dropP {P : DP} {R : RefS} (h : Sim P R) (t : Nat) (v : Value) : Sim { P with puts := P.puts.eraseIdx t } (R.setPuts (R.puts.eraseIdx t) v) :=
 ⟨h.past, h.clock, h.rdr, by show R.puts.eraseIdx t = P.puts.eraseIdx t; rw [h.puts], h.bd, h.len, h.node, h.room, h.names, h.fresh⟩
theorem store_p (P : DP) (t : Nat) (e : EntE) (s : NodeP) (hp : P.puts[t]? = some e) (hs : P.sites[P.nodeN e.q]? = some s) : P.store (t : Int) = ((s.store e).2, 0, ({ P with puts := P.puts.eraseIdx t } : DP).put ((P.nodeN e.q : Nat) : Int) (s.store e).1) := by
 unfold DP.store DP.put
 rw [if_neg (by omega), Int.toNat_natCast, hp]
 dsimp only
 rw [hs]
 rfl
theorem pair_store {w : World} {xb cb : Nat} {D : DevS} {R : RefS} (h : Pair w xb cb D R) (hnn : R.uses.length + 1 < 9223372036854775807) (i : Int)
  (hdoc : ∀ w2, Ref w2 cb R → Calls Tryz.prog 46 #[.pointer (some ⟨cb, 0, none⟩), .int .i64 i] w2 fun e w3 => StorePost w2 cb R i e w3) :
  ∃ (x : Bool) (r : Int), Calls Tryz.prog 45 #[.pointer (some ⟨xb, 0, none⟩), .int .i64 i] w fun e w1 => e = .returned (.tuple #[.bool x, .int .i64 r]) ∧
   Then 46 #[.pointer (some ⟨cb, 0, none⟩), .int .i64 i] w w1 xb cb D R (.tuple #[.bool x, .int .i64 r]) := by
 refine ⟨(D.pu.store i).1, (D.pu.store i).2.1, (dStore w xb D i h.dev (h.good.walk (by omega))).mono fun e w1 hp => ⟨hp.1, hp.2.keeps, fun w2 k2 => ?_⟩⟩
 have g := hp.2
 have hps : R.puts = D.pu.puts := h.sim.puts
 have hgood := h.good.store i
 refine (hdoc w2 (h.ref_after g.keeps k2)).mono fun e w3 hq => ?_
 rcases hq with ⟨hi, e2, rfl⟩ | ⟨t, k, p, nd, v, rfl, hp1, hk, hnd, hq⟩
 · have hE : D.pu.store i = (false, 10, D.pu) := by
   unfold DP.store
   by_cases h0 : i < 0
   · rw [if_pos h0]
   · rw [if_neg h0, List.getElem?_eq_none (by rw [← hps]; omega)]
  rw [hE] at g ⊢
  exact ⟨e2, h.still g k2 (Kept.refl _ _), Kept.refl _ _⟩
 · have hp2 : D.pu.puts[t]? = some p := by rw [← hps]; exact hp1
  have hkN : D.pu.nodeN p.q = k := by rw [hk]; show sumB p.q.data.toList % D.pu.sites.length = _; rw [h.sim.len]
  have hkl : k < D.pu.sites.length := by rw [← h.sim.len]; exact node_lt hnd
  obtain ⟨s, hs⟩ : ∃ s, D.pu.sites[k]? = some s := ⟨_, List.getElem?_eq_getElem hkl⟩
  have hn := h.sim.node k s nd hs hnd
  have hgs := h.good.sites s (List.mem_of_getElem? hs)
  have hE := store_p D.pu t p s hp2 (by rw [hkN]; exact hs)
  rw [hkN] at hE
  rw [hE] at g hgood ⊢
  dsimp only at g hgood ⊢
  have hca := hn.caught p
  have hup : nd.up = s.up := hn.up
  have hsd := h.sim.dropP t v
  have hfit : ∀ nd' : NodeE, NSim R.past (R.uses) s nd.p → (nd'.fls = nd.fls) → nd'.horizon = nd.horizon → ((R.setPuts (R.puts.eraseIdx t) v).putN k nd').Fit := fun nd' _ e1 e2 => by
   have := h.rfit.fmax nd (List.mem_of_getElem? hnd)
   exact Fit.putN ⟨h.rfit.pos, h.rfit.pmax, h.rfit.clk0, h.rfit.clk1, h.rfit.rmax, h.rfit.npos, h.rfit.nmax, h.rfit.fmax⟩ (by rw [e1, e2]; exact this)
  rcases hq with ⟨hno, e2, hb⟩ | ⟨hu, y, nd', vs, hla, e2, hq⟩
  · have hst : s.store p = (s, false) := by
    unfold NodeP.store
    by_cases hu : s.up = false
    · rw [if_pos hu]
    · rw [if_neg hu]
     rcases hno with hno | hno
     · rw [hup] at hno; exact absurd hno hu
     · rw [hca, show nd.p.since = nd.since from rfl, show nd.p.horizon = nd.horizon from rfl, hno]
   rw [hst] at g hgood ⊢
   have hss : ({ D.pu with puts := D.pu.puts.eraseIdx t } : DP).put (k : Int) s = { D.pu with puts := D.pu.puts.eraseIdx t } := by
    unfold DP.put
    rw [Int.toNat_natCast, set_self' hs]
   rw [hss] at g hgood
   refine ⟨e2, h.turned' g k2 hb hsd ?_ ⟨h.rfit.pos, h.rfit.pmax, h.rfit.clk0, h.rfit.clk1, h.rfit.rmax, h.rfit.npos, h.rfit.nmax, h.rfit.fmax⟩ rfl rfl, hb.2.1⟩
   have := h.good.drop (t : Int)
   have hlt : t < D.pu.puts.length := (List.getElem?_eq_some_iff.mp hp2).1
   have hd : D.pu.drop (t : Int) = (0, { D.pu with puts := D.pu.puts.eraseIdx t }) := by
    unfold DP.drop
    rw [if_neg (by omega), Int.toNat_natCast]
   rw [hd] at this
   exact this
  · have hu' : ¬ s.up = false := by rw [← hup, hu]; simp
   have hca' : s.caught p = some y := by rw [hca]; exact hla
   have hsame := hn.same y
   have hsame' : s.sameI y = nd.ents.findIdx? (fun x => decide (sameE x y)) := hsame
   obtain ⟨hn1, hn2⟩ := flat_names h.sim.names
   have hfr := h.sim.fresh
   have hnx0 := h.nx0
   have hnx1 := h.nx1
   rcases hq with ⟨j, x, nm, hj, hx, hnm, hp', hb⟩ | ⟨hj, n1, hn1', hp', hb⟩
   · obtain ⟨z, hz⟩ : ∃ z, s.ents[j]? = some z := by
     have e1 : nd.ents = s.ents.map (·.e) := hn.ents
     rw [e1, List.getElem?_map] at hx
     obtain ⟨z, hz, _⟩ := Option.map_eq_some_iff.mp hx
     exact ⟨z, hz⟩
    have hzx : z.e = x := by
     have e1 : nd.ents = s.ents.map (·.e) := hn.ents
     rw [e1, List.getElem?_map, hz] at hx
     injection hx
    have hst : s.store p = ((s.merge j z y).use j ⟨mergedE z.e y, z.used⟩, true) := by
     unfold NodeP.store
     rw [if_neg hu', hca']
     dsimp only
     rw [hsame', hj]
     dsimp only
     rw [hz]
    rw [hst] at g hgood ⊢
    have hjl := (List.getElem?_eq_some_iff.mp hz).1
    have hm1 := hn.merge y hz
    rw [hzx] at hm1
    have hm2 := hm1.use (i := j) (x := ⟨mergedE x y, z.used⟩) (nm := nm) (by show (s.ents.set j ⟨mergedE z.e y, z.used⟩)[j]? = _; rw [List.getElem?_set_self hjl, hzx]) hnm (hn1 nd (List.mem_of_getElem? hnd))
    rw [hzx] at hst g hgood
    have hnms : nd'.nms = nd.nms := by have : nd'.p.nms = nd.p.nms := by rw [hp']
                                       exact this
    have hsub := flat_set_sub hnd (nd' := nd') (by rw [hnms]; exact List.Sublist.refl _)
    have hu1 : (((R.setPuts (R.puts.eraseIdx t) v).putN k nd').pushUse nm vs).uses.length = R.uses.length + 1 := by show (R.uses ++ [nm]).length = _; simp
    have hfl : nd'.fls = nd.fls ∧ nd'.horizon = nd.horizon := by
     have e1 : nd'.p.fls = nd.p.fls := by rw [hp']
     have e2 : nd'.p.horizon = nd.p.horizon := by rw [hp']
     exact ⟨e1, e2⟩
    refine ⟨e2, h.turned g k2 hb ?_ (by rw [hu1]; exact hgood) (by have := hfit nd' hn hfl.1 hfl.2; exact ⟨this.pos, this.pmax, this.clk0, this.clk1, this.rmax, this.npos, this.nmax, this.fmax⟩) (by omega) hnx0 (by rw [hu1]; show R.next ≤ _; omega), hb.2.1⟩
    exact hsd.turnU (nx := R.next) (nd' := nd') hs hnd (by rw [hp']; exact hm2) rfl (fun k' nd2 hnd2 hkk a ha => hn2 k' k nd2 nd hnd2 hnd hkk a ha nm (List.mem_of_getElem? hnm)) (h.sim.names.sublist hsub) fun x hx => hfr x (hsub.subset hx)
   · have hst : s.store p = (s.lay y, true) := by
     unfold NodeP.store
     rw [if_neg hu', hca']
     dsimp only
     rw [hsame', hj]
    rw [hst] at g hgood ⊢
    have hroom : s.room = R.room := h.sim.room s (List.mem_of_getElem? hs)
    have hel : nd.ents.length = s.ents.length := by have e1 : nd.ents = s.ents.map (·.e) := hn.ents; rw [e1, List.length_map]
    have hnew : ∀ a ∈ R.nodes.flatMap (·.nms), a ≠ R.next := fun a ha e => by have := hfr a ha; omega
    have hmem : ∀ a ∈ nd.nms, a ∈ R.nodes.flatMap (·.nms) := fun a ha => List.mem_flatMap.mpr ⟨nd, List.mem_of_getElem? hnd, ha⟩
    have hgoes := hn.goes
    have hu1 : ({ ((R.setPuts (R.puts.eraseIdx t) v).putN k nd').pushUse R.next vs with next := R.next + 1 } : RefS).uses.length = R.uses.length + 1 := by show (R.uses ++ [R.next]).length = _; simp
    have key : NSim R.past (R.uses ++ [R.next]) (s.lay y) nd'.p ∧ (∃ m, nd'.nms = m ++ [R.next] ∧ m.Sublist nd.nms) ∧ (s.lay y).room = s.room ∧ nd'.fls = nd.fls ∧ nd'.horizon = nd.horizon := by
     have hfl : nd'.fls = n1.fls ∧ nd'.horizon = n1.horizon := by
      have e1 : nd'.p.fls = n1.fls := by rw [hp']
      have e2 : nd'.p.horizon = n1.horizon := by rw [hp']
      exact ⟨e1, e2⟩
     have hnm : nd'.nms = n1.nms ++ [R.next] := by have e1 : nd'.p.nms = n1.nms ++ [R.next] := by rw [hp']
                                                   exact e1
     unfold NodeP.lay
     by_cases hc : s.room ≤ (s.ents.length : Int)
     · rw [if_pos (by rw [← hroom, hel]; exact hc)] at hn1'
      rw [if_pos hc]
      have hr := hn.remove (goesN R.uses nd).toNat
      rw [hgoes, Int.toNat_natCast] at hr
      rw [hgoes, Int.toNat_natCast] at hn1'
      have hn1s : n1.nms.Sublist nd.nms := by rw [hn1']; exact List.eraseIdx_sublist ..
      have hlay := hr.lay0 y (nm := R.next) (fun a ha => hnew a (hmem a (List.mem_of_mem_eraseIdx ha)))
      refine ⟨?_, ⟨n1.nms, hnm, hn1s⟩, rfl, ?_, ?_⟩
      · rw [hp', hn1']; exact hlay
      · rw [hfl.1, hn1']; rfl
      · rw [hfl.2, hn1']; rfl
     · rw [if_neg (by rw [← hroom, hel]; exact hc)] at hn1'
      rw [if_neg hc]
      have hlay := hn.lay0 y (nm := R.next) (fun a ha => hnew a (hmem a ha))
      subst hn1'
      refine ⟨by rw [hp']; exact hlay, ⟨nd.nms, hnm, List.Sublist.refl _⟩, rfl, hfl.1, hfl.2⟩
    obtain ⟨k1, ⟨m, hm1, hm2⟩, k3, k4, k5⟩ := key
    have hns := flat_set_new hnd hm1 hm2 h.sim.names (fun hh => hnew _ hh rfl)
    refine ⟨e2, h.turned g k2 hb ?_ (by rw [hu1]; exact hgood) ?_ (by omega) (by show 0 ≤ R.next + 1; omega) (by rw [hu1]; show R.next + 1 ≤ _; omega), hb.2.1⟩
    · exact hsd.turnU (nx := R.next + 1) (nd' := nd') hs hnd k1 k3 (fun k' nd2 hnd2 hkk a ha => hnew a (List.mem_flatMap.mpr ⟨nd2, List.mem_of_getElem? hnd2, ha⟩)) hns.1 fun x hx => by
      rcases hns.2 x hx with hx | hx
      · have := hfr x hx; omega
      · subst hx; omega
    · have := hfit nd' hn k4 k5
     exact ⟨this.pos, this.pmax, this.clk0, this.clk1, this.rmax, this.npos, this.nmax, this.fmax⟩
section
variable {P : Program} {md : Region.Mode} {ops : Array Oper} {Q : Exit → Act → World → Prop} {c : Nat} {S : World → Prop}
def wpAnyC (P : Program) (md : Region.Mode) (ops : Array Oper) (Q : Exit → Act → World → Prop) (c : Nat) (S : World → Prop) : Nat → Array Bool → Act → World → Prop
 | 0, listed, a, w => Region.ready md ops listed = [] ∧ Q .normal a w
 | fuel + 1, listed, a, w => (Region.ready md ops listed = [] → Q .normal a w) ∧
  ∀ i ∈ Region.ready md ops listed, wpOp P ops Q i (fun a' w' => if i = c then wpAny P md ops Q fuel (listed.setIfInBounds i true) a' w' else S w' ∧ wpAnyC P md ops Q c S fuel (listed.setIfInBounds i true) a' w') a w
theorem wpAny_of_C : ∀ (fuel : Nat) (listed : Array Bool) (a : Act) (w : World), wpAnyC P md ops Q c S fuel listed a w → wpAny P md ops Q fuel listed a w
 | 0, _, _, _, h => h
 | fuel + 1, _, _, _, h => ⟨h.1, fun i hi => wpOp_mono (fun a' w' h' => by
   by_cases e : i = c
   · rw [if_pos e] at h'; exact h'
   · rw [if_neg e] at h'; exact wpAny_of_C fuel _ a' w' h'.2) (h.2 i hi)⟩
def waitsFor (md : Region.Mode) (ops : Array Oper) (c i : Nat) : Bool := ((ops[c]?).map fun o => o.after.any fun e => e.on == i && Region.binds md e).getD false
theorem waitsFor_ready {i : Nat} {listed : Array Bool} (h : waitsFor md ops c i = true) (hi : i ∈ Region.ready md ops listed) : c ∉ Region.ready md ops listed := by
 intro hc
 obtain ⟨_, oc, hoc, hall⟩ := mem_ready.1 hc
 obtain ⟨h0, oi, hoi, _⟩ := mem_ready.1 hi
 unfold waitsFor at h
 rw [hoc] at h
 simp only [Option.map_some, Option.getD_some, Array.any_eq_true] at h
 obtain ⟨k, hk, he⟩ := h
 rw [Bool.and_eq_true] at he
 have h1 := hall oc.after[k] (Array.getElem_mem hk) he.2
 have e1 : oc.after[k].on = i := by simpa using he.1
 rw [e1] at h1
 rcases Nat.lt_or_ge i listed.size with h' | h'
 · simp [h'] at h0 h1; rw [h0] at h1; cases h1
 · simp [Array.getElem?_eq_none h'] at h1
theorem wpAnyC_first {i : Nat} {oi : Oper} {v : Value} (hi : ops[i]? = some oi) (hw : waitsFor md ops c i = true) (hsel : ∀ (j : Nat) (o : Oper) cs b, ops[j]? = some o → o.op ≠ .select cs b)
  (hQ : ∀ x a w, Q (.panic x) (a.put oi.dst v) w → Q (.panic x) a w) :
  ∀ (fuel : Nat) (listed : Array Bool) (a : Act) (w : World),
   (∀ j oj, ops[j]? = some oj → j ≠ i → listed.getD j true = false → (∀ e ∈ oj.after, Region.binds md e = true → e.on ≠ i) → oi.apart ops oj = true) →
   i ∈ Region.ready md ops listed → YieldsIf P ops S oi v a → S w →
   wpAnyC P md ops Q c S fuel (listed.setIfInBounds i true) (a.put oi.dst v) w → wpAnyC P md ops Q c S (fuel + 1) listed a w := by
 intro fuel
 have hic : ∀ listed, i ∈ Region.ready md ops listed → i ≠ c := fun listed hr e => waitsFor_ready hw hr (e ▸ hr)
 induction fuel with
 | zero =>
  intro listed a w _ hr hy hS H
  refine ⟨fun h => (by rw [h] at hr; cases hr), fun j hj => ?_⟩
  by_cases hji : j = i
  · subst hji
   refine hy.wpOp hi hS ?_
   rw [if_neg (hic listed hr)]
   exact ⟨hS, H⟩
  · have := ready_mono hj hji
   rw [H.1] at this
   cases this
 | succ fuel ih =>
  intro listed a w hfree hr hy hS H
  refine ⟨fun h => (by rw [h] at hr; cases hr), fun j hj => ?_⟩
  by_cases hji : j = i
  · subst hji
   refine hy.wpOp hi hS ?_
   rw [if_neg (hic listed hr)]
   exact ⟨hS, H⟩
  · have hjc : j ≠ c := fun e => waitsFor_ready hw hr (e ▸ hj)
   have h1 := H.2 j (ready_mono hj hji)
   simp only [if_neg hjc] at h1 ⊢
   obtain ⟨hjun, oj, hoj, hall⟩ := mem_ready.1 hj
   have hnot : ∀ e ∈ oj.after, Region.binds md e = true → e.on ≠ i := fun e he hb heq => by
    have h1 := hall e he hb
    have h0 := (mem_ready.1 hr).1
    rw [heq] at h1
    rcases Nat.lt_or_ge i listed.size with h' | h'
    · simp [h'] at h0 h1; rw [h0] at h1; cases h1
    · simp [Array.getElem?_eq_none h'] at h1
   have h2 := wpOp_putIf hoj (hfree j oj hoj hji hjun hnot) (fun cs b => hsel i oi cs b hi) (fun cs b => hsel j oj cs b hoj) hQ hy h1
   have hfree' : ∀ k ok, ops[k]? = some ok → k ≠ i → (listed.setIfInBounds j true).getD k true = false →
     (∀ e ∈ ok.after, Region.binds md e = true → e.on ≠ i) → oi.apart ops ok = true := fun k ok hk hki hun hno => by
    refine hfree k ok hk hki ?_ hno
    by_cases hjk : j = k
    · subst hjk; exact hjun
    · rw [getD_set_ne true hjk] at hun; exact hun
   refine wpOp_mono (fun a' w' h3 => ⟨h3.2.1, ih (listed.setIfInBounds j true) a' w' hfree' (ready_mono hr (Ne.symm hji)) h3.1 h3.2.1 ?_⟩) h2
   rw [Array.setIfInBounds_comm _ _ hji]
   exact h3.2.2
theorem takeC {i : Nat} {oi : Oper} {v : Value} {fuel : Nat} {listed : Array Bool} {a : Act} {w : World} (hi : ops[i]? = some oi) (hw : waitsFor md ops c i = true)
  (hs : Region.noSelect ops = true) (hf : Region.free md ops listed i = true) (hr : (Region.ready md ops listed).contains i = true)
  (hQ : ∀ x a w, Q (.panic x) (a.put oi.dst v) w → Q (.panic x) a w) (hS : S w) (hy : YieldsIf P ops S oi v a)
  (h : wpAnyC P md ops Q c S fuel (listed.setIfInBounds i true) (a.put oi.dst v) w) : wpAnyC P md ops Q c S (fuel + 1) listed a w :=
 wpAnyC_first hi hw (Region.noSelect_spec hs) hQ fuel listed a w (Region.free_spec hi hf) (by simpa using hr) hy hS h
theorem stepC {j : Nat} {o : Oper} {fuel : Nat} {listed : Array Bool} {a : Act} {w : World} (hr : Region.ready md ops listed = [j]) (ho : ops[j]? = some o) (hg : o.guard = none) (hj : j ≠ c)
  (h : ∀ K : Act → World → Prop, Hid (∀ a' w', S w' → wpAnyC P md ops Q c S fuel (listed.setIfInBounds j true) a' w' → K a' w') → o.wp P a w K Q) : wpAnyC P md ops Q c S (fuel + 1) listed a w := by
 refine ⟨fun h0 => (by rw [hr] at h0; cases h0), fun i hi => ?_⟩
 rw [hr] at hi
 obtain rfl : i = j := by simpa using hi
 unfold wpOp
 simp only [ho, Region.wanted, hg, if_neg hj]
 exact .inl (h _ fun a' w' h1 h2 => ⟨h1, h2⟩)
theorem lastC {o : Oper} {fuel : Nat} {listed : Array Bool} {a : Act} {w : World} (hr : Region.ready md ops listed = [c]) (ho : ops[c]? = some o) (hg : o.guard = none) (hd : Region.ready md ops (listed.setIfInBounds c true) = [])
  (h : ∀ K : Act → World → Prop, Hid (∀ a' w', Q .normal a' w' → K a' w') → o.wp P a w K Q) : wpAnyC P md ops Q c S (fuel + 1) listed a w := by
 refine ⟨fun h0 => (by rw [hr] at h0; cases h0), fun i hi => ?_⟩
 rw [hr] at hi
 obtain rfl : i = c := by simpa using hi
 unfold wpOp
 simp only [ho, Region.wanted, hg]
 refine .inl (h _ fun a' w' h1 => ?_)
 match fuel with
 | 0 => exact ⟨hd, h1⟩
 | fuel + 1 => exact ⟨fun _ => h1, by rw [hd]; simp⟩
theorem startC {id : Nat} {a : Act} {w : World} (c : Nat) (S : World → Prop) (hm : P.follows .mixedOrders = true) (h : wpAnyC P .any ops Q c S ops.size (Array.replicate ops.size false) a w.drew) : (Code.region id ops true).wp P Q a w :=
 wp_region_any hm (wpAny_of_C _ _ _ _ h)
end
end Go.Proofs.YtpfcacedpkaihaaGreat
