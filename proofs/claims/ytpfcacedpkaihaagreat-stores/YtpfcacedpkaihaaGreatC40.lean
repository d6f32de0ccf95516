import Derived.Test.YtpfcacedpkaihaaGreatC39
import Derived.Test.YtpfcacedpkaihaaGreatC14
import Derived.Test.YtpfcacedpkaihaaGreatC13
import Derived.Test.YtpfcacedpkaihaaGreatC32
import Derived.Test.YtpfcacedpkaihaaGreatC27
import Derived.Test.YtpfcacedpkaihaaGreatC26
import Derived.Test.YtpfcacedpkaihaaGreatC25
namespace Go.Proofs.YtpfcacedpkaihaaGreat
open Go.RowKit
set_option maxRecDepth 100000
set_option maxHeartbeats 16000000
theorem flat_set_new {l : List NodeE} {k : Nat} {nd nd' : NodeE} {m : List Int} {x : Int} (hnd : l[k]? = some nd) (he : nd'.nms = m ++ [x]) (hm : m.Sublist nd.nms) : (l.flatMap (·.nms)).Nodup → (x ∉ l.flatMap (·.nms)) → ((l.set k nd').flatMap (·.nms)).Nodup ∧ ∀ a ∈ (l.set k nd').flatMap (·.nms), a ∈ l.flatMap (·.nms) ∨ a = x := by
 induction l generalizing k with
 | nil => simp at hnd
 | cons c r ih =>
  intro hn hx
  rw [List.flatMap_cons] at hn hx
  rw [List.nodup_append] at hn
  obtain ⟨h1, h2, h3⟩ := hn
  rw [List.mem_append] at hx
  match k with
  | 0 =>
   simp at hnd
   subst hnd
   rw [List.set_cons_zero, List.flatMap_cons, List.flatMap_cons, he]
   refine ⟨?_, fun a ha => ?_⟩
   · rw [List.nodup_append, List.nodup_append]
     refine ⟨⟨h1.sublist hm, by simp, fun a ha b hb e => ?_⟩, h2, fun a ha b hb e => ?_⟩
     · simp at hb
       subst hb e
       exact hx (.inl (hm.subset ha))
     · rw [List.mem_append] at ha
       rcases ha with ha | ha
       · exact h3 a (hm.subset ha) b hb e
       · simp at ha
         subst ha e
         exact hx (.inr hb)
   · rw [List.mem_append, List.mem_append] at ha
     rw [List.mem_append]
     rcases ha with (ha | ha) | ha
     · exact .inl (.inl (hm.subset ha))
     · simp at ha; exact .inr ha
     · exact .inl (.inr ha)
  | k + 1 =>
   obtain ⟨i1, i2⟩ := ih (by simpa using hnd) h2 (fun h => hx (.inr h))
   rw [List.set_cons_succ, List.flatMap_cons, List.flatMap_cons]
   refine ⟨?_, fun a ha => ?_⟩
   · rw [List.nodup_append]
     refine ⟨h1, i1, fun a ha b hb e => ?_⟩
     rcases i2 b hb with hb | hb
     · exact h3 a ha b hb e
     · subst hb e
       exact hx (.inl ha)
   · rw [List.mem_append] at ha
     rw [List.mem_append]
     rcases ha with ha | ha
     · exact .inl (.inl ha)
     · exact (i2 a ha).imp .inr id
theorem Sim.turnU {P : DP} {R : RefS} (h : Sim P R) {k : Nat} {s s' : NodeP} {nd nd' : NodeE} {nm nx : Int} {v : Value} (hs : P.sites[k]? = some s) (hnd : R.nodes[k]? = some nd) (hn : NSim R.past (R.uses ++ [nm]) s' nd'.p) (hr : s'.room = s.room)
 (ho : ∀ (k' : Nat) (nd2 : NodeE), R.nodes[k']? = some nd2 → k' ≠ k → ∀ a ∈ nd2.nms, a ≠ nm) (h1 : ((R.nodes.set k nd').flatMap (·.nms)).Nodup) (h2 : ∀ x ∈ (R.nodes.set k nd').flatMap (·.nms), 0 ≤ x ∧ x < nx) : Sim (P.put (k : Int) s') { (R.putN k nd').pushUse nm v with next := nx } := by
 obtain ⟨hk, _⟩ := List.getElem?_eq_some_iff.mp hs
 obtain ⟨hk', _⟩ := List.getElem?_eq_some_iff.mp hnd
 refine ⟨h.past, h.clock, h.rdr, h.puts, h.bd, ?_, ?_, ?_, h1, h2⟩
 · show (R.nodes.set k nd').length = (P.sites.set (k : Int).toNat s').length
   rw [List.length_set, List.length_set]; exact h.len
 · intro k' t nt ht hnt
   have ht' : (P.sites.set (k : Int).toNat s')[k']? = some t := ht
   have hnt' : (R.nodes.set k nd')[k']? = some nt := hnt
   rw [Int.toNat_natCast] at ht'
   show NSim R.past (R.uses ++ [nm]) t nt.p
   by_cases hkk : k' = k
   · subst hkk
     rw [List.getElem?_set_self hk] at ht'
     rw [List.getElem?_set_self hk'] at hnt'
     injection ht' with ht'
     injection hnt' with hnt'
     subst ht' hnt'
     exact hn
   · rw [List.getElem?_set_ne (fun e => hkk e.symm)] at ht' hnt'
     exact (h.node k' t nt ht' hnt').other (ho k' nt hnt' hkk)
 · intro t ht
   rcases List.mem_or_eq_of_mem_set ht with ht | rfl
   · exact h.room t ht
   · rw [hr]; exact h.room s (List.mem_of_getElem? hs)
def StorePost (w : World) (b : Nat) (R : RefS) (i : Int) (e : Ending) (w' : World) : Prop :=
 ((i < 0 ∨ (R.puts.length : Int) ≤ i) ∧ e = .returned (.tuple #[.bool false, .int .i64 10]) ∧ w = w') ∨
 ∃ (t k : Nat) (p : EntE) (nd : NodeE) (v : Value), i = (t : Int) ∧ R.puts[t]? = some p ∧ k = sumB p.q.data.toList % R.nodes.length ∧ R.nodes[k]? = some nd ∧
  (((nd.up = false ∨ lateE R.past nd.since nd.horizon p = none) ∧ e = .returned (.tuple #[.bool false, .int .i64 0]) ∧ Became w b R w' (R.setPuts (R.puts.eraseIdx t) v)) ∨
   (nd.up = true ∧ ∃ (y : EntE) (nd' : NodeE) (vs : Value), lateE R.past nd.since nd.horizon p = some y ∧ e = .returned (.tuple #[.bool true, .int .i64 0]) ∧
    ((∃ (j : Nat) (x : EntE) (nm : Int), nd.ents.findIdx? (fun x => decide (sameE x y)) = some j ∧ nd.ents[j]? = some x ∧ nd.nms[j]? = some nm ∧ nd'.p = { nd.p with ents := nd.ents.set j (mergedE x y) } ∧ Became w b R w' (((R.setPuts (R.puts.eraseIdx t) v).putN k nd').pushUse nm vs)) ∨
     (nd.ents.findIdx? (fun x => decide (sameE x y)) = none ∧ ∃ n1 : RNode, n1 = (if R.room ≤ (nd.ents.length : Int) then { nd.p with ents := nd.ents.eraseIdx (goesN R.uses nd).toNat, nms := nd.nms.eraseIdx (goesN R.uses nd).toNat } else nd.p) ∧ nd'.p = { n1 with ents := n1.ents ++ [y], nms := n1.nms ++ [R.next] } ∧
      Became w b R w' { ((R.setPuts (R.puts.eraseIdx t) v).putN k nd').pushUse R.next vs with next := R.next + 1 }))))
theorem Sim.dropP {P : DP} {R : RefS} (h : Sim P R) (t : Nat) (v : Value) : Sim { P with puts := P.puts.eraseIdx t } (R.setPuts (R.puts.eraseIdx t) v) :=
 ⟨h.past, h.clock, h.rdr, by show R.puts.eraseIdx t = P.puts.eraseIdx t; rw [h.puts], h.bd, h.len, h.node, h.room, h.names, h.fresh⟩
theorem store_p (P : DP) (t : Nat) (e : EntE) (s : NodeP) (hp : P.puts[t]? = some e) (hs : P.sites[P.nodeN e.q]? = some s) : P.store (t : Int) = ((s.store e).2, 0, ({ P with puts := P.puts.eraseIdx t } : DP).put ((P.nodeN e.q : Nat) : Int) (s.store e).1) := by
 unfold DP.store DP.put
 rw [if_neg (by omega), Int.toNat_natCast, hp]
 dsimp only
 rw [hs]
 rfl
theorem pair_store {w : World} {xb cb : Nat} {D : DevS} {R : RefS} (h : Pair w xb cb D R) (hnn : R.uses.length + 1 < 9223372036854775807) (i : Int)
 (hdoc : ∀ w2, Ref w2 cb R → Calls Tryz.prog 46 #[.pointer (some ⟨cb, 0, none⟩), .int .i64 i] w2 fun e w3 => StorePost w2 cb R i e w3) :
 ∃ (x : Bool) (r : Int), Calls Tryz.prog 45 #[.pointer (some ⟨xb, 0, none⟩), .int .i64 i] w fun e w1 => e = .returned (.tuple #[.bool x, .int .i64 r]) ∧
  Then 46 #[.pointer (some ⟨cb, 0, none⟩), .int .i64 i] w w1 xb cb D R (.tuple #[.bool x, .int .i64 r]) := by
 refine ⟨(D.pu.store i).1, (D.pu.store i).2.1, (dStore w xb D i h.dev (h.good.walk (by omega))).mono fun e w1 hp => ⟨hp.1, hp.2.keeps, fun w2 k2 => ?_⟩⟩
 have g := hp.2
 have hps : R.puts = D.pu.puts := h.sim.puts
 have hgood := h.good.store i
 refine (hdoc w2 (h.ref_after g.keeps k2)).mono fun e w3 hq => ?_
 rcases hq with ⟨hi, e2, rfl⟩ | ⟨t, k, p, nd, v, rfl, hp1, hk, hnd, hq⟩
 · have hE : D.pu.store i = (false, 10, D.pu) := by
    unfold DP.store
    by_cases h0 : i < 0
    · rw [if_pos h0]
    · rw [if_neg h0, List.getElem?_eq_none (by rw [← hps]; omega)]
   rw [hE] at g ⊢
   exact ⟨e2, h.still g k2 (Kept.refl _ _), Kept.refl _ _⟩
 · have hp2 : D.pu.puts[t]? = some p := by rw [← hps]; exact hp1
   have hkN : D.pu.nodeN p.q = k := by rw [hk]; show sumB p.q.data.toList % D.pu.sites.length = _; rw [h.sim.len]
   have hkl : k < D.pu.sites.length := by rw [← h.sim.len]; exact node_lt hnd
   obtain ⟨s, hs⟩ : ∃ s, D.pu.sites[k]? = some s := ⟨_, List.getElem?_eq_getElem hkl⟩
   have hn := h.sim.node k s nd hs hnd
   have hgs := h.good.sites s (List.mem_of_getElem? hs)
   have hE := store_p D.pu t p s hp2 (by rw [hkN]; exact hs)
   rw [hkN] at hE
   rw [hE] at g hgood ⊢
   dsimp only at g hgood ⊢
   have hca := hn.caught p
   have hup : nd.up = s.up := hn.up
   have hsd := h.sim.dropP t v
   have hfit : ∀ nd' : NodeE, NSim R.past (R.uses) s nd.p → (nd'.fls = nd.fls) → nd'.horizon = nd.horizon → ((R.setPuts (R.puts.eraseIdx t) v).putN k nd').Fit := fun nd' _ e1 e2 => by
    have := h.rfit.fmax nd (List.mem_of_getElem? hnd)
    exact Fit.putN ⟨h.rfit.pos, h.rfit.pmax, h.rfit.clk0, h.rfit.clk1, h.rfit.rmax, h.rfit.npos, h.rfit.nmax, h.rfit.fmax⟩ (by rw [e1, e2]; exact this)
   rcases hq with ⟨hno, e2, hb⟩ | ⟨hu, y, nd', vs, hla, e2, hq⟩
   · have hst : s.store p = (s, false) := by
      unfold NodeP.store
      by_cases hu : s.up = false
      · rw [if_pos hu]
      · rw [if_neg hu]
        rcases hno with hno | hno
        · rw [hup] at hno; exact absurd hno hu
        · rw [hca, show nd.p.since = nd.since from rfl, show nd.p.horizon = nd.horizon from rfl, hno]
     rw [hst] at g hgood ⊢
     have hss : ({ D.pu with puts := D.pu.puts.eraseIdx t } : DP).put (k : Int) s = { D.pu with puts := D.pu.puts.eraseIdx t } := by
      unfold DP.put
      rw [Int.toNat_natCast, set_self' hs]
     rw [hss] at g hgood
     refine ⟨e2, h.turned' g k2 hb hsd ?_ ⟨h.rfit.pos, h.rfit.pmax, h.rfit.clk0, h.rfit.clk1, h.rfit.rmax, h.rfit.npos, h.rfit.nmax, h.rfit.fmax⟩ rfl rfl, hb.2.1⟩
     have := h.good.drop (t : Int)
     have hlt : t < D.pu.puts.length := (List.getElem?_eq_some_iff.mp hp2).1
     have hd : D.pu.drop (t : Int) = (0, { D.pu with puts := D.pu.puts.eraseIdx t }) := by
      unfold DP.drop
      rw [if_neg (by omega), Int.toNat_natCast]
     rw [hd] at this
     exact this
   · have hu' : ¬ s.up = false := by rw [← hup, hu]; simp
     have hca' : s.caught p = some y := by rw [hca]; exact hla
     have hsame := hn.same y
     have hsame' : s.sameI y = nd.ents.findIdx? (fun x => decide (sameE x y)) := hsame
     obtain ⟨hn1, hn2⟩ := flat_names h.sim.names
     have hfr := h.sim.fresh
     have hnx0 := h.nx0
     have hnx1 := h.nx1
     rcases hq with ⟨j, x, nm, hj, hx, hnm, hp', hb⟩ | ⟨hj, n1, hn1', hp', hb⟩
     · obtain ⟨z, hz⟩ : ∃ z, s.ents[j]? = some z := by
        have e1 : nd.ents = s.ents.map (·.e) := hn.ents
        rw [e1, List.getElem?_map] at hx
        obtain ⟨z, hz, _⟩ := Option.map_eq_some_iff.mp hx
        exact ⟨z, hz⟩
       have hzx : z.e = x := by
        have e1 : nd.ents = s.ents.map (·.e) := hn.ents
        rw [e1, List.getElem?_map, hz] at hx
        injection hx
       have hst : s.store p = ((s.merge j z y).use j ⟨mergedE z.e y, z.used⟩, true) := by
        unfold NodeP.store
        rw [if_neg hu', hca']
        dsimp only
        rw [hsame', hj]
        dsimp only
        rw [hz]
       rw [hst] at g hgood ⊢
       have hjl := (List.getElem?_eq_some_iff.mp hz).1
       have hm1 := hn.merge y hz
       rw [hzx] at hm1
       have hm2 := hm1.use (i := j) (x := ⟨mergedE x y, z.used⟩) (nm := nm) (by show (s.ents.set j ⟨mergedE z.e y, z.used⟩)[j]? = _; rw [List.getElem?_set_self hjl, hzx]) hnm (hn1 nd (List.mem_of_getElem? hnd))
       rw [hzx] at hst g hgood
       have hnms : nd'.nms = nd.nms := by have : nd'.p.nms = nd.p.nms := by rw [hp']
                                          exact this
       have hsub := flat_set_sub hnd (nd' := nd') (by rw [hnms]; exact List.Sublist.refl _)
       have hu1 : (((R.setPuts (R.puts.eraseIdx t) v).putN k nd').pushUse nm vs).uses.length = R.uses.length + 1 := by show (R.uses ++ [nm]).length = _; simp
       have hfl : nd'.fls = nd.fls ∧ nd'.horizon = nd.horizon := by
        have e1 : nd'.p.fls = nd.p.fls := by rw [hp']
        have e2 : nd'.p.horizon = nd.p.horizon := by rw [hp']
        exact ⟨e1, e2⟩
       refine ⟨e2, h.turned g k2 hb ?_ (by rw [hu1]; exact hgood) (by have := hfit nd' hn hfl.1 hfl.2; exact ⟨this.pos, this.pmax, this.clk0, this.clk1, this.rmax, this.npos, this.nmax, this.fmax⟩) (by omega) hnx0 (by rw [hu1]; show R.next ≤ _; omega), hb.2.1⟩
       exact hsd.turnU (nx := R.next) (nd' := nd') hs hnd (by rw [hp']; exact hm2) rfl (fun k' nd2 hnd2 hkk a ha => hn2 k' k nd2 nd hnd2 hnd hkk a ha nm (List.mem_of_getElem? hnm)) (h.sim.names.sublist hsub) fun x hx => hfr x (hsub.subset hx)
     · have hst : s.store p = (s.lay y, true) := by
        unfold NodeP.store
        rw [if_neg hu', hca']
        dsimp only
        rw [hsame', hj]
       rw [hst] at g hgood ⊢
       have hroom : s.room = R.room := h.sim.room s (List.mem_of_getElem? hs)
       have hel : nd.ents.length = s.ents.length := by have e1 : nd.ents = s.ents.map (·.e) := hn.ents; rw [e1, List.length_map]
       have hnew : ∀ a ∈ R.nodes.flatMap (·.nms), a ≠ R.next := fun a ha e => by have := hfr a ha; omega
       have hmem : ∀ a ∈ nd.nms, a ∈ R.nodes.flatMap (·.nms) := fun a ha => List.mem_flatMap.mpr ⟨nd, List.mem_of_getElem? hnd, ha⟩
       have hgoes := hn.goes
       have hu1 : ({ ((R.setPuts (R.puts.eraseIdx t) v).putN k nd').pushUse R.next vs with next := R.next + 1 } : RefS).uses.length = R.uses.length + 1 := by show (R.uses ++ [R.next]).length = _; simp
       have key : NSim R.past (R.uses ++ [R.next]) (s.lay y) nd'.p ∧ (∃ m, nd'.nms = m ++ [R.next] ∧ m.Sublist nd.nms) ∧ (s.lay y).room = s.room ∧ nd'.fls = nd.fls ∧ nd'.horizon = nd.horizon := by
        have hfl : nd'.fls = n1.fls ∧ nd'.horizon = n1.horizon := by
         have e1 : nd'.p.fls = n1.fls := by rw [hp']
         have e2 : nd'.p.horizon = n1.horizon := by rw [hp']
         exact ⟨e1, e2⟩
        have hnm : nd'.nms = n1.nms ++ [R.next] := by have e1 : nd'.p.nms = n1.nms ++ [R.next] := by rw [hp']
                                                      exact e1
        unfold NodeP.lay
        by_cases hc : s.room ≤ (s.ents.length : Int)
        · rw [if_pos (by rw [← hroom, hel]; exact hc)] at hn1'
          rw [if_pos hc]
          have hr := hn.remove (goesN R.uses nd).toNat
          rw [hgoes, Int.toNat_natCast] at hr
          rw [hgoes, Int.toNat_natCast] at hn1'
          have hn1s : n1.nms.Sublist nd.nms := by rw [hn1']; exact List.eraseIdx_sublist ..
          have hlay := hr.lay0 y (nm := R.next) (fun a ha => hnew a (hmem a (List.mem_of_mem_eraseIdx ha)))
          refine ⟨?_, ⟨n1.nms, hnm, hn1s⟩, rfl, ?_, ?_⟩
          · rw [hp', hn1']; exact hlay
          · rw [hfl.1, hn1']; rfl
          · rw [hfl.2, hn1']; rfl
        · rw [if_neg (by rw [← hroom, hel]; exact hc)] at hn1'
          rw [if_neg hc]
          have hlay := hn.lay0 y (nm := R.next) (fun a ha => hnew a (hmem a ha))
          subst hn1'
          refine ⟨by rw [hp']; exact hlay, ⟨nd.nms, hnm, List.Sublist.refl _⟩, rfl, hfl.1, hfl.2⟩
       obtain ⟨k1, ⟨m, hm1, hm2⟩, k3, k4, k5⟩ := key
       have hns := flat_set_new hnd hm1 hm2 h.sim.names (fun hh => hnew _ hh rfl)
       refine ⟨e2, h.turned g k2 hb ?_ (by rw [hu1]; exact hgood) ?_ (by omega) (by show 0 ≤ R.next + 1; omega) (by rw [hu1]; show R.next + 1 ≤ _; omega), hb.2.1⟩
       · exact hsd.turnU (nx := R.next + 1) (nd' := nd') hs hnd k1 k3 (fun k' nd2 hnd2 hkk a ha => hnew a (List.mem_flatMap.mpr ⟨nd2, List.mem_of_getElem? hnd2, ha⟩)) hns.1 fun x hx => by
          rcases hns.2 x hx with hx | hx
          · have := hfr x hx; omega
          · subst hx; omega
       · have := hfit nd' hn k4 k5
         exact ⟨this.pos, this.pmax, this.clk0, this.clk1, this.rmax, this.npos, this.nmax, this.fmax⟩
theorem rremembers (w : World) (up : Bool) (since hz t : Nat) (fl wt en nm : Value) (ht : t ≤ 1000000) :
 Calls Tryz.prog 146 #[.agg #[.bool up, .int .u64 (since : Int), .int .u64 (hz : Int), fl, wt, en, nm], .int .u64 (t : Int)] w fun e w' => e = .returned (.bool (decide (since < t ∧ t ≤ hz ∧ hz < t + 6))) ∧ Kept (fun _ => False) w w' := by
 have hwr : IntKind.u64.wrap ((t : Int) + 6) = (t : Int) + 6 := by simp [IntKind.wrap, IntKind.bits, IntKind.signed]; omega
 have HQ : Hid (∀ x : Bool, (x = true ↔ since < t ∧ t ≤ hz ∧ hz < t + 6) → (Ending.returned (.bool x)) = .returned (.bool (decide (since < t ∧ t ≤ hz ∧ hz < t + 6)))) := fun x hx => by
  cases x with
  | true => rw [decide_eq_true (hx.mp rfl)]
  | false => rw [decide_eq_false (fun hh => by cases hx.mpr hh)]
 go_enter Tryz.func146, Tryz.ntmps146
 go_wp2
 all_goals
  go_ret
  exact ⟨HQ.out _ (by simp <;> omega), Kept.alloc _ _ _⟩
structure Lating (w W : World) (S : Nat) (A : Array Value) (K T : Int) (e : EntE) : Prop where
 low : Kept (fun _ => False) w W
 nb : Blk W w.heap.size 146 A
 eb : Blk W (w.heap.size + 1) 55 (entA e)
 zb : Blk W (w.heap.size + 1 + 1) 55 zeroA
 sb : Blk W S 70 #[.int .u8 K, .int .i64 T]
 far : w.heap.size + 1 + 1 < S
theorem Lating.same {w W W' : World} {S : Nat} {A : Array Value} {K T : Int} {e : EntE} (h : Lating w W S A K T e) (k : Kept (fun _ => False) W W') : Lating w W' S A K T e :=
 ⟨h.low.trans k (fun _ => id) (fun _ _ => id), h.nb.kept k id, h.eb.kept k id, h.zb.kept k id, h.sb.kept k id, h.far⟩
theorem Lating.set {w W : World} {S : Nat} {A : Array Value} {K T : Int} {e e' : EntE} (h : Lating w W S A K T e) (i : Nat) (v : Value) (he : (entA e).setIfInBounds i v = entA e') : Lating w (W.setCell ⟨w.heap.size + 1, i, none⟩ v) S A K T e' := by
 have k := Kept.setCell W ⟨w.heap.size + 1, i, none⟩ v
 have hf := h.far
 refine ⟨h.low.setNew _ _ _ (by omega), h.nb.kept k (by simp), ?_, h.zb.kept k (by simp), h.sb.kept k (by simp; omega), h.far⟩
 rw [← he]
 exact h.eb.set i v
theorem kres {w W : World} {B : Nat} (h : Kept (fun _ => False) w W) (hb : w.heap.size ≤ B) (a b c d e f : Value) : Kept (fun _ => False) w ((((((W.setCell ⟨B, 0, none⟩ a).setCell ⟨B, 1, none⟩ b).setCell ⟨B, 2, none⟩ c).setCell ⟨B, 3, none⟩ d).setCell ⟨B, 4, none⟩ e).setCell ⟨B, 5, none⟩ f) :=
 (((((h.setNew _ _ _ hb).setNew _ _ _ hb).setNew _ _ _ hb).setNew _ _ _ hb).setNew _ _ _ hb).setNew _ _ _ hb
def LatePost (w : World) (l : List PastE) (since hz : Nat) (p : EntE) (e : Ending) (w' : World) : Prop :=
 Kept (fun _ => False) w w' ∧ ((∃ y, lateE l since hz p = some y ∧ e = .returned (.tuple #[.agg (entA y), .bool true])) ∨ (lateE l since hz p = none ∧ ∃ y, e = .returned (.tuple #[.agg (entA y), .bool false])))
theorem rlate (w : World) (b : Nat) (R : RefS) (up : Bool) (since hz : Nat) (fl wt en nm : Value) (p : EntE) (h : Ref w b R) (hf : R.Fit) (hhz : hz < R.past.length) (hq : p.q.size ≤ maxLen) :
 Calls Tryz.prog 102 #[.pointer (some ⟨b, 0, none⟩), .agg #[.bool up, .int .u64 (since : Int), .int .u64 (hz : Int), fl, wt, en, nm], .agg (entA p)] w fun e w' => LatePost w R.past since hz p e w' := by
 by_cases hs : p.op = false ∨ hz ≤ p.kn
 · refine (rlate_short w b up since hz fl wt en nm p hs).mono fun e w' hp => ⟨hp.2, .inl ⟨p, ?_, hp.1⟩⟩
   unfold lateE
   rw [if_pos hs]
 · have ho : p.op = true := by cases hh : p.op with
    | true => rfl
    | false => exact absurd (.inl hh) hs
   have hlt : p.kn < hz := by have := mt Or.inr hs; omega
   obtain ⟨l, hl⟩ : ∃ l, l = R.past := ⟨_, rfl⟩
   obtain ⟨K, hK⟩ : ∃ K, K = keysQ p.q := ⟨_, rfl⟩
   have hpm := hf.pmax
   have HLE : Hid (∀ r : Option EntE, lateGo l K since hz p.kn (hz - p.kn) p = r → lateE l since hz p = r.map fun y => if y.op then { y with kn := hz } else y) := fun r hr => by
    unfold lateE
    rw [if_neg hs, ← hK, hr]
   have HT : Hid (∀ W, Kept (fun _ => False) w W → ∀ t : Nat, t < l.length → Calls Tryz.prog 141 #[.pointer (some ⟨b, 0, none⟩), .int .u64 (t : Int), .int .u8 K] W fun e w' => e = .returned (.bool (touchB l K t)) ∧ W = w') := by
    intro W hW t ht
    rw [hl] at ht ⊢
    have hq : R.past[t]? = some R.past[t] := List.getElem?_eq_getElem ht
    rw [touchB_some K hq]
    exact rtouches W b R t K _ (h.kept hW fun _ _ => id) hf hq
   have HPA : Hid (∀ (W : World), Calls Tryz.prog 26 #[.string p.q] W fun e w' => ∃ y er : Int, e = .returned (.tuple #[.agg #[.int .u8 K, .int .i64 y], .int .i64 er]) ∧ Kept (fun _ => False) W w') := fun W => (rParse_any p.q W hq).mono fun e w' hp => ⟨_, _, by rw [hK]; exact hp.1, Kept.of_below hp.2 _⟩
   have HRE : Hid (∀ (W : World) (t : Nat), t ≤ 1000000 → Calls Tryz.prog 146 #[.agg #[.bool up, .int .u64 (since : Int), .int .u64 (hz : Int), fl, wt, en, nm], .int .u64 (t : Int)] W fun e w' => e = .returned (.bool (decide (since < t ∧ t ≤ hz ∧ hz < t + 6))) ∧ Kept (fun _ => False) W w') := fun W t ht => rremembers W up since hz t fl wt en nm ht
   rw [← hl] at hhz ⊢
   obtain ⟨pq, pv, pf, pt, po, pk⟩ := p
   have ho' : po = true := ho
   subst ho'
   have hlt' : pk < hz := hlt
   have hl7 : l.length ≤ 1000 := by rw [hl]; omega
   have hd : decide ((hz : Int) ≤ (pk : Int)) = false := by simp; omega
   show Calls Tryz.prog 102 #[.pointer (some ⟨b, 0, none⟩), .agg #[.bool up, .int .u64 (since : Int), .int .u64 (hz : Int), fl, wt, en, nm], .agg #[.string pq, .int .i32 pv, .int .u64 (pf : Int), .int .u64 (pt : Int), .bool true, .int .u64 (pk : Int)]] w _
   dsimp only at HLE HPA
   obtain ⟨A, hA⟩ : ∃ A : Array Value, A = #[.bool up, .int .u64 (since : Int), .int .u64 (hz : Int), fl, wt, en, nm] := ⟨_, rfl⟩
   have HLA : Hid (∀ (w1 : World) (T : Int), Kept (fun _ => False) (((w.alloc (.cells #[.bool up, .int .u64 (since : Int), .int .u64 (hz : Int), fl, wt, en, nm] 146)).alloc (.cells #[.string pq, .int .i32 pv, .int .u64 (pf : Int), .int .u64 (pt : Int), .bool true, .int .u64 (pk : Int)] 55)).alloc (.cells zeroA 55)) w1 → Lating w (w1.alloc (.cells #[.int .u8 K, .int .i64 T] 70)) w1.heap.size A K T ⟨pq, pv, pf, pt, true, pk⟩) := by
    intro w1 T k
    have k0 : Kept (fun _ => False) w w1 := (((Kept.alloc w _ (fun _ => False)).allocNew _).allocNew _).trans k (fun _ => id) (fun _ _ => id)
    have hsz := k.size
    simp at hsz
    refine ⟨k0.allocNew _, ?_, ?_, ?_, Blk.new _ _ _, by omega⟩
    · rw [hA]
      exact (((Blk.new w _ _).kept (((Kept.alloc _ _ (fun _ => False)).allocNew _)) id).kept k id).kept (Kept.alloc _ _ (fun _ => False)) id
    · have := (((Blk.new (w.alloc (.cells #[.bool up, .int .u64 (since : Int), .int .u64 (hz : Int), fl, wt, en, nm] 146)) 55 #[.string pq, .int .i32 pv, .int .u64 (pf : Int), .int .u64 (pt : Int), .bool true, .int .u64 (pk : Int)]).kept (Kept.alloc _ (.cells zeroA 55) (fun _ => False)) id).kept k id).kept (Kept.alloc _ (.cells #[.int .u8 K, .int .i64 T] 70) (fun _ => False)) id
      simpa [entA] using this
    · have := ((Blk.new ((w.alloc (.cells #[.bool up, .int .u64 (since : Int), .int .u64 (hz : Int), fl, wt, en, nm] 146)).alloc (.cells #[.string pq, .int .i32 pv, .int .u64 (pf : Int), .int .u64 (pt : Int), .bool true, .int .u64 (pk : Int)] 55)) 55 zeroA).kept k id).kept (Kept.alloc _ (.cells #[.int .u8 K, .int .i64 T] 70) (fun _ => False)) id
      simpa using this
   have HF : Hid (∀ W S T e, Lating w W S A K T e → W.cell? ⟨w.heap.size, 0, none⟩ = some (.bool up) ∧ W.cell? ⟨w.heap.size, 1, none⟩ = some (.int .u64 (since : Int)) ∧ W.cell? ⟨w.heap.size, 2, none⟩ = some (.int .u64 (hz : Int)) ∧ W.cell? ⟨w.heap.size, 3, none⟩ = some fl ∧ W.cell? ⟨w.heap.size, 4, none⟩ = some wt ∧ W.cell? ⟨w.heap.size, 5, none⟩ = some en ∧ W.cell? ⟨w.heap.size, 6, none⟩ = some nm ∧ W.cell? ⟨S, 0, none⟩ = some (.int .u8 K)) := by
    intro W S T e hL
    have hn := hL.nb
    rw [hA] at hn
    exact ⟨hn.cell 0, hn.cell 1, hn.cell 2, hn.cell 3, hn.cell 4, hn.cell 5, hn.cell 6, hL.sb.cell 0⟩
   have HG : Hid (∀ W S T (e : EntE), Lating w W S A K T e → W.cell? ⟨w.heap.size + 1, 0, none⟩ = some (.string e.q) ∧ W.cell? ⟨w.heap.size + 1, 1, none⟩ = some (.int .i32 e.val) ∧ W.cell? ⟨w.heap.size + 1, 2, none⟩ = some (.int .u64 (e.fr : Int)) ∧ W.cell? ⟨w.heap.size + 1, 3, none⟩ = some (.int .u64 (e.till : Int)) ∧ W.cell? ⟨w.heap.size + 1, 4, none⟩ = some (.bool e.op) ∧ W.cell? ⟨w.heap.size + 1, 5, none⟩ = some (.int .u64 (e.kn : Int)) ∧ (∀ i, W.frozen? ⟨w.heap.size + 1, i, none⟩ = false) ∧ (∀ i, W.frozen? ⟨w.heap.size + 1 + 1, i, none⟩ = false) ∧ W.cell? ⟨w.heap.size + 1 + 1, 0, none⟩ = some (.string ⟨#[]⟩) ∧ W.cell? ⟨w.heap.size + 1 + 1, 1, none⟩ = some (.int .i32 0) ∧ W.cell? ⟨w.heap.size + 1 + 1, 2, none⟩ = some (.int .u64 0) ∧ W.cell? ⟨w.heap.size + 1 + 1, 3, none⟩ = some (.int .u64 0) ∧ W.cell? ⟨w.heap.size + 1 + 1, 4, none⟩ = some (.bool false) ∧ W.cell? ⟨w.heap.size + 1 + 1, 5, none⟩ = some (.int .u64 0)) := by
    intro W S T e hL
    have hn := hL.eb
    have hz := hL.zb
    exact ⟨hn.cell 0, hn.cell 1, hn.cell 2, hn.cell 3, hn.cell 4, hn.cell 5, hn.free, hz.free, hz.cell 0, hz.cell 1, hz.cell 2, hz.cell 3, hz.cell 4, hz.cell 5⟩
   clear h hf hs hq hK ho hl hlt hA
   go_enter Tryz.func102, Tryz.ntmps102
   go_wp2_with (go_at_call 26; refine (HPA.out _).mono ?_; rintro e w1 ⟨T, er, rfl, hk1⟩; have HL0 := HLA.out w1 T hk1; have HL1 : Hid (Lating w (w1.alloc (.cells #[.int .u8 K, .int .i64 T] 70)) w1.heap.size A K T ⟨pq, pv, pf, pt, true, pk⟩) := HL0; have n2 : (w1.alloc (.cells #[.int .u8 K, .int .i64 T] 70)).cell? ⟨w.heap.size, 2, none⟩ = some (.int .u64 (hz : Int)) := (HF.out _ _ _ _ HL0).2.2.1; clear hk1 HL0)
   clear n2
   generalize w1.alloc (.cells #[.int .u8 K, .int .i64 T] 70) = W0 at HL1 ⊢
   generalize w1.heap.size = S at HL1 ⊢
   have HST : Hid (∀ W (e : EntE), Lating w W S A K T e → S ≠ w.heap.size + 1 ∧ w.heap.size + 1 ≠ S) := fun W e hL => by have := hL.far; omega
   go_loopw [10] (fun tv wr => ∃ (m : Nat) (e : EntE), m ≤ hz - pk ∧ tv = .int .u64 ((pk + m : Nat) : Int) ∧ Hid (Lating w wr S A K T e ∧ e.kn = pk ∧ lateGo l K since hz pk (hz - pk) ⟨pq, pv, pf, pt, true, pk⟩ = lateGo l K since hz pk m e)) (fun tv _ => (intOf tv).toNat)
   case atStart => exact ⟨hz - pk, _, Nat.le_refl _, by rw [show pk + (hz - pk) = hz by omega], HL1.out, rfl, rfl⟩
   case round =>
    obtain ⟨m, ⟨q', v', f', t', o', k'⟩, hm, rfl, HI⟩ := hrel
    obtain rfl : k' = pk := HI.out.2.1
    obtain ⟨n0, n1, n2, n3, n4, n5, n6, s0⟩ := HF.out wr S T _ HI.out.1
    obtain ⟨e0, e1, e2, e3, e4, e5, ef, zf, z0, z1, z2, z3, z4, z5⟩ := HG.out wr S T _ HI.out.1
    dsimp only at e0 e1 e2 e3 e4 e5
    match m, hm, HI with
    | 0, hm, HI =>
     have hd1 : decide ((k' : Int) < ((k' + 0 : Nat) : Int)) = false := by simp
     have HE : Hid (lateE l since hz ⟨pq, pv, pf, pt, true, k'⟩ = some (if o' then ⟨q', v', f', t', o', hz⟩ else ⟨q', v', f', t', o', k'⟩)) := HLE.out (some _) HI.out.2.2
     have HK : Hid (Kept (fun _ => False) w wr) := HI.out.1.low
     cases o' with
     | true =>
      go_wp2
      exact bodyPost_ret (v := .tuple #[.agg (entA ⟨q', v', f', t', true, hz⟩), .bool true]) (by simp [results, Tryz.results102, go_sem, entA, z0, z1, z2, z3, z4, z5]) rfl ⟨kres (HK.out.setNew _ _ _ (by omega)) (by omega) _ _ _ _ _ _, .inl ⟨_, HE.out, rfl⟩⟩
     | false =>
      go_wp2
      exact bodyPost_ret (v := .tuple #[.agg (entA ⟨q', v', f', t', false, k'⟩), .bool true]) (by simp [results, Tryz.results102, go_sem, entA, z0, z1, z2, z3, z4, z5]) rfl ⟨kres HK.out (by omega) _ _ _ _ _ _, .inl ⟨_, HE.out, rfl⟩⟩
    | m + 1, hm, HI =>
     have hd1 : decide ((k' : Int) < ((k' + (m + 1) : Nat) : Int)) = true := by simp; omega
     by_cases hr : since < k' + (m + 1) ∧ hz < k' + (m + 1) + 6
     · have HR1 : Hid (∀ W : World, Calls Tryz.prog 146 #[.agg #[.bool up, .int .u64 (since : Int), .int .u64 (hz : Int), fl, wt, en, nm], .int .u64 ((k' + (m + 1) : Nat) : Int)] W fun e w' => e = .returned (.bool true) ∧ Kept (fun _ => False) W w') := fun W => by
        have := HRE.out W (k' + (m + 1)) (by omega)
        rw [decide_eq_true (show since < k' + (m + 1) ∧ k' + (m + 1) ≤ hz ∧ hz < k' + (m + 1) + 6 from ⟨hr.1, by omega, hr.2⟩)] at this
        exact this
       have HGO : Hid (lateGo l K since hz k' (hz - k') ⟨pq, pv, pf, pt, true, k'⟩ = lateGo l K since hz k' m (if touchB l K (k' + (m + 1)) then ⟨q', v', f', k' + (m + 1), false, k'⟩ else ⟨q', v', f', t', o', k'⟩)) := by
        show _ = _
        rw [HI.out.2.2, lateGo, if_pos (show since < k' + m + 1 ∧ hz < k' + m + 1 + 6 from hr)]
        rfl
       have HT1 : Hid (∀ W, Kept (fun _ => False) w W → Calls Tryz.prog 141 #[.pointer (some ⟨b, 0, none⟩), .int .u64 ((k' + (m + 1) : Nat) : Int), .int .u8 K] W fun e w' => e = .returned (.bool (touchB l K (k' + (m + 1)))) ∧ W = w') := fun W hW => HT.out W hW (k' + (m + 1)) (by omega)
       cases hy : touchB l K (k' + (m + 1)) with
       | true =>
        rw [hy] at HT1 HGO
        clear hy hr
        go_wp2_with first
         | (go_at_call 146; refine (HR1.out _).mono ?_; rintro e w2 ⟨rfl, hk2⟩; have HL2 : Hid (Lating w w2 S A K T ⟨q', v', f', t', o', k'⟩) := HI.out.1.same hk2; clear hk2 n0 n1 n2 n3 n4 n5 n6 s0 e0 e1 e2 e3 e4 e5 ef zf z0 z1 z2 z3 z4 z5; obtain ⟨_, _, _, _, _, _, _, s0⟩ := HF.out w2 S T _ HL2.out; obtain ⟨e0, e1, e2, e3, e4, e5, ef, _⟩ := HG.out w2 S T _ HL2.out)
         | (go_at_call 141; refine (HT1.out _ HL2.out.low).mono ?_; rintro e w3 ⟨rfl, rfl⟩)
        go_roundw
        case rel => exact ⟨m, ⟨q', v', f', k' + (m + 1), false, k'⟩, by omega, by go_num, (HL2.out.set (e' := ⟨q', v', f', t', false, k'⟩) 4 _ rfl).set 3 _ rfl, rfl, HGO.out⟩
        case measure => simp [intOf]; omega
       | false =>
        rw [hy] at HT1 HGO
        clear hy hr
        go_wp2_with first
         | (go_at_call 146; refine (HR1.out _).mono ?_; rintro e w2 ⟨rfl, hk2⟩; have HL2 : Hid (Lating w w2 S A K T ⟨q', v', f', t', o', k'⟩) := HI.out.1.same hk2; clear hk2 n0 n1 n2 n3 n4 n5 n6 s0 e0 e1 e2 e3 e4 e5 ef zf z0 z1 z2 z3 z4 z5; obtain ⟨_, _, _, _, _, _, _, s0⟩ := HF.out w2 S T _ HL2.out)
         | (go_at_call 141; refine (HT1.out _ HL2.out.low).mono ?_; rintro e w3 ⟨rfl, rfl⟩)
        go_roundw
        case rel => exact ⟨m, ⟨q', v', f', t', o', k'⟩, by omega, by go_num, HL2.out, rfl, HGO.out⟩
        case measure => simp [intOf]; omega
     · have HR1 : Hid (∀ W : World, Calls Tryz.prog 146 #[.agg #[.bool up, .int .u64 (since : Int), .int .u64 (hz : Int), fl, wt, en, nm], .int .u64 ((k' + (m + 1) : Nat) : Int)] W fun e w' => e = .returned (.bool false) ∧ Kept (fun _ => False) W w') := fun W => by
        have := HRE.out W (k' + (m + 1)) (by omega)
        rw [decide_eq_false (show ¬ (since < k' + (m + 1) ∧ k' + (m + 1) ≤ hz ∧ hz < k' + (m + 1) + 6) from fun hh => hr ⟨hh.1, hh.2.2⟩)] at this
        exact this
       have HE : Hid (lateE l since hz ⟨pq, pv, pf, pt, true, k'⟩ = none) := HLE.out none (by rw [HI.out.2.2, lateGo, if_neg (show ¬ (since < k' + m + 1 ∧ hz < k' + m + 1 + 6) from hr)])
       clear hr
       go_wp2_with (go_at_call 146; refine (HR1.out _).mono ?_; rintro e w2 ⟨rfl, hk2⟩; have HL2 : Hid (Lating w w2 S A K T ⟨q', v', f', t', o', k'⟩) := HI.out.1.same hk2; clear hk2 n0 n1 n2 n3 n4 n5 n6 s0 e0 e1 e2 e3 e4 e5 ef zf z0 z1 z2 z3 z4 z5; obtain ⟨e0, e1, e2, e3, e4, e5, ef, zf, z0, z1, z2, z3, z4, z5⟩ := HG.out w2 S T _ HL2.out)
       exact bodyPost_ret (v := .tuple #[.agg (entA ⟨q', v', f', t', o', k'⟩), .bool false]) (by simp [results, Tryz.results102, go_sem, entA, z0, z1, z2, z3, z4, z5]) rfl ⟨kres HL2.out.low (by omega) _ _ _ _ _ _, .inr ⟨HE.out, _, rfl⟩⟩
theorem numS_eq (t : Nat) (h : t ≤ 1000000) : numS t = (t : Int) % 256 := by
 have e : bits .and .u64 (t : Int) 255 = IntKind.u64.wrap (((BitVec.ofInt 64 (t : Int)) &&& BitVec.ofInt 64 255).toNat : Int) := rfl
 have e2 : ((BitVec.ofInt 64 (t : Int)) &&& BitVec.ofInt 64 255).toNat = t % 256 := by
  rw [BitVec.toNat_and, BitVec.ofInt_natCast, BitVec.toNat_ofNat, Nat.mod_eq_of_lt (by omega)]
  show t &&& 255 = t % 256
  exact Nat.and_two_pow_sub_one_eq_mod t 8
 unfold numS
 rw [e, e2]
 simp [IntKind.wrap, IntKind.bits, IntKind.signed]
def rwaitN (wts : List Nat) (a n : Nat) : List Int := (List.range' a n).flatMap fun t => (wts.filter fun x => decide (x = t)).map fun _ => (t : Int) % 256
theorem rwaitN_cut (wts : List Nat) (a n m : Nat) (h : ∀ x ∈ wts, ¬ (a + n ≤ x ∧ x < a + n + m)) : rwaitN wts a (n + m) = rwaitN wts a n := by
 unfold rwaitN
 rw [← List.range'_append_1, List.flatMap_append]
 have : (List.range' (a + n) m).flatMap (fun t => (wts.filter fun x => decide (x = t)).map fun _ => (t : Int) % 256) = [] := by
  rw [List.flatMap_eq_nil_iff]
  intro t ht
  rw [List.mem_range'_1] at ht
  rw [List.map_eq_nil_iff, List.filter_eq_nil_iff]
  intro x hx he
  have : x = t := by simpa using he
  subst this
  exact h x hx ht
 rw [this, List.append_nil]
theorem filter_one {l : List Nat} (hn : l.Nodup) (t : Nat) : l.filter (fun x => decide (x = t)) = if t ∈ l then [t] else [] := by
 induction l with
 | nil => rfl
 | cons x r ih =>
  rw [List.nodup_cons] at hn
  rw [List.filter_cons, ih hn.2]
  by_cases e : x = t
  · subst e
    simp [hn.1]
  · have e' : ¬ t = x := fun h => e h.symm
    simp [e, e']
theorem rwaitN_next (wts : List Nat) (a n : Nat) : rwaitN wts a (n + 1) = rwaitN wts a n ++ (wts.filter fun x => decide (x = a + n)).map fun _ => ((a + n : Nat) : Int) % 256 := by
 unfold rwaitN
 rw [← List.range'_append_1, List.flatMap_append]
 simp
theorem waitsB_in (l : List (Nat × Int)) (t : Nat) : waitsB l t = true ↔ t ∈ l.map (·.1) := by
 unfold waitsB
 rw [List.any_eq_true, List.mem_map]
 simp
theorem wait_same {s : NodeP} {top : Nat} (ht : s.horizon ≤ top) (hm : top ≤ 700) (hs : ∀ c ∈ s.waits, s.horizon + 1 < c.1 ∧ c.1 ≤ s.horizon + 5 ∧ c.1 ≤ top) (hn : (s.waits.map (·.1)).Nodup) :
 rwaitN (s.waits.map (·.1)) (s.horizon + 1) (top - s.horizon) = waitN s 4 := by
 have hW : ∀ x ∈ s.waits.map (·.1), s.horizon + 1 < x ∧ x ≤ s.horizon + 5 ∧ x ≤ top := by
  intro x hx
  obtain ⟨c, hc, rfl⟩ := List.mem_map.mp hx
  exact hs c hc
 have key : ∀ i, i ≤ 4 → rwaitN (s.waits.map (·.1)) (s.horizon + 1) (i + 1) = waitN s i := by
  intro i
  induction i with
  | zero =>
   intro _
   rw [rwaitN_next, filter_one hn, if_neg (fun hx => by have := hW _ hx; omega)]
   rfl
  | succ i ih =>
   intro hi
   rw [rwaitN_next, ih (by omega), filter_one hn, show s.horizon + 1 + (i + 1) = s.horizon + 2 + i by omega]
   cases hb : waitsB s.waits (s.horizon + 2 + i) with
   | true =>
    rw [if_pos ((waitsB_in _ _).mp hb), waitN_yes hb, numS_eq _ (by omega)]
    rfl
   | false =>
    rw [if_neg (fun hx => by rw [(waitsB_in _ _).mpr hx] at hb; cases hb), waitN_no hb]
    simp
 rw [← key 4 (by omega)]
 by_cases h5 : top - s.horizon ≤ 5
 · have := rwaitN_cut (s.waits.map (·.1)) (s.horizon + 1) (top - s.horizon) (5 - (top - s.horizon)) (fun x hx hh => by have := hW x hx; omega)
   rw [show top - s.horizon + (5 - (top - s.horizon)) = 4 + 1 by omega] at this
   exact this.symm
 · have := rwaitN_cut (s.waits.map (·.1)) (s.horizon + 1) 5 (top - s.horizon - 5) (fun x hx hh => by have := hW x hx; omega)
   rw [show 5 + (top - s.horizon - 5) = top - s.horizon by omega] at this
   exact this
def RLookPost (w : World) (R : RefS) (k : Int) (e : Ending) (w' : World) : Prop :=
 ((k < 0 ∨ (R.nodes.length : Int) ≤ k) ∧ e = .returned (.tuple #[.agg #[.bool false, .int .u64 0, .slice none 0 0, .slice none 0 0], .int .i64 9]) ∧ Kept (fun _ => False) w w') ∨
 (∃ (j : Nat) (nd : NodeE) (wa ea : Option Addr) (wc ec : Nat), k = (j : Int) ∧ R.nodes[j]? = some nd ∧ e = .returned (.tuple #[.agg #[.bool nd.up, .int .u64 (nd.horizon : Int), .slice wa (rwaitN nd.wts (nd.horizon + 1) (R.past.length - 1 - nd.horizon)).length wc, .slice ea nd.ents.length ec], .int .i64 0]) ∧
  Grow 5 1 u8C w w' (.slice wa (rwaitN nd.wts (nd.horizon + 1) (R.past.length - 1 - nd.horizon)).length wc) (rwaitN nd.wts (nd.horizon + 1) (R.past.length - 1 - nd.horizon)) ∧ Grow 55 6 entC w w' (.slice ea nd.ents.length ec) nd.ents)
def LookAt (w w' : World) (wa ea : Option Addr) (wc ec : Nat) (ns : List Int) (es : List EntE) : Prop := Grow 5 1 u8C w w' (.slice wa ns.length wc) ns ∧ Grow 55 6 entC w w' (.slice ea es.length ec) es
def LookRet (up : Bool) (hz : Nat) (ns : List Int) (es : List EntE) (r : Int) (w : World) (e : Ending) (w' : World) : Prop := ∃ wa wc ea ec, e = .returned (.tuple #[.agg #[.bool up, .int .u64 (hz : Int), .slice wa ns.length wc, .slice ea es.length ec], .int .i64 r]) ∧ Hid (LookAt w w' wa ea wc ec ns es)
theorem look_none {w w' : World} (k : Kept (fun _ => False) w w') : LookAt w w' none none 0 0 [] [] := ⟨(Grow.start _ _ _ w).more k, (Grow.start _ _ _ w).more k⟩
theorem pair_look {w : World} {xb cb : Nat} {D : DevS} {R : RefS} (h : Pair w xb cb D R) (hnn : R.uses.length < 9223372036854775807) (k : Int)
 (hdoc : ∀ w2, Ref w2 cb R → Calls Tryz.prog 50 #[.pointer (some ⟨cb, 0, none⟩), .int .i64 k] w2 fun e w3 => RLookPost w2 R k e w3) :
 ∃ (up : Bool) (hz : Nat) (ns : List Int) (es : List EntE) (r : Int), ns.length ≤ 1000 ∧ es.length ≤ 1000 ∧
  (Calls Tryz.prog 49 #[.pointer (some ⟨xb, 0, none⟩), .int .i64 k] w fun e w1 => LookRet up hz ns es r w e w1) ∧
  ∀ w2, Ref w2 cb R → Calls Tryz.prog 50 #[.pointer (some ⟨cb, 0, none⟩), .int .i64 k] w2 fun e w3 => LookRet up hz ns es r w2 e w3 := by
 have hlen : D.nodes.length = R.nodes.length := by rw [h.sim.len]; show _ = (D.nodes.map _).length; rw [List.length_map]
 by_cases hk : k < 0 ∨ (R.nodes.length : Int) ≤ k
 · refine ⟨false, 0, [], [], 9, by simp, by simp, (dlook_bad w xb D k h.dev (by omega)).mono fun e w1 hp => ⟨none, 0, none, 0, hp.1, look_none hp.2⟩, fun w2 h2 => (hdoc w2 h2).mono fun e w3 hq => ?_⟩
   rcases hq with ⟨_, e2, k2⟩ | ⟨j, nd, _, _, _, _, rfl, hnd, _⟩
   · exact ⟨none, 0, none, 0, e2, look_none k2⟩
   · have := (List.getElem?_eq_some_iff.mp hnd).1; omega
 · obtain ⟨j, rfl⟩ : ∃ j : Nat, k = j := ⟨k.toNat, by omega⟩
   have hjl : j < R.nodes.length := by omega
   have hjd : j < D.nodes.length := by omega
   obtain ⟨dn, hdn⟩ : ∃ dn, D.nodes[j]? = some dn := ⟨_, List.getElem?_eq_getElem hjd⟩
   obtain ⟨nd, hnd⟩ : ∃ nd, R.nodes[j]? = some nd := ⟨_, List.getElem?_eq_getElem hjl⟩
   have hs : D.pu.sites[j]? = some dn.p := by show (D.nodes.map _)[j]? = _; rw [List.getElem?_map, hdn]; rfl
   have hn := h.sim.node j dn.p nd hs hnd
   have hg := h.good.sites dn.p (List.mem_of_getElem? hs)
   have hpm := h.good.pmax
   have hpl := h.sim.plen
   have hw : dn.p.Walk := hg.walk hpm hnn
   have e1 : nd.horizon = dn.p.horizon := hn.hz
   have e2 : nd.up = dn.p.up := hn.up
   have e3 : nd.ents = dn.p.ents.map (·.e) := hn.ents
   have e4 : rwaitN nd.wts (nd.horizon + 1) (R.past.length - 1 - nd.horizon) = waitN dn.p 4 := by
    have e5 : nd.wts = dn.p.waits.map (·.1) := hn.wts
    have e6 : R.past.length - 1 = D.pu.past.length := by omega
    rw [e5, e1, e6]
    exact wait_same hg.hz hpm hg.ws hg.wn
   have hwl := waitN_len dn.p 4
   have hel := hw.el
   refine ⟨dn.p.up, dn.p.horizon, waitN dn.p 4, dn.p.ents.map (·.e), 0, by omega, by rw [List.length_map]; omega, (dlook w xb j D dn h.dev hdn hw).mono fun e w1 hp => ?_, fun w2 h2 => (hdoc w2 h2).mono fun e w3 hq => ?_⟩
   · obtain ⟨wa, wc, ea, ec, e7, HL⟩ := hp
     refine ⟨wa, wc, ea, ec, by rw [e7, List.length_map], ?_⟩
     have hh := HL.out
     have el : dn.p.ents.length = (dn.p.ents.map (·.e)).length := (List.length_map _).symm
     unfold LookOf at hh
     rw [el] at hh
     exact hh
   · rcases hq with ⟨hb, _⟩ | ⟨j', nd', wa, ea, wc, ec, hj', hnd', e7, g1, g2⟩
     · omega
     · obtain rfl : j = j' := by omega
       rw [hnd] at hnd'
       injection hnd' with hnd'
       subst hnd'
       rw [e4] at e7 g1
       rw [e3] at e7 g2
       rw [e1, e2] at e7
       exact ⟨wa, wc, ea, ec, e7, g1, g2⟩
end Go.Proofs.YtpfcacedpkaihaaGreat
