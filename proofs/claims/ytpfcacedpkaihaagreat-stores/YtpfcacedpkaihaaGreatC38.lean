import Derived.Test.YtpfcacedpkaihaaGreatC37
import Derived.Test.YtpfcacedpkaihaaGreatC34
import Derived.Test.YtpfcacedpkaihaaGreatC13
import Derived.BigQuiet
import Derived.Test.YtpfcacedpkaihaaGreatC32
import Derived.Test.YtpfcacedpkaihaaGreatC12
namespace Go.Proofs.YtpfcacedpkaihaaGreat
open Go.RowKit
set_option maxRecDepth 100000
set_option maxHeartbeats 16000000
theorem Sim.hit {P : DP} {R : RefS} (h : Sim P R) {j k i r : Nat} {s : NodeP} {nd : NodeE} {x : HeldE} {y : RdrE} {nm : Int} (v : Value) (hj : j < 6) (hr : (P.seats j).reads = true) (hn : (P.seats j).num = r) (hy : R.rdrs[r]? = some y) (he : y.ended = false) (hlo : y.lo = (P.seats j).lo) (hhi : y.hi = (P.seats j).hi)
 (hs : P.sites[k]? = some s) (hnd : R.nodes[k]? = some nd) (hx : s.ents[i]? = some x) (hm : nd.nms[i]? = some nm) (ht : max y.lo x.e.fr ≤ min y.hi (lastE x.e s.horizon)) :
 Sim (P.hit j k i s x) ((R.spanR r y (max y.lo x.e.fr) (min y.hi (lastE x.e s.horizon))).pushUse nm v) := by
 obtain ⟨hn1, hn2⟩ := flat_names h.names
 obtain ⟨hk, _⟩ := List.getElem?_eq_some_iff.mp hs
 refine ⟨h.past, h.clock, h.rdr.cutS hj hr hn hy ht hlo hhi he, h.puts, h.bd, ?_, ?_, ?_, h.names, h.fresh⟩
 · show R.nodes.length = (P.sites.set k _).length
   rw [List.length_set]; exact h.len
 · intro k' s' nd' hs' hnd'
   have hs2 : (P.sites.set k (s.use i x))[k']? = some s' := hs'
   have hnd2 : R.nodes[k']? = some nd' := hnd'
   show NSim R.past (R.uses ++ [nm]) s' nd'.p
   by_cases hkk : k' = k
   · subst hkk
     rw [List.getElem?_set_self hk] at hs2
     injection hs2 with hs2
     rw [hnd] at hnd2
     injection hnd2 with hnd2
     subst hs2 hnd2
     exact (h.node _ s nd hs hnd).use hx hm (hn1 nd (List.mem_of_getElem? hnd))
   · rw [List.getElem?_set_ne (fun e => hkk e.symm)] at hs2
     exact (h.node k' s' nd' hs2 hnd2).other fun a ha => hn2 k' k nd' nd hnd2 hnd hkk a ha nm (List.mem_of_getElem? hm)
 · intro s' hs'
   rcases List.mem_or_eq_of_mem_set hs' with hs' | rfl
   · exact h.room s' hs'
   · exact h.room s (List.mem_of_getElem? hs)
theorem Sim.miss {P : DP} {R : RefS} (h : Sim P R) {j r : Nat} {y : RdrE} {en : EntE} (v : Value) (hj : j < 6) (hr : (P.seats j).reads = true) (hn : (P.seats j).num = r) (hy : R.rdrs[r]? = some y) (he : y.ended = false) (hlo : y.lo = (P.seats j).lo) (hhi : y.hi = (P.seats j).hi) (hfr : en.fr ≤ y.hi) :
 Sim (P.miss j en) (R.readR r y en v) := by
 have hsp := h.rdr.span y (List.mem_of_getElem? hy)
 have hc := h.rdr.cutS (f := en.fr) (g := y.hi) hj hr hn hy (by rw [Nat.min_self]; omega) hlo hhi he
 rw [Nat.min_self] at hc
 refine ⟨h.past, h.clock, ?_, ?_, h.bd, h.len, h.node, h.room, h.names, h.fresh⟩
 · show SimR P.begun (putSeat P.seats j ((P.seats j).cut en.fr (P.seats j).hi)) (R.rdrs.set r { y with lo := max y.lo en.fr }) P.past.length
   rw [← hhi]
   exact hc
 · show (if R.puts.length < 10 then R.puts ++ [en] else R.puts) = P.joined en
   unfold DP.joined
   rw [h.puts]
theorem taken_of (q : ByteArray) (W : World) (ts : List (Nat × Nat)) (hr : Q.readL q.data.toList = (0, ts)) (h8 : ts.length ≤ 8) (hks : ∀ t ∈ ts, t.1 ≤ 3 ∧ t.2 ≤ 7) :
 Calls Tryz.prog 72 #[.string q] W fun e w' => ∃ l, e = .returned (.tuple #[l, .int .i64 0]) ∧ Below W.heap.size W w' ∧ Taken w' l (keysL ts) (fun p => evalL p.st ts) := by
 refine (rread_good q W ts hr).mono fun e w' hp => ?_
 obtain ⟨g, cap, e1, _, hl, hb⟩ := hp
 refine ⟨.slice (some ⟨g, 0, none⟩) ts.length cap, e1, hb, ⟨_, _, _, rfl⟩, fun V hV => ?_, fun p hp V hV => ?_⟩
 · refine (keysOf_any g cap ts V (hl.below hV) h8 hks).mono fun e2 w2 h2 => ?_
   obtain ⟨e3, rfl⟩ := h2
   exact ⟨e3, Below.refl _ _⟩
 · exact work_any g cap ts p.st V (hl.below hV) h8 hks hp
theorem gone_of {b top : Nat} {s : Nat → SeatE} {l : List RdrE} (h : SimR b s l top) {m : Int} (hall : ∀ i, i < 6 → (s i).reads = true → (s i).num ≠ m) : goneB l m = true := by
 by_cases h0 : m < 0
 · simp [goneB, h0]
 · by_cases h1 : (l.length : Int) ≤ m
   · simp [goneB, h1]
   · obtain ⟨j, rfl⟩ : ∃ j : Nat, m = j := ⟨m.toNat, by omega⟩
     have hlt : j < l.length := by omega
     have he : l[j].ended = true := by
      cases hh : l[j].ended with
      | true => rfl
      | false =>
       obtain ⟨i, hi, hr, hn⟩ := h.back j l[j] (List.getElem?_eq_getElem hlt) hh
       exact absurd hn (hall i hi hr)
     simp only [goneB, h0, h1, decide_false, Bool.false_or, Int.toNat_natCast, List.getElem?_eq_getElem hlt]
     exact he
theorem pair_read {w : World} {xb cb : Nat} {D : DevS} {R : RefS} (h : Pair w xb cb D R) (hus : (R.uses.length + 1) * 8 ≤ 140737488355328) (m : Int) (q : ByteArray) (hq : q.size ≤ maxLen) :
 ∃ (x : Int) (f : Bool) (z : Int), Calls Tryz.prog 38 #[.pointer (some ⟨xb, 0, none⟩), .int .i64 m, .string q] w fun e w1 => e = .returned (.tuple #[.int .i32 x, .bool f, .int .i64 z]) ∧
  Then 39 #[.pointer (some ⟨cb, 0, none⟩), .int .i64 m, .string q] w w1 xb cb D R (.tuple #[.int .i32 x, .bool f, .int .i64 z]) := by
 by_cases hall : ∀ i, i < 6 → (D.seats i).reads = true → (D.seats i).num ≠ m
 · have hg := gone_of (s := D.seats) h.sim.rdr hall
   refine ⟨0, false, 8, (dread_gone w xb D m q h.dev hall).mono fun e w1 hp => ?_⟩
   obtain ⟨e1, k1⟩ := hp
   refine ⟨e1, k1.mono (fun _ => False.elim), fun w2 k2 => (wread_gone w2 cb R m q (h.ref_after (k1.mono (fun _ => False.elim)) k2) h.rfit hg).mono fun e w3 hq => ?_⟩
   exact ⟨hq.1, h.stays k1 k2 (Kept.of_below hq.2 _), Kept.of_below hq.2 _⟩
 · obtain ⟨j, hj, hr, hn⟩ : ∃ j, j < 6 ∧ (D.seats j).reads = true ∧ (D.seats j).num = m := by
    false_or_by_contra
    rename_i hn
    exact hall fun i hi hr e => hn ⟨i, hi, hr, e⟩
   obtain ⟨r, x, hnr, hx, he, hlo, hhi⟩ := h.sim.rdr.seat j hj hr
   have hnr' : (D.seats j).num = r := hnr
   have hlo' : x.lo = (D.seats j).lo := hlo
   have hhi' : x.hi = (D.seats j).hi := hhi
   have hm : m = r := by rw [← hn, hnr']
   have hg : goneB R.rdrs m = false := by rw [hm]; exact goneB_open hx he
   rcases Q.readL_cases q.data.toList with hrd | hrd | ⟨ts, hrd, hne, h8, hks⟩
   · refine ⟨0, false, 3, (dread_bad w xb D m q 3 j h.dev hj hr hn hq (by decide) hrd).mono fun e w1 hp => ?_⟩
     obtain ⟨e1, k1⟩ := hp
     refine ⟨e1, k1.mono (fun _ => False.elim), fun w2 k2 => (wread_bad w2 cb R m q 3 (h.ref_after (k1.mono (fun _ => False.elim)) k2) h.rfit hg (by decide) ((rread_bad q w2 3 hq hrd).mono fun e w3 h3 => ⟨⟨_, h3.1⟩, h3.2.2⟩)).mono fun e w3 hq => ?_⟩
     exact ⟨hq.1, h.stays k1 k2 (Kept.of_below hq.2 _), Kept.of_below hq.2 _⟩
   · refine ⟨0, false, 4, (dread_bad w xb D m q 4 j h.dev hj hr hn hq (by decide) hrd).mono fun e w1 hp => ?_⟩
     obtain ⟨e1, k1⟩ := hp
     refine ⟨e1, k1.mono (fun _ => False.elim), fun w2 k2 => (wread_bad w2 cb R m q 4 (h.ref_after (k1.mono (fun _ => False.elim)) k2) h.rfit hg (by decide) ((rread_bad q w2 4 hq hrd).mono fun e w3 h3 => ⟨⟨_, h3.1⟩, h3.2.2⟩)).mono fun e w3 hq => ?_⟩
     exact ⟨hq.1, h.stays k1 k2 (Kept.of_below hq.2 _), Kept.of_below hq.2 _⟩
   · have hsp := h.sim.rdr.span x (List.mem_of_getElem? hx)
     have hlen := h.sim.plen
     have hpl : D.pu.past.length = D.past.length := rfl
     have hq40 : q.size ≤ 40 := by have := readL_len hrd; rw [Array.length_toList] at this; exact this
     have hone : ∀ i, i < 6 → (D.seats i).reads = true → (D.seats i).num = m → i = j := fun i hi hri hni => h.sim.rdr.one i j hi hj hri hr (hni.trans hn.symm)
     have hwalk := h.good.walk (by omega)
     have hlh : (D.seats j).lo ≤ (D.seats j).hi := by rw [← hlo', ← hhi']; exact hsp.1
     have hnl : R.nodes.length = D.nodes.length := h.sim.len.trans (by show (D.nodes.map _).length = _; simp)
     have hnp := h.rfit.npos
     obtain ⟨k, hk⟩ : ∃ k, k = sumB q.data.toList % R.nodes.length := ⟨_, rfl⟩
     have hkl : k < R.nodes.length := by rw [hk]; exact Nat.mod_lt _ hnp
     have hkD : D.pu.nodeN q = k := by
      show sumB q.data.toList % D.pu.sites.length = k
      rw [← h.sim.len, hk]
     obtain ⟨nd, hnd⟩ : ∃ nd, R.nodes[k]? = some nd := ⟨_, List.getElem?_eq_getElem hkl⟩
     obtain ⟨dn, hdn⟩ : ∃ dn, D.nodes[k]? = some dn := ⟨_, List.getElem?_eq_getElem (by omega)⟩
     have hs : D.pu.sites[k]? = some dn.p := by show (D.nodes.map (·.p))[k]? = _; rw [List.getElem?_map, hdn]; rfl
     have hns := h.sim.node k dn.p nd hs hnd
     have hgs := h.good.sites dn.p (List.mem_of_getElem? hs)
     have hpm := h.good.pmax
     have hents : nd.ents = dn.p.ents.map (·.e) := hns.ents
     have hel : nd.ents.length ≤ 1000 := by
      rw [hents, List.length_map]
      have := hgs.el
      have := hgs.room6
      omega
     have hfi : ∀ e ∈ nd.ents, e.Fit := fun e hem => by
      rw [hents] at hem
      obtain ⟨z, hz, rfl⟩ := List.mem_map.mp hem
      exact (hgs.es z hz).fit hpm
     have hans := hns.ans hgs q x.lo x.hi
     have hlow := (ansN_lt nd.up nd.horizon q x.lo x.hi nd.ents nd.ents.length)
     by_cases hhit : 0 ≤ dn.p.ans q x.lo x.hi dn.p.ents.length
     · obtain ⟨i, hi⟩ : ∃ i : Nat, dn.p.ans q x.lo x.hi dn.p.ents.length = i := ⟨_, (Int.toNat_of_nonneg hhit).symm⟩
       have hil : i < dn.p.ents.length := by
        rw [hans, hi] at hlow
        have := hlow.2
        rw [hents, List.length_map] at this
        omega
       obtain ⟨z, hz⟩ : ∃ z, dn.p.ents[i]? = some z := ⟨_, List.getElem?_eq_getElem hil⟩
       have hy : nd.ents[i]? = some z.e := by rw [hents, List.getElem?_map, hz]; rfl
       have hnml : nd.nms.length = dn.p.ents.length := hns.nml
       obtain ⟨nm, hnm⟩ : ∃ nm, nd.nms[i]? = some nm := ⟨_, List.getElem?_eq_getElem (by omega)⟩
       have hhz : nd.horizon = dn.p.horizon := hns.hz
       have han : ansN nd.up nd.horizon q x.lo x.hi nd.ents nd.ents.length = (i : Int) := hans.trans hi
       have hmt := ansN_meets _ _ _ _ _ _ _ _ _ han hy
       rw [hhz] at hmt
       refine ⟨z.e.val, true, 0, (dread_hit w xb D m q ts j i dn z h.dev hwalk hj hr hn hone hlh hq40 hrd (by rw [hkD]; exact hdn) (by rw [← hlo', ← hhi']; exact hi) hz).mono fun e w1 hp => ⟨hp.1, hp.2.choose_spec.2.2.1, fun w2 k2 => ?_⟩⟩
       have hwr := wread_hit w2 cb R r i q x nd z.e nm (keysL ts) (fun p => evalL p.st ts) (h.ref_after hp.2.choose_spec.2.2.1 k2) h.rfit hx he hq40 (by rw [← hk]; exact hnd) hel hfi han hy hnm hus (taken_of q w2 ts hrd h8 hks)
       rw [hm]
       refine hwr.mono fun e w3 hr3 => ?_
       obtain ⟨e2, v, hb⟩ := hr3
       rw [hhz] at hb
       have hu1 : ((R.spanR r x (max x.lo z.e.fr) (min x.hi (lastE z.e dn.p.horizon))).pushUse nm v).uses.length = R.uses.length + 1 := by show (R.uses ++ [nm]).length = _; simp
       refine ⟨e2, h.turned hp.2 k2 hb ?_ ?_ ?_ (by omega) h.nx0 ?_, hb.2.1⟩
       · rw [hkD]
         exact h.sim.hit v hj hr hnr hx he hlo hhi hs hnd hz hnm hmt.2
       · rw [hu1, hkD]
         exact h.good.hit hs hz
       · refine ⟨h.rfit.pos, h.rfit.pmax, h.rfit.clk0, h.rfit.clk1, ?_, h.rfit.npos, h.rfit.nmax, h.rfit.fmax⟩
         show (R.rdrs.set r _).length ≤ 200
         rw [List.length_set]; exact h.rfit.rmax
       · rw [hu1]
         have := h.nx1
         show R.next ≤ _
         omega
     · have hmi : ansN nd.up nd.horizon q x.lo x.hi nd.ents nd.ents.length = -1 := by omega
       have hsh : (D.seats j).hi ≤ D.past.length := by rw [← hhi']; exact hsp.2
       obtain ⟨p, hp⟩ : ∃ p, R.past[x.hi]? = some p := ⟨_, List.getElem?_eq_getElem (by have := hsp.2; omega)⟩
       obtain ⟨hst, hbd⟩ := at_st h.sim hp
       have hen : D.pu.answer q ts (D.seats j).hi = rightE R.past q (keysL ts) ((fun p : PastE => evalL p.st ts) p) x.hi := by
        rw [← hhi', h.sim.past]
        show rightE _ q _ (evalL (stAt D.pu.past x.hi) ts) _ = _
        rw [hst]
       have hok := answer_ok (P := D.pu) (t := (D.seats j).hi) hrd hsh
       obtain ⟨en, hEn⟩ : ∃ en, en = D.pu.answer q ts (D.seats j).hi := ⟨_, rfl⟩
       have hfr : en.fr ≤ x.hi := by rw [hEn, hen]; exact fromN_le _ _ _
       refine ⟨en.val, false, 0, ?_⟩
       have hdr := dread_miss w xb D m q ts j dn h.dev hwalk hj hr hn hone hlh hsh hq40 hrd (by rw [hkD]; exact hdn) (by rw [← hlo', ← hhi']; omega)
       rw [← hEn] at hdr hok
       refine hdr.mono fun e w1 hd => ⟨hd.1, hd.2.choose_spec.2.2.1, fun w2 k2 => ?_⟩
       have hwr := wread_store w2 cb R r q x p nd (keysL ts) (fun p => evalL p.st ts) (h.ref_after hd.2.choose_spec.2.2.1 k2) h.rfit hx he hp hq40 (by rw [← hk]; exact hnd) hel hfi hmi (by rw [h.sim.puts]; exact h.good.qmax) hbd (taken_of q w2 ts hrd h8 hks)
       rw [← hen, ← hEn] at hwr
       rw [hm]
       refine hwr.mono fun e w3 hr3 => ?_
       obtain ⟨e2, v', hr3, k3, f3⟩ := hr3
       refine ⟨e2, h.turned' hd.2 k2 ⟨hr3, k3, f3⟩ (h.sim.miss v' hj hr hnr hx he hlo hhi hfr) (h.good.miss hok) ⟨h.rfit.pos, h.rfit.pmax, h.rfit.clk0, h.rfit.clk1, ?_, h.rfit.npos, h.rfit.nmax, h.rfit.fmax⟩ rfl rfl, k3⟩
       show (R.rdrs.set r _).length ≤ 200
       rw [List.length_set]; exact h.rfit.rmax
theorem pair_drop {w : World} {xb cb : Nat} {D : DevS} {R : RefS} (h : Pair w xb cb D R) (i : Int) :
 ∃ r : Int, Calls Tryz.prog 43 #[.pointer (some ⟨xb, 0, none⟩), .int .i64 i] w fun e w1 => e = .returned (.int .i64 r) ∧
  Then 44 #[.pointer (some ⟨cb, 0, none⟩), .int .i64 i] w w1 xb cb D R (.int .i64 r) := by
 have hps : R.puts = D.puts := h.sim.puts
 have hqm := h.dfit.qmax
 have hpl : R.puts.length ≤ 10 := by rw [hps]; exact hqm
 by_cases hi : i < 0 ∨ (D.puts.length : Int) ≤ i
 · refine ⟨10, (ddrop w xb D i h.dev h.dfit).mono fun e w1 hp => ?_⟩
   rcases hp with ⟨_, e1, k1⟩ | ⟨a, c, _⟩
   · refine ⟨e1, k1.mono (fun _ => False.elim), fun w2 k2 => (rdrop w2 cb R i (h.ref_after (k1.mono (fun _ => False.elim)) k2) hpl).mono fun e w3 hq => ?_⟩
     rcases hq with ⟨_, e2, rfl⟩ | ⟨a, c, _⟩
     · exact ⟨e2, h.stays k1 k2 (Kept.refl _ _), Kept.refl _ _⟩
     · rw [hps] at c; omega
   · omega
 · refine ⟨0, (ddrop w xb D i h.dev h.dfit).mono fun e w1 hp => ?_⟩
   rcases hp with ⟨a, _⟩ | ⟨_, _, e1, v, hd, k1, f1⟩
   · exact absurd a hi
   · refine ⟨e1, k1, fun w2 k2 => (rdrop w2 cb R i (h.ref_after k1 k2) hpl).mono fun e w3 hq => ?_⟩
     rcases hq with ⟨a, _⟩ | ⟨_, _, e2, v', hr3, k3, f3⟩
     · rw [hps] at a; exact absurd a hi
     · have hgd := h.good.drop i
       have hdp : D.pu.drop i = (0, { D.pu with puts := D.puts.eraseIdx i.toNat }) := by
        unfold DP.drop
        rw [if_neg (show ¬ (i < 0 ∨ (D.pu.puts.length : Int) ≤ i) from hi)]
        rfl
       rw [hdp] at hgd
       refine ⟨e2, h.turned' (P := { D.pu with puts := D.puts.eraseIdx i.toNat }) ⟨_, rfl, hd, k1, f1⟩ k2 ⟨hr3, k3, f3⟩ ⟨h.sim.past, h.sim.clock, h.sim.rdr, ?_, h.sim.bd, h.sim.len, h.sim.node, h.sim.room, h.sim.names, h.sim.fresh⟩ hgd ⟨h.rfit.pos, h.rfit.pmax, h.rfit.clk0, h.rfit.clk1, h.rfit.rmax, h.rfit.npos, h.rfit.nmax, h.rfit.fmax⟩ rfl rfl, k3⟩
       show R.puts.eraseIdx i.toNat = D.puts.eraseIdx i.toNat
       rw [hps]
theorem boxed_s {w w1 : World} {xb cb : Nat} {kd a b c : Int} {s : ByteArray} {l : Value} {F : Nat → Prop} (k : Kept F (boxed w xb cb kd a b c s l) w1) (hF : ∀ i, F i → i < w.heap.size) : w1.cell? ⟨w.heap.size + 1, 4, none⟩ = some (.string s) :=
 k.keep (fun hf => by have := hF _ hf; simp at this; omega) (by simp [boxed])
theorem lreader_read (w : World) (pb xb cb : Nat) (a b c : Int) (s : ByteArray) (ao : Option Addr) (n cap : Nat) (D : DevS) (R : RefS) (h : Pair w xb cb D R) (hus : (R.uses.length + 1) * 8 ≤ 140737488355328) (hs : s.size ≤ maxLen) :
 Calls Tryz.prog 15 #[.pointer (some ⟨pb, 0, none⟩), .agg #[.pointer (some ⟨xb, 0, none⟩), .pointer (some ⟨cb, 0, none⟩)], .agg #[.int .i64 7, .int .i64 a, .int .i64 b, .int .i64 c, .string s, .slice ao n cap]] w fun e w' => StepPost w xb cb D R e w' := by
 have hk := boxed_kept w xb cb 7 a b c s (.slice ao n cap)
 obtain ⟨x, f, z, hr⟩ := pair_read (h.kept hk fun _ _ => id) hus b s hs
 have H0 : Hid (Calls Tryz.prog 38 #[.pointer (some ⟨xb, 0, none⟩), .int .i64 b, .string s] (boxed w xb cb 7 a b c s (.slice ao n cap)) fun e w1 => e = .returned (.tuple #[.int .i32 x, .bool f, .int .i64 z]) ∧ Hid (Then 39 #[.pointer (some ⟨cb, 0, none⟩), .int .i64 b, .string s] (boxed w xb cb 7 a b c s (.slice ao n cap)) w1 xb cb D R (.tuple #[.int .i32 x, .bool f, .int .i64 z]))) := hr
 have HK : Hid (Kept (fun _ => False) w (boxed w xb cb 7 a b c s (.slice ao n cap))) := hk
 have HL : Hid (∀ i, D.fp xb i → i < w.heap.size) := h.dev.lt
 clear hr hk h hs hus
 go_enter Tryz.func15, Tryz.ntmps15
 go_wp2_with first
  | (go_at_call 38; refine H0.out.mono ?_; rintro e w1 ⟨rfl, ht⟩; have q1 := boxed_c ht.out.1 HL.out; have q2 := boxed_b ht.out.1 HL.out; have q4 := boxed_s ht.out.1 HL.out)
  | (go_at_call 39; refine (ht.out.2 _ (Kept.refl _ _)).mono ?_; rintro e w3 ⟨rfl, hz, _⟩; have HZ : Hid (Turned (boxed w xb cb 7 a b c s (.slice ao n cap)) w3 xb cb D R) := hz; clear hz)
 go_ret
 exact ⟨rt_bool (by simp), HZ.out.from HK.out⟩
theorem lmem_drop (w : World) (pb xb cb : Nat) (a b c : Int) (s : ByteArray) (ao : Option Addr) (n cap : Nat) (D : DevS) (R : RefS) (h : Pair w xb cb D R) :
 Calls Tryz.prog 16 #[.pointer (some ⟨pb, 0, none⟩), .agg #[.pointer (some ⟨xb, 0, none⟩), .pointer (some ⟨cb, 0, none⟩)], .agg #[.int .i64 9, .int .i64 a, .int .i64 b, .int .i64 c, .string s, .slice ao n cap]] w fun e w' => StepPost w xb cb D R e w' := by
 have hk := boxed_kept w xb cb 9 a b c s (.slice ao n cap)
 obtain ⟨r, hr⟩ := pair_drop (h.kept hk fun _ _ => id) b
 have H0 : Hid (Calls Tryz.prog 43 #[.pointer (some ⟨xb, 0, none⟩), .int .i64 b] (boxed w xb cb 9 a b c s (.slice ao n cap)) fun e w1 => e = .returned (.int .i64 r) ∧ Hid (Then 44 #[.pointer (some ⟨cb, 0, none⟩), .int .i64 b] (boxed w xb cb 9 a b c s (.slice ao n cap)) w1 xb cb D R (.int .i64 r))) := hr
 have HK : Hid (Kept (fun _ => False) w (boxed w xb cb 9 a b c s (.slice ao n cap))) := hk
 have HL : Hid (∀ i, D.fp xb i → i < w.heap.size) := h.dev.lt
 clear hr hk h
 go_enter Tryz.func16, Tryz.ntmps16
 go_wp2_with first
  | (go_at_call 43; refine H0.out.mono ?_; rintro e w1 ⟨rfl, ht⟩; have q1 := boxed_c ht.out.1 HL.out; have q2 := boxed_b ht.out.1 HL.out)
  | (go_at_call 44; refine (ht.out.2 _ (Kept.refl _ _)).mono ?_; rintro e w3 ⟨rfl, hz, _⟩; have HZ : Hid (Turned (boxed w xb cb 9 a b c s (.slice ao n cap)) w3 xb cb D R) := hz; clear hz)
 go_ret
 exact ⟨rt_bool (by simp), HZ.out.from HK.out⟩
structure Roomed (W w1 : World) (n g cp : Nat) (ws : List (Int × Int)) : Prop where
 room : n + 2 ≤ cp
 new : W.heap.size ≤ g
 left : Left w1 w1 g 0 (ws ++ [farW, farW])
 most : cp ≤ maxLen
 kept : Kept (fun _ => False) W w1
theorem roomed_call {W : World} {xb cb : Nat} {D : DevS} {R : RefS} {ao : Option Addr} {n cap : Nat} {ws : List (Int × Int)} (h : Pair W xb cb D R) (hu : R.uses.length < 9223372036854775807) (hw : Wr W ao n ws) (hreach : n * 16 ≤ 140737488351232) (hno : ao = none → n = 0 ∧ cap = 0)
 (hfar : 0 < n → ∀ a, ao = some a → ¬ pfp xb cb D R a.block) (hwb : BdW ws) :
 Calls Tryz.prog 27 #[.slice ao n cap] W fun e w1 => ∃ (g cp : Nat) (x y : Int), e = .returned (.slice (some ⟨g, 0, none⟩) n cp) ∧ Hid (Roomed W w1 n g cp ws) ∧
  Hid (Calls Tryz.prog 28 #[.pointer (some ⟨xb, 0, none⟩), .slice (some ⟨g, 0, none⟩) n cp] w1 fun e w2 => e = .returned (.tuple #[.int .u64 x, .int .i64 y]) ∧
   Hid (Then 29 #[.pointer (some ⟨cb, 0, none⟩), .slice ao n cap] w1 w2 xb cb D R (.tuple #[.int .u64 x, .int .i64 y]))) := by
 refine (roomy_any W ao n cap ws hw hreach hno).mono fun e w1 hp => ?_
 obtain ⟨g, cp, e1, hcp, hg, hrow, hk⟩ := hp
 obtain ⟨hwr, hleft, hm⟩ := roomy_use hw.len hrow
 have hn : n ≤ maxLen := by unfold maxLen; omega
 obtain ⟨x, y, hc⟩ := pair_commit (h.kept hk fun _ _ => id) hu (some ⟨g, 0, none⟩) ao n cp cap ws hwr (hw.kept hk fun _ _ => id) hn (fun hn a ha hd => hfar hn a ha (.inl hd)) hwb
 exact ⟨g, cp, x, y, e1, ⟨hcp, hg, hleft, hm, hk⟩, hc⟩
theorem still_there {w wc W w1 w3 : World} {xb cb pb g n cp cap : Nat} {D : DevS} {R : RefS} {ao : Option Addr} {ws : List (Int × Int)} (hfar : 0 < n → ∀ a, ao = some a → ¬ pfp xb cb D R a.block ∧ a.block ≠ pb ∧ a.block < wc.heap.size) (hlt : ∀ i, pfp xb cb D R i → i < w.heap.size)
 (hsz : wc.heap.size = w.heap.size) (hw : Wr wc ao n ws) (kW : Kept (fun _ => False) wc W) (hro : Roomed W w1 n g cp ws) (ht : Turned w1 w3 xb cb D R) : Hid (Calls Tryz.prog 30 #[.slice (some ⟨g, 0, none⟩) n cp, .slice ao n cap] w3 fun e w4 => StillPost w3 g e w4) := by
 obtain ⟨_, _, _, hk, _⟩ := ht
 have hg : wc.heap.size ≤ g := Nat.le_trans kW.size hro.new
 have hwr : Wr w3 ao n ws := ((hw.kept kW fun _ _ => id).kept hro.kept fun _ _ => id).kept' hk fun hn a ha => (hfar hn a ha).1
 exact still_any w3 g n cp ao cap ws hwr (fun hn a ha => by have := (hfar hn a ha).2.2; omega) hro.room hro.most (hro.left.kept' hk fun hp => by have := hlt g hp; omega)
theorem lcommit (w : World) (pb xb cb : Nat) (a b c : Int) (s : ByteArray) (ao : Option Addr) (n cap : Nat) (ws : List (Int × Int)) (D : DevS) (R : RefS) (vps b0 b1 b2 : Value) (commits most : Int) (h : Pair w xb cb D R) (hu : R.uses.length < 9223372036854775807)
 (hblk : Blk w pb 34 (playC vps b0 b1 b2 commits most)) (hpb : ¬ pfp xb cb D R pb) (hc0 : 0 ≤ commits) (hc1 : commits ≤ 4611686018427387904) (hw : Wr w ao n ws) (hreach : n * 16 ≤ 140737488351232) (hno : ao = none → n = 0 ∧ cap = 0)
 (hfar : 0 < n → ∀ a, ao = some a → ¬ pfp xb cb D R a.block ∧ a.block ≠ pb ∧ a.block < w.heap.size) (hwb : BdW ws) :
 Calls Tryz.prog 14 #[.pointer (some ⟨pb, 0, none⟩), .agg #[.pointer (some ⟨xb, 0, none⟩), .pointer (some ⟨cb, 0, none⟩)], .agg #[.int .i64 2, .int .i64 a, .int .i64 b, .int .i64 c, .string s, .slice ao n cap]] w fun e w' => LCommitPost w pb xb cb D R vps b0 b1 b2 commits most e w' := by
 have hpl := hblk.lt
 have c4 : w.cell? ⟨pb, 4, none⟩ = some (.int .i64 commits) := hblk.cell 4
 have c5 : w.cell? ⟨pb, 5, none⟩ = some (.int .i64 most) := hblk.cell 5
 have f4 := hblk.free 4
 obtain ⟨wc, hwc⟩ : ∃ wc, wc = w.setCell ⟨pb, 4, none⟩ (.int .i64 (commits + 1)) := ⟨_, rfl⟩
 have kc : Kept (fun k => k = pb) w wc := by rw [hwc]; exact Kept.setCell w ⟨pb, 4, none⟩ _
 have hsz : wc.heap.size = w.heap.size := by rw [hwc]; simp [World.setCell]
 have hbc : Blk wc pb 34 (playC vps b0 b1 b2 (commits + 1) most) := by rw [hwc]; exact hblk.set 4 _
 have hpc : Pair wc xb cb D R := h.kept kc fun j hj e => by rw [e] at hj; exact hpb hj
 have hwr : Wr wc ao n ws := hw.kept' kc fun hn a ha e => (hfar hn a ha).2.1 e
 have HM : Hid (∀ w', Turned wc w' xb cb D R → LCommitPost w pb xb cb D R vps b0 b1 b2 commits most (.returned (.bool true)) w') := fun w' ht => LCommitPost.mk' hpb kc hbc ht
 have HP : Hid (Pair wc xb cb D R) := hpc
 have HWC : Hid (wc = w.setCell ⟨pb, 4, none⟩ (.int .i64 (commits + 1))) := hwc
 have HSZ : Hid (wc.heap.size = w.heap.size) := hsz
 have d4 : wc.cell? ⟨pb, 4, none⟩ = some (.int .i64 (commits + 1)) := hbc.cell 4
 have d5 : wc.cell? ⟨pb, 5, none⟩ = some (.int .i64 most) := hbc.cell 5
 have HD : Hid (wc.cell? ⟨pb, 4, none⟩ = some (.int .i64 (commits + 1)) ∧ wc.cell? ⟨pb, 5, none⟩ = some (.int .i64 most)) := ⟨d4, d5⟩
 by_cases hlt : most < commits + 1
 · clear h hu hpc hwr hw hfar hno hreach hbc hblk hwc hsz kc d4 d5
   go_enter Tryz.func14, Tryz.ntmps14
   go_wp2_with fail
   go_quiet (fail)
   go_wp2
   go_ret
   rw [← HWC.out]
   exact HM.out _ (Turned.same HP.out (((Kept.alloc _ _ (fun _ => False)).allocNew _).drewN _) (fun _ _ => id))
 · have HRO : Hid (∀ W, Kept (fun _ => False) wc W → Calls Tryz.prog 27 #[.slice ao n cap] W fun e w1 => ∃ (g cp : Nat) (x y : Int), e = .returned (.slice (some ⟨g, 0, none⟩) n cp) ∧ Hid (Roomed W w1 n g cp ws) ∧
    Hid (Calls Tryz.prog 28 #[.pointer (some ⟨xb, 0, none⟩), .slice (some ⟨g, 0, none⟩) n cp] w1 fun e w2 => e = .returned (.tuple #[.int .u64 x, .int .i64 y]) ∧
     Hid (Then 29 #[.pointer (some ⟨cb, 0, none⟩), .slice ao n cap] w1 w2 xb cb D R (.tuple #[.int .u64 x, .int .i64 y])))) :=
    fun W hk => roomed_call (hpc.kept hk fun _ _ => id) hu (hwr.kept hk fun _ _ => id) hreach hno (fun hn a ha => (hfar hn a ha).1) hwb
   have HFAR : Hid (0 < n → ∀ a, ao = some a → ¬ pfp xb cb D R a.block ∧ a.block ≠ pb ∧ a.block < wc.heap.size) := by rw [hsz]; exact hfar
   have HWR : Hid (Wr wc ao n ws) := hwr
   have HLT : Hid (∀ i, pfp xb cb D R i → i < w.heap.size) := h.lt
   clear h hu hpc hwr hw hfar hno hreach hbc hblk hwc hsz kc d4 d5
   go_enter Tryz.func14, Tryz.ntmps14
   go_wp2_with fail
   go_quiet (fail)
   rw [← HWC.out]
   obtain ⟨W, hW⟩ : ∃ W, W = (boxed wc xb cb 2 a b c s (.slice ao n cap)).drewN nq := ⟨_, rfl⟩
   have kW : Kept (fun _ => False) wc W := by rw [hW]; exact (boxed_kept _ _ _ _ _ _ _ _ _).drewN _
   have z0 : W.cell? ⟨w.heap.size, 0, none⟩ = some (.pointer (some ⟨xb, 0, none⟩)) := by rw [hW, ← HSZ.out]; show (boxed wc xb cb 2 a b c s (.slice ao n cap)).cell? _ = _; simp [boxed]
   have z1 : W.cell? ⟨w.heap.size, 1, none⟩ = some (.pointer (some ⟨cb, 0, none⟩)) := by rw [hW, ← HSZ.out]; show (boxed wc xb cb 2 a b c s (.slice ao n cap)).cell? _ = _; simp [boxed]
   have z5 : W.cell? ⟨w.heap.size + 1, 5, none⟩ = some (.slice ao n cap) := by rw [hW, ← HSZ.out]; show (boxed wc xb cb 2 a b c s (.slice ao n cap)).cell? _ = _; simp [boxed]
   have hWs : W.heap.size = w.heap.size + 2 := by rw [hW, ← HSZ.out]; exact boxed_size _ _ _ _ _ _ _ _ _
   unfold boxed at hW
   rw [← hW]
   have HZ : Hid (W.cell? ⟨w.heap.size, 0, none⟩ = some (.pointer (some ⟨xb, 0, none⟩)) ∧ W.cell? ⟨w.heap.size, 1, none⟩ = some (.pointer (some ⟨cb, 0, none⟩)) ∧ W.cell? ⟨w.heap.size + 1, 5, none⟩ = some (.slice ao n cap)) := ⟨z0, z1, z5⟩
   have HKW : Hid (Kept (fun _ => False) wc W) := kW
   have HWS : Hid (W.heap.size = w.heap.size + 2) := hWs
   clear hW kW hWs
   go_wp2_with first
    | (go_at_call 27; refine (HRO.out _ HKW.out).mono ?_; rintro e w1 ⟨g, cp, x, y, rfl, hro, hdc⟩; have y0 := hro.out.kept.keep id HZ.out.1; have y1 := hro.out.kept.keep id HZ.out.2.1; have y5 := hro.out.kept.keep id HZ.out.2.2)
    | (go_at_call 28; refine hdc.out.mono ?_; rintro e w2 ⟨rfl, ht⟩; have x1 := ht.out.1.keep (fun hf => Nat.lt_irrefl _ (HLT.out _ (.inl hf))) y1; have x5 := ht.out.1.keep (fun hf => Nat.not_succ_lt_self (HLT.out _ (.inl hf))) y5)
    | (go_at_call 29; refine (ht.out.2 _ (Kept.refl _ _)).mono ?_; rintro e w3 ⟨rfl, hz, hk3⟩; have HT : Hid (Turned w1 w3 xb cb D R) := hz; clear hz; have v5 := hk3.keep (fun hf => Nat.not_succ_lt_self (HLT.out _ (.inr hf))) x5; have HST := still_there (cap := cap) HFAR.out HLT.out HSZ.out HWR.out HKW.out hro.out HT.out; clear hk3)
    | (go_at_call 30; refine HST.out.mono ?_; rintro e w4 ⟨rfl, hk4⟩; have HK4 : Hid (Kept (fun x => x = g) w3 w4) := hk4; clear hk4)
   go_ret
   refine HM.out _ (HT.out.still (HKW.out.trans hro.out.kept (fun _ => id) (fun _ _ => id)) HK4.out (fun i hi => ?_) (by rw [HSZ.out]; exact HLT.out))
   subst hi
   exact ⟨Nat.le_trans HKW.out.size hro.out.new, hro.out.left.lt⟩
theorem Tryz.infoPair : (Tryz.prog.info? 44).map (fun i => (i.zero, i.size, i.bytes)) = some (some (.agg #[.pointer none, .pointer none]), 2, 16) := by kernel_rfl
theorem newP_good0 {r : Int} (h1 : 1 ≤ r) (h2 : r ≤ 6) : (newP r).Good 0 0 :=
 ⟨h1, h2, Nat.le_refl _, by simp [newP], by simp [newP], by simp [newP], by simp [newP]; omega, by simp [newP], by simp [newP], by simp [newP], by simp [newP], by simp [newP]⟩
theorem newD_pu (r : Int) (n : Nat) (vn : Value) : (newD r n vn).pu.sites = List.replicate n (newP r) := by simp [DevS.pu, newD, newDN]
theorem newD_good {r : Int} {n : Nat} (vn : Value) (h1 : 1 ≤ n) (h2 : n ≤ 3) (h3 : 1 ≤ r) (h4 : r ≤ 6) : (newD r n vn).pu.Good 0 := by
 have e := newD_pu r n vn
 refine ⟨by simp [DevS.pu, newD], by simp [DevS.pu, newD], by simp [DevS.pu, newD], by simp [DevS.pu, newD], by simp [DevS.pu, newD], by rw [e, List.length_replicate]; omega, by rw [e, List.length_replicate]; omega, fun s hs => ?_, by simp [DevS.pu, newD]⟩
 rw [e] at hs
 obtain rfl := List.eq_of_mem_replicate hs
 exact newP_good0 h3 h4
theorem new_names (n : Nat) : (List.replicate n upN).flatMap (·.nms) = [] := by
 rw [List.flatMap_eq_nil_iff]
 intro x hx
 obtain rfl := List.eq_of_mem_replicate hx
 rfl
theorem sim_new (r : Int) (n : Nat) (vd vp vn : Value) : Sim (newD r n vd).pu (newR r n vp vn) := by
 have en := newD_pu r n vd
 have nn : (newR r n vp vn).nodes.flatMap (·.nms) = [] := new_names n
 refine ⟨rfl, rfl, ⟨rfl, ?_, ?_, ?_, rfl, ?_⟩, rfl, fun p hp => (by simp [DevS.pu, newD] at hp), ?_, ?_, ?_, by rw [nn]; exact List.nodup_nil, by rw [nn]; intro x hx; cases hx⟩
 · intro i _ h; cases h
 · intro j x h; simp [newR] at h
 · intro i k _ _ h; cases h
 · intro x h; simp [newR] at h
 · rw [en, List.length_replicate]
   show (List.replicate n upN).length = n
   rw [List.length_replicate]
 · intro k s nd hs hnd
   rw [en] at hs
   obtain rfl := List.eq_of_mem_replicate (List.mem_of_getElem? hs)
   obtain rfl := List.eq_of_mem_replicate (List.mem_of_getElem? (show (List.replicate n upN)[k]? = some nd from hnd))
   exact ⟨rfl, rfl, Nat.le_refl _, rfl, rfl, by simp [newP], rfl, by simp [newP], rfl, by show 0 < 1; omega, rfl, by simp [newP], by simp [newP]⟩
 · intro s hs
   rw [en] at hs
   obtain rfl := List.eq_of_mem_replicate hs
   rfl
theorem fit_new (r : Int) (n : Nat) (vp vn : Value) (h1 : 1 ≤ n) (h3 : n ≤ 3) : (newR r n vp vn).Fit := by
 refine ⟨by simp [newR], by simp [newR], by simp [newR], by simp [newR], by simp [newR], ?_, ?_, ?_⟩
 · show 0 < (List.replicate n upN).length; rw [List.length_replicate]; omega
 · show (List.replicate n upN).length ≤ 3; rw [List.length_replicate]; omega
 · intro nd h
   have : nd = upN := List.eq_of_mem_replicate h
   subst this
   exact ⟨by simp [upN, zeroN], by simp [upN, zeroN], by simp [upN, zeroN]⟩
theorem pair_new {w w1 w2 : World} {r : Int} {n : Nat} {xb : Nat} {vd vp vn : Value} (h1 : 1 ≤ n) (h3 : n ≤ 3) (h4 : 1 ≤ r) (h5 : r ≤ 6) (hd : Dev w1 xb (newD r n vd)) (hx : w.heap.size ≤ xb) (hv : ∀ x, vd.ownBlock = some x → w.heap.size ≤ x) (hL : NewL w1 w2 r n vp vn) :
 Pair w2 xb w1.heap.size (newD r n vd) (newR r n vp vn) ∧ (∀ k, pfp xb w1.heap.size (newD r n vd) (newR r n vp vn) k → w.heap.size ≤ k ∧ k < w2.heap.size) := by
 have hp : Pair w2 xb w1.heap.size (newD r n vd) (newR r n vp vn) := ⟨hd.kept hL.kept (fun _ _ => id), hL.ref, sim_new r n vd vp vn, newD_good vd h1 h3 h4 h5, fit_new r n vp vn h1 h3, Int.le_refl _, Int.le_refl _, fun k hk hr => by
  have := hd.lt k hk
  have := hL.new k hr
  omega⟩
 refine ⟨hp, fun k hk => ⟨?_, hp.lt k hk⟩⟩
 rcases hk with hk | hk
 · rcases newD_fp hk with e | e
   · rw [e]; exact hx
   · exact hv k e
 · have := hL.new k hk
   have := hd.blk.lt
   omega
def OpenPost (w : World) (pb : Nat) (vps b0 b1 b2 : Value) (commits most : Int) (m : Nat) (xs : List Value) (e : Ending) (w' : World) : Prop :=
 e = .returned (.bool true) ∧ (Kept (fun _ => False) w w' ∨ ∃ (xb cb : Nat) (D : DevS) (R : RefS) (v : Value), Pair w' xb cb D R ∧ R.uses.length = 0 ∧ Row w' 44 2 v (m + 1) (xs ++ [.pointer (some ⟨xb, 0, none⟩), .pointer (some ⟨cb, 0, none⟩)]) ∧
  Blk w' pb 34 (playC v b0 b1 b2 commits most) ∧ Kept (fun k => k = pb ∨ vps.ownBlock = some k) w w' ∧ (∀ k, pfp xb cb D R k → w.heap.size ≤ k) ∧
  (∀ k, v.ownBlock = some k → vps.ownBlock = some k ∨ w.heap.size ≤ k) ∧ (∀ k, pfp xb cb D R k → v.ownBlock ≠ some k))
theorem open_done {w w2 w3 : World} {pb xb cb : Nat} {D : DevS} {R : RefS} {vps b0 b1 b2 v : Value} {commits most : Int} {m : Nat} {xs : List Value} {o : Obj} (hblk : Blk w pb 34 (playC vps b0 b1 b2 commits most)) (hrow : Row w 44 2 vps m xs)
 (k2 : Kept (fun _ => False) w w2) (hp : Pair w2 xb cb D R) (h0 : R.uses.length = 0) (hf : ∀ k, pfp xb cb D R k → w.heap.size ≤ k ∧ k < w2.heap.size)
 (hA : Appended (w2.alloc o) w3 44 2 vps v m 1 xs [.pointer (some ⟨xb, 0, none⟩), .pointer (some ⟨cb, 0, none⟩)]) :
 OpenPost w pb vps b0 b1 b2 commits most m xs (.returned (.bool true)) (w3.setCell ⟨pb, 0, none⟩ v) := by
 have hA := hA.of_alloc
 have hvlt := hrow.lt
 have hpl := hblk.lt
 have k3 : Kept (fun k => vps.ownBlock = some k) w w3 := k2.trans hA.kept (fun _ => False.elim) (fun _ _ => id)
 have blk3 : Blk w3 pb 34 (playC vps b0 b1 b2 commits most) := hblk.kept k3 fun he => hrow.ne_block hblk (by decide) he
 have kS := Kept.setCell w3 ⟨pb, 0, none⟩ v
 have hp3 : Pair w3 xb cb D R := hp.kept hA.kept fun j hj he => by have := (hf j hj).1; have := hvlt j he; omega
 refine ⟨rfl, .inr ⟨xb, cb, D, R, v, hp3.kept kS fun j hj he => ?_, h0, hA.row.kept kS fun j hj he => ?_, blk3.set 0 v, k3.trans kS (fun _ => .inr) (fun _ _ => .inl), fun k hk => (hf k hk).1, fun k hk => ?_, fun k hk he => ?_⟩⟩
 · have := (hf j hj).1; simp at he; omega
 · subst he
   exact Row.ne_block hA.row blk3 (by decide) hj
 · rcases hA.own with h | h
   · left; rw [← h]; exact hk
   · right; have := h k hk; have := k2.size; omega
 · obtain ⟨a, c⟩ := hf k hk
   rcases hA.own with h | h
   · rw [h] at he; have := hvlt k he; omega
   · have := h k he; omega
theorem oneCell_ptrs (a b : Option Addr) : ∀ u ∈ [Value.pointer a, Value.pointer b], u.oneCell' = true := by
 intro u hu; simp at hu; rcases hu with rfl | rfl <;> rfl
theorem cell_two_new (w : World) (a b : Value) (t : TypeId) : ∀ j u, [a, b][j]? = some u → (w.alloc (.cells #[a, b] t)).cell? ((⟨w.heap.size, 0, none⟩ : Addr).add j) = some u := by
 intro j u hj
 match j, hj with
 | 0, hj => simp at hj; subst hj; simp [Addr.add]
 | 1, hj => simp at hj; subst hj; simp [Addr.add]
 | j + 2, hj => simp at hj
theorem opened_mid {w w1 w2 : World} {o : Obj} {pb q : Nat} {c : Int} {vps b0 b1 b2 : Value} {commits most : Int} {m : Nat} {xs : List Value} (h1 : 1 ≤ q) (h2 : q ≤ 3) (h3 : 1 ≤ c) (h4 : c ≤ 6) (hblk : Blk w pb 34 (playC vps b0 b1 b2 commits most)) (hrow : Row w 44 2 vps m xs)
 (hd : ∃ vd, NewDL (w.alloc o) w1 c q vd) (hL : ∃ vp vn, NewL w1 w2 c q vp vn) :
 w2.cell? ⟨pb, 0, none⟩ = some vps ∧ pb < w2.heap.size ∧ Hid (∀ o, Row (w2.alloc o) 44 2 vps m xs) ∧
  Hid (∀ (o : Obj) (w3 : World) (v : Value), Appended (w2.alloc o) w3 44 2 vps v m 1 xs [.pointer (some ⟨w.heap.size + 1, 0, none⟩), .pointer (some ⟨w1.heap.size, 0, none⟩)] →
   w3.cell? ⟨pb, 0, none⟩ = some vps ∧ w3.frozen? ⟨pb, 0, none⟩ = false ∧ OpenPost w pb vps b0 b1 b2 commits most m xs (.returned (.bool true)) (w3.setCell ⟨pb, 0, none⟩ v)) := by
 obtain ⟨vp, vn, hL⟩ := hL
 obtain ⟨vd, hd⟩ := hd
 have hsz : (w.alloc o).heap.size = w.heap.size + 1 := by simp
 have hdv := hd.dev
 rw [hsz] at hdv
 have k1 : Kept (fun _ => False) w w1 := (Kept.alloc w o (fun _ => False)).trans hd.kept (fun _ => id) (fun _ _ => id)
 have k2 : Kept (fun _ => False) w w2 := k1.trans hL.kept (fun _ => id) (fun _ _ => id)
 have blk2 := hblk.kept k2 id
 have hp := pair_new (w := w) h1 h2 h3 h4 hdv (Nat.le_succ _) (fun x hx => by have := hd.own x hx; omega) hL
 refine ⟨blk2.cell 0, blk2.lt, fun o => (hrow.kept k2 fun _ _ => id).kept (Kept.alloc w2 o (fun _ => False)) (fun _ _ => id), fun o w3 v hA => ?_⟩
 have blk3 : Blk w3 pb 34 (playC vps b0 b1 b2 commits most) := blk2.kept hA.of_alloc.kept fun he => (hrow.kept k2 fun _ _ => id).ne_block blk2 (by decide) he
 exact ⟨blk3.cell 0, blk3.free 0, open_done hblk hrow k2 hp.1 rfl hp.2 hA⟩
theorem opened_bad (w : World) (pb : Nat) (kd a b c : Int) (s : ByteArray) (ao : Option Addr) (n cap : Nat) (vps b0 b1 b2 : Value) (commits most : Int) (m : Nat) (xs : List Value) (r : Int)
 (h0 : ∀ W, Calls Tryz.prog 23 #[.int .i64 b, .int .i64 c] W fun e w' => e = .returned (.tuple #[.pointer none, .int .i64 r]) ∧ W = w')
 (h1 : ∀ W, Calls Tryz.prog 24 #[.int .i64 b, .int .i64 c] W fun e w' => e = .returned (.tuple #[.pointer none, .int .i64 r]) ∧ W = w') :
 Calls Tryz.prog 11 #[.pointer (some ⟨pb, 0, none⟩), .agg #[.int .i64 kd, .int .i64 a, .int .i64 b, .int .i64 c, .string s, .slice ao n cap]] w fun e w' => OpenPost w pb vps b0 b1 b2 commits most m xs e w' := by
 have H0 : Hid (∀ W, Calls Tryz.prog 23 #[.int .i64 b, .int .i64 c] W fun e w' => e = .returned (.tuple #[.pointer none, .int .i64 r]) ∧ W = w') := h0
 have H1 : Hid (∀ W, Calls Tryz.prog 24 #[.int .i64 b, .int .i64 c] W fun e w' => e = .returned (.tuple #[.pointer none, .int .i64 r]) ∧ W = w') := h1
 clear h0 h1
 go_enter Tryz.func11, Tryz.ntmps11
 go_wp2_with first
  | (go_at_call 23; refine (H0.out _).mono ?_; rintro e w1 ⟨rfl, rfl⟩)
  | (go_at_call 24; refine (H1.out _).mono ?_; rintro e w1 ⟨rfl, rfl⟩)
 go_ret
 exact ⟨rfl, .inl (Kept.alloc _ _ _)⟩
theorem opened_good (w : World) (pb : Nat) (kd a c : Int) (q : Nat) (s : ByteArray) (ao : Option Addr) (n cap : Nat) (vps b0 b1 b2 : Value) (commits most : Int) (m : Nat) (xs : List Value) (h1 : 1 ≤ q) (h2 : q ≤ 3) (h3 : 1 ≤ c) (h4 : c ≤ 6)
 (hblk : Blk w pb 34 (playC vps b0 b1 b2 commits most)) (hrow : Row w 44 2 vps m xs) (hm : (m + 1) * 16 ≤ 140737488355328) :
 Calls Tryz.prog 11 #[.pointer (some ⟨pb, 0, none⟩), .agg #[.int .i64 kd, .int .i64 a, .int .i64 (q : Int), .int .i64 c, .string s, .slice ao n cap]] w fun e w' => OpenPost w pb vps b0 b1 b2 commits most m xs e w' := by
 obtain ⟨i0, hi, hz0, hz1, hz2⟩ := info_parts Tryz.infoPair
 have HI : Hid (Tryz.prog.info? 44 = some i0 ∧ i0.zero = some (.agg #[.pointer none, .pointer none]) ∧ i0.size = 2 ∧ i0.bytes = 16) := ⟨hi, hz0, hz1, hz2⟩
 clear hi hz0 hz1 hz2
 obtain ⟨av, cv, hv, _⟩ := hrow.form
 have HR : Hid (Row w 44 2 (.slice av m cv) m xs) := by rw [← hv]; exact hrow
 have HB : Hid (Blk w pb 34 (playC (.slice av m cv) b0 b1 b2 commits most)) := by rw [← hv]; exact hblk
 have hpl := hblk.lt
 subst hv
 have HN0 : Hid (∀ W, Calls Tryz.prog 23 #[.int .i64 (q : Int), .int .i64 c] W fun e w' => e = .returned (.tuple #[.pointer (some ⟨W.heap.size, 0, none⟩), .int .i64 0]) ∧ Hid (∃ vd, NewDL W w' c q vd)) := fun W => dnew q c W h1 h2 h3 h4
 have HN1 : Hid (∀ W, Calls Tryz.prog 24 #[.int .i64 (q : Int), .int .i64 c] W fun e w' => e = .returned (.tuple #[.pointer (some ⟨W.heap.size, 0, none⟩), .int .i64 0]) ∧ Hid (∃ vp vn, NewL W w' c q vp vn)) := fun W => rnew q c W h1 h2 h3 h4
 have b1' : m + 1 ≤ maxLen := by unfold maxLen; omega
 have HA0 : Hid (∀ w1, Kept (fun _ => False) (w.alloc (.cells #[.int .i64 kd, .int .i64 a, .int .i64 (q : Int), .int .i64 c, .string s, .slice ao n cap] 37)) w1 → w1.cell? ⟨w.heap.size, 2, none⟩ = some (.int .i64 (q : Int)) ∧ w1.cell? ⟨w.heap.size, 3, none⟩ = some (.int .i64 c)) := fun w1 k => ⟨k.keep id (by simp), k.keep id (by simp)⟩
 clear hblk hrow
 go_enter Tryz.func11, Tryz.ntmps11
 go_wp2_with first
  | (go_at_call 23; refine (HN0.out _).mono ?_; rintro e w1 ⟨rfl, hd⟩; obtain ⟨y2, y3⟩ := HA0.out _ (have ⟨_, x⟩ := hd.out; x.kept))
  | (go_at_call 24; refine (HN1.out _).mono ?_; rintro e w2 ⟨rfl, hL⟩; obtain ⟨p0, hp2, HROW, HAFT⟩ := opened_mid h1 h2 h3 h4 HB.out HR.out hd.out hL.out)
  | (at_builtin; go_must (refine wpList_append_mine _ rfl (.tmp 41) (.tmp 45) 27 rfl 44 i0 (.agg #[.pointer none, .pointer none]) 2 16 Tryz.underlying27 HI.out.1 HI.out.2.1 HI.out.2.2.1 HI.out.2.2.2 rfl (by decide) (.slice av m cv) m xs rfl (HROW.out _) ⟨w2.heap.size, 0, none⟩ 1 1 [.pointer (some ⟨w.heap.size + 1, 0, none⟩), .pointer (some ⟨w1.heap.size, 0, none⟩)] rfl rfl (cell_two_new w2 _ _ _) (oneCell_ptrs _ _) b1' hm ?_); intro v' w3 hA; obtain ⟨r0, r1, r2⟩ := HAFT.out _ _ _ hA; have HDONE : Hid (OpenPost w pb (.slice av m cv) b0 b1 b2 commits most m xs (.returned (.bool true)) (w3.setCell ⟨pb, 0, none⟩ v')) := r2; clear r2; obtain ⟨ao', cap', hv', _⟩ := hA.row.form; clear hA; subst hv')
 go_ret
 exact HDONE.out
theorem lopened (w : World) (pb : Nat) (kd a b c : Int) (s : ByteArray) (ao : Option Addr) (n cap : Nat) (vps b0 b1 b2 : Value) (commits most : Int) (m : Nat) (xs : List Value)
 (hblk : Blk w pb 34 (playC vps b0 b1 b2 commits most)) (hrow : Row w 44 2 vps m xs) (hm : (m + 1) * 16 ≤ 140737488355328) :
 Calls Tryz.prog 11 #[.pointer (some ⟨pb, 0, none⟩), .agg #[.int .i64 kd, .int .i64 a, .int .i64 b, .int .i64 c, .string s, .slice ao n cap]] w fun e w' => OpenPost w pb vps b0 b1 b2 commits most m xs e w' := by
 by_cases hb : b < 1 ∨ 3 < b
 · exact opened_bad w pb kd a b c s ao n cap vps b0 b1 b2 commits most m xs 1 (fun W => dnew_nodes b c W hb) (fun W => rnew_nodes b c W hb)
 · by_cases hc : c < 1 ∨ 6 < c
   · exact opened_bad w pb kd a b c s ao n cap vps b0 b1 b2 commits most m xs 2 (fun W => dnew_room b c W (by omega) (by omega) hc) (fun W => rnew_room b c W (by omega) (by omega) hc)
   · obtain ⟨q, rfl⟩ : ∃ q : Nat, b = q := ⟨b.toNat, by omega⟩
     exact opened_good w pb kd a c q s ao n cap vps b0 b1 b2 commits most m xs (by omega) (by omega) (by omega) (by omega) hblk hrow hm
structure PairE where
 xb : Nat
 cb : Nat
 D : DevS
 R : RefS
def pairC (p : PairE) : List Value := [.pointer (some ⟨p.xb, 0, none⟩), .pointer (some ⟨p.cb, 0, none⟩)]
def PairE.fp (p : PairE) (k : Nat) : Prop := pfp p.xb p.cb p.D p.R k
structure Inv (B : Nat) (X : Nat → Prop) (w0 w : World) (pb : Nat) (ps : List PairE) (vps b0 b1 b2 : Value) (commits most : Int) : Prop where
 below : Below B w0 w
 blk : Blk w pb 34 (playC vps b0 b1 b2 commits most)
 row : Row w 44 2 vps ps.length (ps.flatMap pairC)
 each : ∀ p ∈ ps, Pair w p.xb p.cb p.D p.R
 sep : ∀ (i j : Nat) (a c : PairE), ps[i]? = some a → ps[j]? = some c → i ≠ j → ∀ k, a.fp k → ¬ c.fp k
 own : ∀ p ∈ ps, ∀ k, p.fp k → B ≤ k ∧ k ≠ pb ∧ vps.ownBlock ≠ some k ∧ ¬ X k
 pB : B ≤ pb ∧ ¬ X pb
 vB : ∀ k, vps.ownBlock = some k → B ≤ k ∧ ¬ X k
 xlt : ∀ k, X k → k < w.heap.size
 bsz : B ≤ w0.heap.size
theorem below_kept {B : Nat} {F : Nat → Prop} {w0 w w' : World} (h : Below B w0 w) (k : Kept F w w') (hB : B ≤ w0.heap.size) (hF : ∀ i, F i → B ≤ i) : Below B w0 w' :=
 ⟨k.os.trans h.os, k.tape.trans h.tape, k.output.trans h.output, Nat.le_trans h.size k.size, fun i hi =>
  (k.block i (by have := h.size; omega) (fun hf => by have := hF i hf; omega)).trans (h.block i hi)⟩
theorem Inv.kept {B : Nat} {X : Nat → Prop} {w0 w w' : World} {pb : Nat} {ps : List PairE} {vps b0 b1 b2 : Value} {commits most : Int} (h : Inv B X w0 w pb ps vps b0 b1 b2 commits most) (k : Kept (fun _ => False) w w') : Inv B X w0 w' pb ps vps b0 b1 b2 commits most :=
 ⟨below_kept h.below k h.bsz (fun _ => False.elim), h.blk.kept k id, h.row.kept k (fun _ _ => id), fun p hp => (h.each p hp).kept k (fun _ _ => id), h.sep, h.own, h.pB, h.vB, fun i hi => Nat.lt_of_lt_of_le (h.xlt i hi) k.size, h.bsz⟩
theorem flat_same_r {ps : List PairE} {i : Nat} {p p' : PairE} (hp : ps[i]? = some p) (he : pairC p' = pairC p) : (ps.set i p').flatMap pairC = ps.flatMap pairC := by
 induction ps generalizing i with
 | nil => simp at hp
 | cons a r ih =>
  match i with
  | 0 => simp at hp; subst hp; simp [he]
  | i + 1 => simp at hp; simp [ih hp]
theorem Inv.turn {B : Nat} {X : Nat → Prop} {w0 w w' : World} {pb : Nat} {ps : List PairE} {vps b0 b1 b2 : Value} {commits most commits' : Int} {i : Nat} {p : PairE} {D' : DevS} {R' : RefS} (h : Inv B X w0 w pb ps vps b0 b1 b2 commits most) (hi : ps[i]? = some p)
 (hp : Pair w' p.xb p.cb D' R') (hk : Kept (fun k => k = pb ∨ p.fp k) w w') (hf : ∀ k, pfp p.xb p.cb D' R' k → p.fp k ∨ w.heap.size ≤ k) (hb : Blk w' pb 34 (playC vps b0 b1 b2 commits' most)) :
 Inv B X w0 w' pb (ps.set i { p with D := D', R := R' }) vps b0 b1 b2 commits' most ∧ Kept (fun k => ¬ X k) w w' := by
 have hm : p ∈ ps := List.mem_of_getElem? hi
 have hlt := (List.getElem?_eq_some_iff.mp hi).1
 have hpl := h.blk.lt
 have hBw : B ≤ w.heap.size := Nat.le_trans h.bsz h.below.size
 have hF : ∀ k, (k = pb ∨ p.fp k) → B ≤ k ∧ ¬ X k := by
  rintro k (rfl | hk)
  · exact h.pB
  · exact ⟨(h.own p hm k hk).1, (h.own p hm k hk).2.2.2⟩
 have others : ∀ (j : Nat) (a : PairE), ps[j]? = some a → j ≠ i → Pair w' a.xb a.cb a.D a.R := by
  intro j a ha hj
  refine (h.each a (List.mem_of_getElem? ha)).kept hk ?_
  rintro k hka (e | hkp)
  · exact (h.own a (List.mem_of_getElem? ha) k hka).2.1 e
  · exact h.sep j i a p ha hi hj k hka hkp
 have getS : ∀ (j : Nat) (a : PairE), (ps.set i { p with D := D', R := R' })[j]? = some a → (j = i ∧ a = { p with D := D', R := R' }) ∨ (j ≠ i ∧ ps[j]? = some a) := by
  intro j a ha
  by_cases e : j = i
  · subst e; rw [List.getElem?_set_self hlt] at ha; injection ha with ha; exact .inl ⟨rfl, ha.symm⟩
  · rw [List.getElem?_set_ne (fun z => e z.symm)] at ha; exact .inr ⟨e, ha⟩
 refine ⟨⟨below_kept h.below hk h.bsz (fun k hk => (hF k hk).1), hb, ?_, ?_, ?_, ?_, h.pB, h.vB, fun k hx => Nat.lt_of_lt_of_le (h.xlt k hx) hk.size, h.bsz⟩, hk.mono (fun k hk => (hF k hk).2)⟩
 · rw [List.length_set, flat_same_r (p' := { p with D := D', R := R' }) hi rfl]
   refine h.row.kept hk ?_
   rintro k hv (rfl | hkp)
   · exact h.row.ne_block h.blk (by decide) hv
   · exact (h.own p hm k hkp).2.2.1 hv
 · intro a ha
   obtain ⟨j, hj⟩ := List.getElem?_of_mem ha
   rcases getS j a hj with ⟨_, rfl⟩ | ⟨hne, hj'⟩
   · exact hp
   · exact others j a hj' hne
 · intro j1 j2 a c ha hc hne k hka hkc
   rcases getS j1 a ha with ⟨e1, rfl⟩ | ⟨n1, ha'⟩
   · rcases getS j2 c hc with ⟨e2, _⟩ | ⟨n2, hc'⟩
     · omega
     · rcases hf k hka with x | x
       · exact h.sep i j2 p c hi hc' (fun z => n2 z.symm) k x hkc
       · have := (h.each c (List.mem_of_getElem? hc')).lt k hkc; omega
   · rcases getS j2 c hc with ⟨e2, rfl⟩ | ⟨n2, hc'⟩
     · rcases hf k hkc with x | x
       · exact h.sep j1 i a p ha' hi n1 k hka x
       · have := (h.each a (List.mem_of_getElem? ha')).lt k hka; omega
     · exact h.sep j1 j2 a c ha' hc' hne k hka hkc
 · intro a ha k hk
   obtain ⟨j, hj⟩ := List.getElem?_of_mem ha
   rcases getS j a hj with ⟨_, rfl⟩ | ⟨_, hj'⟩
   · rcases hf k hk with x | x
     · exact h.own p hm k x
     · refine ⟨by omega, by omega, fun hv => ?_, fun hx => ?_⟩
       · have := h.row.lt k hv; omega
       · have := h.xlt k hx; omega
   · exact h.own a (List.mem_of_getElem? hj') k hk
theorem Inv.more {B : Nat} {X : Nat → Prop} {w0 w w' : World} {pb xb cb : Nat} {ps : List PairE} {vps b0 b1 b2 v : Value} {commits most : Int} {D : DevS} {R : RefS} (h : Inv B X w0 w pb ps vps b0 b1 b2 commits most) (hp : Pair w' xb cb D R)
 (hr : Row w' 44 2 v (ps.length + 1) (ps.flatMap pairC ++ [.pointer (some ⟨xb, 0, none⟩), .pointer (some ⟨cb, 0, none⟩)])) (hb : Blk w' pb 34 (playC v b0 b1 b2 commits most))
 (hk : Kept (fun k => k = pb ∨ vps.ownBlock = some k) w w') (hn : ∀ k, pfp xb cb D R k → w.heap.size ≤ k) (hv : ∀ k, v.ownBlock = some k → vps.ownBlock = some k ∨ w.heap.size ≤ k) (hs : ∀ k, pfp xb cb D R k → v.ownBlock ≠ some k) :
 Inv B X w0 w' pb (ps ++ [⟨xb, cb, D, R⟩]) v b0 b1 b2 commits most ∧ Kept (fun k => ¬ X k) w w' := by
 have hpl := h.blk.lt
 have hBw : B ≤ w.heap.size := Nat.le_trans h.bsz h.below.size
 have hF : ∀ k, (k = pb ∨ vps.ownBlock = some k) → B ≤ k ∧ ¬ X k := by
  rintro k (rfl | hk)
  · exact h.pB
  · exact h.vB k hk
 have old : ∀ a ∈ ps, Pair w' a.xb a.cb a.D a.R := fun a ha => (h.each a ha).kept hk (by
  rintro k hka (e | hkv)
  · exact (h.own a ha k hka).2.1 e
  · exact (h.own a ha k hka).2.2.1 hkv)
 have getA : ∀ (j : Nat) (a : PairE), (ps ++ [(⟨xb, cb, D, R⟩ : PairE)])[j]? = some a → (j = ps.length ∧ a = ⟨xb, cb, D, R⟩) ∨ (j < ps.length ∧ ps[j]? = some a) := by
  intro j a ha
  by_cases e : j < ps.length
  · rw [List.getElem?_append_left e] at ha; exact .inr ⟨e, ha⟩
  · have hl := (List.getElem?_eq_some_iff.mp ha).1
    have : j = ps.length := by simp at hl; omega
    subst this
    simp at ha
    exact .inl ⟨rfl, ha.symm⟩
 refine ⟨⟨below_kept h.below hk h.bsz (fun k hk => (hF k hk).1), hb, ?_, ?_, ?_, ?_, h.pB, ?_, fun k hx => Nat.lt_of_lt_of_le (h.xlt k hx) hk.size, h.bsz⟩, hk.mono (fun k hk => (hF k hk).2)⟩
 · rw [List.length_append, List.flatMap_append]; exact hr
 · intro a ha
   rw [List.mem_append] at ha
   rcases ha with ha | ha
   · exact old a ha
   · simp at ha; subst ha; exact hp
 · intro j1 j2 a c ha hc hne k hka hkc
   rcases getA j1 a ha with ⟨e1, rfl⟩ | ⟨l1, ha'⟩
   · rcases getA j2 c hc with ⟨e2, _⟩ | ⟨l2, hc'⟩
     · omega
     · have := (h.each c (List.mem_of_getElem? hc')).lt k hkc; have := hn k hka; omega
   · rcases getA j2 c hc with ⟨e2, rfl⟩ | ⟨l2, hc'⟩
     · have := (h.each a (List.mem_of_getElem? ha')).lt k hka; have := hn k hkc; omega
     · exact h.sep j1 j2 a c ha' hc' hne k hka hkc
 · intro a ha k hk
   rw [List.mem_append] at ha
   rcases ha with ha | ha
   · have o := h.own a ha k hk
     refine ⟨o.1, o.2.1, fun hvk => ?_, o.2.2.2⟩
     rcases hv k hvk with x | x
     · exact o.2.2.1 x
     · have := (h.each a ha).lt k hk; omega
   · simp at ha; subst ha
     have := hn k hk
     refine ⟨by omega, by omega, hs k hk, fun hx => ?_⟩
     have := h.xlt k hx; omega
 · intro k hk
   rcases hv k hk with x | x
   · exact h.vB k x
   · exact ⟨by omega, fun hx => by have := h.xlt k hx; omega⟩
def SPost (B : Nat) (X : Nat → Prop) (w0 w : World) (pb : Nat) (ps : List PairE) (b0 b1 b2 : Value) (commits most : Int) (e : Ending) (w' : World) : Prop :=
 e = .returned (.bool true) ∧ Kept (fun k => ¬ X k) w w' ∧ ∃ ps' vps' commits', Inv B X w0 w' pb ps' vps' b0 b1 b2 commits' most ∧ ps'.length ≤ ps.length + 1 ∧ (commits' = commits ∨ commits' = commits + 1) ∧ ∀ M, (∀ p ∈ ps, p.R.uses.length ≤ M) → ∀ p ∈ ps', p.R.uses.length ≤ M + 1
theorem uses_set {ps : List PairE} {i M : Nat} {p : PairE} {D' : DevS} {R' : RefS} (hi : ps[i]? = some p) (hu : R'.uses.length ≤ p.R.uses.length + 1) (hM : ∀ p ∈ ps, p.R.uses.length ≤ M) : ∀ q ∈ ps.set i { p with D := D', R := R' }, q.R.uses.length ≤ M + 1 := by
 intro q hq
 rcases List.mem_or_eq_of_mem_set hq with hq | rfl
 · exact Nat.le_succ_of_le (hM q hq)
 · have := hM p (List.mem_of_getElem? hi)
   show R'.uses.length ≤ M + 1
   omega
theorem SPost.of_turned {B : Nat} {X : Nat → Prop} {w0 w w' : World} {pb : Nat} {ps : List PairE} {vps b0 b1 b2 : Value} {commits most : Int} {i : Nat} {p : PairE} (h : Inv B X w0 w pb ps vps b0 b1 b2 commits most) (hi : ps[i]? = some p) (ht : Turned w w' p.xb p.cb p.D p.R) :
 SPost B X w0 w pb ps b0 b1 b2 commits most (.returned (.bool true)) w' := by
 obtain ⟨D', R', hp, hk, hf, hu⟩ := ht
 have hb := h.blk.kept hk fun hpf => (h.own p (List.mem_of_getElem? hi) pb hpf).2.1 rfl
 obtain ⟨z1, z2⟩ := h.turn hi hp (hk.mono fun _ => .inr) hf hb
 exact ⟨rfl, z2, _, _, _, z1, by rw [List.length_set]; omega, .inl rfl, fun M hM => uses_set hi hu hM⟩
theorem SPost.of_commit {B : Nat} {X : Nat → Prop} {w0 w w' : World} {pb : Nat} {ps : List PairE} {vps b0 b1 b2 : Value} {commits most : Int} {i : Nat} {p : PairE} {e : Ending} (h : Inv B X w0 w pb ps vps b0 b1 b2 commits most) (hi : ps[i]? = some p) (ht : LCommitPost w pb p.xb p.cb p.D p.R vps b0 b1 b2 commits most e w') :
 SPost B X w0 w pb ps b0 b1 b2 commits most e w' := by
 obtain ⟨e1, hb, D', R', hp, hk, hf, hu⟩ := ht
 obtain ⟨z1, z2⟩ := h.turn hi hp hk hf hb
 exact ⟨e1, z2, _, _, _, z1, by rw [List.length_set]; omega, .inr rfl, fun M hM => uses_set hi hu hM⟩
theorem SPost.of_open {B : Nat} {X : Nat → Prop} {w0 w w' : World} {pb : Nat} {ps : List PairE} {vps b0 b1 b2 : Value} {commits most : Int} {e : Ending} (h : Inv B X w0 w pb ps vps b0 b1 b2 commits most) (ht : OpenPost w pb vps b0 b1 b2 commits most ps.length (ps.flatMap pairC) e w') :
 SPost B X w0 w pb ps b0 b1 b2 commits most e w' := by
 obtain ⟨e1, hk | ⟨xb, cb, D, R, v, hp, h0, hr, hb, hk, hn, hv, hs⟩⟩ := ht
 · exact ⟨e1, hk.mono (fun _ => False.elim), ps, vps, commits, h.kept hk, by omega, .inl rfl, fun M hM p hp => Nat.le_succ_of_le (hM p hp)⟩
 · obtain ⟨z1, z2⟩ := h.more hp hr hb hk hn hv hs
   exact ⟨e1, z2, _, _, _, z1, by simp, .inl rfl, fun M hM p hp => by
    rw [List.mem_append, List.mem_singleton] at hp
    rcases hp with hp | rfl
    · exact Nat.le_succ_of_le (hM p hp)
    · show R.uses.length ≤ M + 1; omega⟩
theorem SPost.from {B : Nat} {X : Nat → Prop} {w0 w w1 w' : World} {pb : Nat} {ps : List PairE} {b0 b1 b2 : Value} {commits most : Int} {e : Ending} (h : SPost B X w0 w1 pb ps b0 b1 b2 commits most e w') (k : Kept (fun _ => False) w w1) : SPost B X w0 w pb ps b0 b1 b2 commits most e w' := by
 obtain ⟨e1, hk, r⟩ := h
 exact ⟨e1, k.trans hk (fun _ => False.elim) (fun _ _ => id), r⟩
end Go.Proofs.YtpfcacedpkaihaaGreat
