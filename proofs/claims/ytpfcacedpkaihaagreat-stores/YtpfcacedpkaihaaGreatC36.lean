import Derived.Test.YtpfcacedpkaihaaGreatC32
import Derived.Test.YtpfcacedpkaihaaGreatC34
import Derived.Test.YtpfcacedpkaihaaGreatC35
import Derived.Test.YtpfcacedpkaihaaGreatC30
import Derived.Test.YtpfcacedpkaihaaGreatC3
import Derived.BigQuiet
import Derived.Test.YtpfcacedpkaihaaGreatC31
namespace Go.Proofs.YtpfcacedpkaihaaGreat
open Go.RowKit
set_option maxRecDepth 100000
set_option maxHeartbeats 16000000
theorem Sim.hit {P : DP} {R : RefS} (h : Sim P R) {j k i r : Nat} {s : NodeP} {nd : NodeE} {x : HeldE} {y : RdrE} {nm : Int} (v : Value) (hj : j < 6) (hr : (P.seats j).reads = true) (hn : (P.seats j).num = r) (hy : R.rdrs[r]? = some y) (he : y.ended = false) (hlo : y.lo = (P.seats j).lo) (hhi : y.hi = (P.seats j).hi)
  (hs : P.sites[k]? = some s) (hnd : R.nodes[k]? = some nd) (hx : s.ents[i]? = some x) (hm : nd.nms[i]? = some nm) (ht : max y.lo x.e.fr ≤ min y.hi (lastE x.e s.horizon)) :
  Sim (P.hit j k i s x) ((R.spanR r y (max y.lo x.e.fr) (min y.hi (lastE x.e s.horizon))).pushUse nm v) := by
 obtain ⟨hn1, hn2⟩ := flat_names h.names
 obtain ⟨hk, _⟩ := List.getElem?_eq_some_iff.mp hs
 refine ⟨h.past, h.clock, h.rdr.cutS hj hr hn hy ht hlo hhi he, h.puts, h.bd, ?_, ?_, ?_, h.names, h.fresh⟩
 · show R.nodes.length = (P.sites.set k _).length
  rw [List.length_set]; exact h.len
 · intro k' s' nd' hs' hnd'
  have hs2 : (P.sites.set k (s.use i x))[k']? = some s' := hs'
  have hnd2 : R.nodes[k']? = some nd' := hnd'
  show NSim R.past (R.uses ++ [nm]) s' nd'.p
  by_cases hkk : k' = k
  · subst hkk
   rw [List.getElem?_set_self hk] at hs2
   injection hs2 with hs2
   rw [hnd] at hnd2
   injection hnd2 with hnd2
   subst hs2 hnd2
   exact (h.node _ s nd hs hnd).use hx hm (hn1 nd (List.mem_of_getElem? hnd))
  · rw [List.getElem?_set_ne (fun e => hkk e.symm)] at hs2
   exact (h.node k' s' nd' hs2 hnd2).other fun a ha => hn2 k' k nd' nd hnd2 hnd hkk a ha nm (List.mem_of_getElem? hm)
 · intro s' hs'
  rcases List.mem_or_eq_of_mem_set hs' with hs' | rfl
  · exact h.room s' hs'
  · exact h.room s (List.mem_of_getElem? hs)
theorem Sim.miss {P : DP} {R : RefS} (h : Sim P R) {j r : Nat} {y : RdrE} {en : EntE} (v : Value) (hj : j < 6) (hr : (P.seats j).reads = true) (hn : (P.seats j).num = r) (hy : R.rdrs[r]? = some y) (he : y.ended = false) (hlo : y.lo = (P.seats j).lo) (hhi : y.hi = (P.seats j).hi) (hfr : en.fr ≤ y.hi) :
  Sim (P.miss j en) (R.readR r y en v) := by
 have hsp := h.rdr.span y (List.mem_of_getElem? hy)
 have hc := h.rdr.cutS (f := en.fr) (g := y.hi) hj hr hn hy (by rw [Nat.min_self]; omega) hlo hhi he
 rw [Nat.min_self] at hc
 refine ⟨h.past, h.clock, ?_, ?_, h.bd, h.len, h.node, h.room, h.names, h.fresh⟩
 · show SimR P.begun (putSeat P.seats j ((P.seats j).cut en.fr (P.seats j).hi)) (R.rdrs.set r { y with lo := max y.lo en.fr }) P.past.length
  rw [← hhi]
  exact hc
 · show (if R.puts.length < 10 then R.puts ++ [en] else R.puts) = P.joined en
  unfold DP.joined
  rw [h.puts]
theorem taken_of (q : ByteArray) (W : World) (ts : List (Nat × Nat)) (hr : Q.readL q.data.toList = (0, ts)) (h8 : ts.length ≤ 8) (hks : ∀ t ∈ ts, t.1 ≤ 3 ∧ t.2 ≤ 7) :
  Calls Tryz.prog 72 #[.string q] W fun e w' => ∃ l, e = .returned (.tuple #[l, .int .i64 0]) ∧ Below W.heap.size W w' ∧ Taken w' l (keysL ts) (fun p => evalL p.st ts) := by
 refine (rread_good q W ts hr).mono fun e w' hp => ?_
 obtain ⟨g, cap, e1, _, hl, hb⟩ := hp
 refine ⟨.slice (some ⟨g, 0, none⟩) ts.length cap, e1, hb, ⟨_, _, _, rfl⟩, fun V hV => ?_, fun p hp V hV => ?_⟩
 · refine (keysOf_any g cap ts V (hl.below hV) h8 hks).mono fun e2 w2 h2 => ?_
  obtain ⟨e3, rfl⟩ := h2
  exact ⟨e3, Below.refl _ _⟩
 · exact work_any g cap ts p.st V (hl.below hV) h8 hks hp
theorem gone_of {b top : Nat} {s : Nat → SeatE} {l : List RdrE} (h : SimR b s l top) {m : Int} (hall : ∀ i, i < 6 → (s i).reads = true → (s i).num ≠ m) : goneB l m = true := by
 by_cases h0 : m < 0
 · simp [goneB, h0]
 · by_cases h1 : (l.length : Int) ≤ m
  · simp [goneB, h1]
  · obtain ⟨j, rfl⟩ : ∃ j : Nat, m = j := ⟨m.toNat, by omega⟩
   have hlt : j < l.length := by omega
   have he : l[j].ended = true := by
    cases hh : l[j].ended with
    | true => rfl
    | false =>
     obtain ⟨i, hi, hr, hn⟩ := h.back j l[j] (List.getElem?_eq_getElem hlt) hh
     exact absurd hn (hall i hi hr)
   simp only [goneB, h0, h1, decide_false, Bool.false_or, Int.toNat_natCast, List.getElem?_eq_getElem hlt]
   exact he
theorem pair_read {w : World} {xb cb : Nat} {D : DevS} {R : RefS} (h : Pair w xb cb D R) (hus : (R.uses.length + 1) * 8 ≤ 140737488355328) (m : Int) (q : ByteArray) (hq : q.size ≤ maxLen) :
  ∃ (x : Int) (f : Bool) (z : Int), Calls Tryz.prog 38 #[.pointer (some ⟨xb, 0, none⟩), .int .i64 m, .string q] w fun e w1 => e = .returned (.tuple #[.int .i32 x, .bool f, .int .i64 z]) ∧
   Then 39 #[.pointer (some ⟨cb, 0, none⟩), .int .i64 m, .string q] w w1 xb cb D R (.tuple #[.int .i32 x, .bool f, .int .i64 z]) := by
 by_cases hall : ∀ i, i < 6 → (D.seats i).reads = true → (D.seats i).num ≠ m
 · have hg := gone_of (s := D.seats) h.sim.rdr hall
  refine ⟨0, false, 8, (dread_gone w xb D m q h.dev hall).mono fun e w1 hp => ?_⟩
  obtain ⟨e1, k1⟩ := hp
  refine ⟨e1, k1.mono (fun _ => False.elim), fun w2 k2 => (wread_gone w2 cb R m q (h.ref_after (k1.mono (fun _ => False.elim)) k2) h.rfit hg).mono fun e w3 hq => ?_⟩
  exact ⟨hq.1, h.stays k1 k2 (Kept.of_below hq.2 _), Kept.of_below hq.2 _⟩
 · obtain ⟨j, hj, hr, hn⟩ : ∃ j, j < 6 ∧ (D.seats j).reads = true ∧ (D.seats j).num = m := by
   false_or_by_contra
   rename_i hn
   exact hall fun i hi hr e => hn ⟨i, hi, hr, e⟩
  obtain ⟨r, x, hnr, hx, he, hlo, hhi⟩ := h.sim.rdr.seat j hj hr
  have hnr' : (D.seats j).num = r := hnr
  have hlo' : x.lo = (D.seats j).lo := hlo
  have hhi' : x.hi = (D.seats j).hi := hhi
  have hm : m = r := by rw [← hn, hnr']
  have hg : goneB R.rdrs m = false := by rw [hm]; exact goneB_open hx he
  rcases Q.readL_cases q.data.toList with hrd | hrd | ⟨ts, hrd, hne, h8, hks⟩
  · refine ⟨0, false, 3, (dread_bad w xb D m q 3 j h.dev hj hr hn hq (by decide) hrd).mono fun e w1 hp => ?_⟩
   obtain ⟨e1, k1⟩ := hp
   refine ⟨e1, k1.mono (fun _ => False.elim), fun w2 k2 => (wread_bad w2 cb R m q 3 (h.ref_after (k1.mono (fun _ => False.elim)) k2) h.rfit hg (by decide) ((rread_bad q w2 3 hq hrd).mono fun e w3 h3 => ⟨⟨_, h3.1⟩, h3.2.2⟩)).mono fun e w3 hq => ?_⟩
   exact ⟨hq.1, h.stays k1 k2 (Kept.of_below hq.2 _), Kept.of_below hq.2 _⟩
  · refine ⟨0, false, 4, (dread_bad w xb D m q 4 j h.dev hj hr hn hq (by decide) hrd).mono fun e w1 hp => ?_⟩
   obtain ⟨e1, k1⟩ := hp
   refine ⟨e1, k1.mono (fun _ => False.elim), fun w2 k2 => (wread_bad w2 cb R m q 4 (h.ref_after (k1.mono (fun _ => False.elim)) k2) h.rfit hg (by decide) ((rread_bad q w2 4 hq hrd).mono fun e w3 h3 => ⟨⟨_, h3.1⟩, h3.2.2⟩)).mono fun e w3 hq => ?_⟩
   exact ⟨hq.1, h.stays k1 k2 (Kept.of_below hq.2 _), Kept.of_below hq.2 _⟩
  · have hsp := h.sim.rdr.span x (List.mem_of_getElem? hx)
   have hlen := h.sim.plen
   have hpl : D.pu.past.length = D.past.length := rfl
   have hq40 : q.size ≤ 40 := by have := readL_len hrd; rw [Array.length_toList] at this; exact this
   have hone : ∀ i, i < 6 → (D.seats i).reads = true → (D.seats i).num = m → i = j := fun i hi hri hni => h.sim.rdr.one i j hi hj hri hr (hni.trans hn.symm)
   have hwalk := h.good.walk (by omega)
   have hlh : (D.seats j).lo ≤ (D.seats j).hi := by rw [← hlo', ← hhi']; exact hsp.1
   have hnl : R.nodes.length = D.nodes.length := h.sim.len.trans (by show (D.nodes.map _).length = _; simp)
   have hnp := h.rfit.npos
   obtain ⟨k, hk⟩ : ∃ k, k = sumB q.data.toList % R.nodes.length := ⟨_, rfl⟩
   have hkl : k < R.nodes.length := by rw [hk]; exact Nat.mod_lt _ hnp
   have hkD : D.pu.nodeN q = k := by
    show sumB q.data.toList % D.pu.sites.length = k
    rw [← h.sim.len, hk]
   obtain ⟨nd, hnd⟩ : ∃ nd, R.nodes[k]? = some nd := ⟨_, List.getElem?_eq_getElem hkl⟩
   obtain ⟨dn, hdn⟩ : ∃ dn, D.nodes[k]? = some dn := ⟨_, List.getElem?_eq_getElem (by omega)⟩
   have hs : D.pu.sites[k]? = some dn.p := by show (D.nodes.map (·.p))[k]? = _; rw [List.getElem?_map, hdn]; rfl
   have hns := h.sim.node k dn.p nd hs hnd
   have hgs := h.good.sites dn.p (List.mem_of_getElem? hs)
   have hpm := h.good.pmax
   have hents : nd.ents = dn.p.ents.map (·.e) := hns.ents
   have hel : nd.ents.length ≤ 1000 := by
    rw [hents, List.length_map]
    have := hgs.el
    have := hgs.room6
    omega
   have hfi : ∀ e ∈ nd.ents, e.Fit := fun e hem => by
    rw [hents] at hem
    obtain ⟨z, hz, rfl⟩ := List.mem_map.mp hem
    exact (hgs.es z hz).fit hpm
   have hans := hns.ans hgs q x.lo x.hi
   have hlow := (ansN_lt nd.up nd.horizon q x.lo x.hi nd.ents nd.ents.length)
   by_cases hhit : 0 ≤ dn.p.ans q x.lo x.hi dn.p.ents.length
   · obtain ⟨i, hi⟩ : ∃ i : Nat, dn.p.ans q x.lo x.hi dn.p.ents.length = i := ⟨_, (Int.toNat_of_nonneg hhit).symm⟩
    have hil : i < dn.p.ents.length := by
     rw [hans, hi] at hlow
     have := hlow.2
     rw [hents, List.length_map] at this
     omega
    obtain ⟨z, hz⟩ : ∃ z, dn.p.ents[i]? = some z := ⟨_, List.getElem?_eq_getElem hil⟩
    have hy : nd.ents[i]? = some z.e := by rw [hents, List.getElem?_map, hz]; rfl
    have hnml : nd.nms.length = dn.p.ents.length := hns.nml
    obtain ⟨nm, hnm⟩ : ∃ nm, nd.nms[i]? = some nm := ⟨_, List.getElem?_eq_getElem (by omega)⟩
    have hhz : nd.horizon = dn.p.horizon := hns.hz
    have han : ansN nd.up nd.horizon q x.lo x.hi nd.ents nd.ents.length = (i : Int) := hans.trans hi
    have hmt := ansN_meets _ _ _ _ _ _ _ _ _ han hy
    rw [hhz] at hmt
    refine ⟨z.e.val, true, 0, (dread_hit w xb D m q ts j i dn z h.dev hwalk hj hr hn hone hlh hq40 hrd (by rw [hkD]; exact hdn) (by rw [← hlo', ← hhi']; exact hi) hz).mono fun e w1 hp => ⟨hp.1, hp.2.choose_spec.2.2.1, fun w2 k2 => ?_⟩⟩
    have hwr := wread_hit w2 cb R r i q x nd z.e nm (keysL ts) (fun p => evalL p.st ts) (h.ref_after hp.2.choose_spec.2.2.1 k2) h.rfit hx he hq40 (by rw [← hk]; exact hnd) hel hfi han hy hnm hus (taken_of q w2 ts hrd h8 hks)
    rw [hm]
    refine hwr.mono fun e w3 hr3 => ?_
    obtain ⟨e2, v, hb⟩ := hr3
    rw [hhz] at hb
    have hu1 : ((R.spanR r x (max x.lo z.e.fr) (min x.hi (lastE z.e dn.p.horizon))).pushUse nm v).uses.length = R.uses.length + 1 := by show (R.uses ++ [nm]).length = _; simp
    refine ⟨e2, h.turned hp.2 k2 hb ?_ ?_ ?_ (by omega) h.nx0 ?_, hb.2.1⟩
    · rw [hkD]
     exact h.sim.hit v hj hr hnr hx he hlo hhi hs hnd hz hnm hmt.2
    · rw [hu1, hkD]
     exact h.good.hit hs hz
    · refine ⟨h.rfit.pos, h.rfit.pmax, h.rfit.clk0, h.rfit.clk1, ?_, h.rfit.npos, h.rfit.nmax, h.rfit.fmax⟩
     show (R.rdrs.set r _).length ≤ 200
     rw [List.length_set]; exact h.rfit.rmax
    · rw [hu1]
     have := h.nx1
     show R.next ≤ _
     omega
   · have hmi : ansN nd.up nd.horizon q x.lo x.hi nd.ents nd.ents.length = -1 := by omega
    have hsh : (D.seats j).hi ≤ D.past.length := by rw [← hhi']; exact hsp.2
    obtain ⟨p, hp⟩ : ∃ p, R.past[x.hi]? = some p := ⟨_, List.getElem?_eq_getElem (by have := hsp.2; omega)⟩
    obtain ⟨hst, hbd⟩ := at_st h.sim hp
    have hen : D.pu.answer q ts (D.seats j).hi = rightE R.past q (keysL ts) ((fun p : PastE => evalL p.st ts) p) x.hi := by
     rw [← hhi', h.sim.past]
     show rightE _ q _ (evalL (stAt D.pu.past x.hi) ts) _ = _
     rw [hst]
    have hok := answer_ok (P := D.pu) (t := (D.seats j).hi) hrd hsh
    obtain ⟨en, hEn⟩ : ∃ en, en = D.pu.answer q ts (D.seats j).hi := ⟨_, rfl⟩
    have hfr : en.fr ≤ x.hi := by rw [hEn, hen]; exact fromN_le _ _ _
    refine ⟨en.val, false, 0, ?_⟩
    have hdr := dread_miss w xb D m q ts j dn h.dev hwalk hj hr hn hone hlh hsh hq40 hrd (by rw [hkD]; exact hdn) (by rw [← hlo', ← hhi']; omega)
    rw [← hEn] at hdr hok
    refine hdr.mono fun e w1 hd => ⟨hd.1, hd.2.choose_spec.2.2.1, fun w2 k2 => ?_⟩
    have hwr := wread_store w2 cb R r q x p nd (keysL ts) (fun p => evalL p.st ts) (h.ref_after hd.2.choose_spec.2.2.1 k2) h.rfit hx he hp hq40 (by rw [← hk]; exact hnd) hel hfi hmi (by rw [h.sim.puts]; exact h.good.qmax) hbd (taken_of q w2 ts hrd h8 hks)
    rw [← hen, ← hEn] at hwr
    rw [hm]
    refine hwr.mono fun e w3 hr3 => ?_
    obtain ⟨e2, v', hr3, k3, f3⟩ := hr3
    refine ⟨e2, h.turned' hd.2 k2 ⟨hr3, k3, f3⟩ (h.sim.miss v' hj hr hnr hx he hlo hhi hfr) (h.good.miss hok) ⟨h.rfit.pos, h.rfit.pmax, h.rfit.clk0, h.rfit.clk1, ?_, h.rfit.npos, h.rfit.nmax, h.rfit.fmax⟩ rfl rfl, k3⟩
    show (R.rdrs.set r _).length ≤ 200
    rw [List.length_set]; exact h.rfit.rmax
theorem pair_drop {w : World} {xb cb : Nat} {D : DevS} {R : RefS} (h : Pair w xb cb D R) (i : Int) :
  ∃ r : Int, Calls Tryz.prog 43 #[.pointer (some ⟨xb, 0, none⟩), .int .i64 i] w fun e w1 => e = .returned (.int .i64 r) ∧
   Then 44 #[.pointer (some ⟨cb, 0, none⟩), .int .i64 i] w w1 xb cb D R (.int .i64 r) := by
 have hps : R.puts = D.puts := h.sim.puts
 have hqm := h.dfit.qmax
 have hpl : R.puts.length ≤ 10 := by rw [hps]; exact hqm
 by_cases hi : i < 0 ∨ (D.puts.length : Int) ≤ i
 · refine ⟨10, (ddrop w xb D i h.dev h.dfit).mono fun e w1 hp => ?_⟩
  rcases hp with ⟨_, e1, k1⟩ | ⟨a, c, _⟩
  · refine ⟨e1, k1.mono (fun _ => False.elim), fun w2 k2 => (rdrop w2 cb R i (h.ref_after (k1.mono (fun _ => False.elim)) k2) hpl).mono fun e w3 hq => ?_⟩
   rcases hq with ⟨_, e2, rfl⟩ | ⟨a, c, _⟩
   · exact ⟨e2, h.stays k1 k2 (Kept.refl _ _), Kept.refl _ _⟩
   · rw [hps] at c; omega
  · omega
 · refine ⟨0, (ddrop w xb D i h.dev h.dfit).mono fun e w1 hp => ?_⟩
  rcases hp with ⟨a, _⟩ | ⟨_, _, e1, v, hd, k1, f1⟩
  · exact absurd a hi
  · refine ⟨e1, k1, fun w2 k2 => (rdrop w2 cb R i (h.ref_after k1 k2) hpl).mono fun e w3 hq => ?_⟩
   rcases hq with ⟨a, _⟩ | ⟨_, _, e2, v', hr3, k3, f3⟩
   · rw [hps] at a; exact absurd a hi
   · have hgd := h.good.drop i
    have hdp : D.pu.drop i = (0, { D.pu with puts := D.puts.eraseIdx i.toNat }) := by
     unfold DP.drop
     rw [if_neg (show ¬ (i < 0 ∨ (D.pu.puts.length : Int) ≤ i) from hi)]
     rfl
    rw [hdp] at hgd
    refine ⟨e2, h.turned' (P := { D.pu with puts := D.puts.eraseIdx i.toNat }) ⟨_, rfl, hd, k1, f1⟩ k2 ⟨hr3, k3, f3⟩ ⟨h.sim.past, h.sim.clock, h.sim.rdr, ?_, h.sim.bd, h.sim.len, h.sim.node, h.sim.room, h.sim.names, h.sim.fresh⟩ hgd ⟨h.rfit.pos, h.rfit.pmax, h.rfit.clk0, h.rfit.clk1, h.rfit.rmax, h.rfit.npos, h.rfit.nmax, h.rfit.fmax⟩ rfl rfl, k3⟩
    show R.puts.eraseIdx i.toNat = D.puts.eraseIdx i.toNat
    rw [hps]
theorem boxed_s {w w1 : World} {xb cb : Nat} {kd a b c : Int} {s : ByteArray} {l : Value} {F : Nat → Prop} (k : Kept F (boxed w xb cb kd a b c s l) w1) (hF : ∀ i, F i → i < w.heap.size) : w1.cell? ⟨w.heap.size + 1, 4, none⟩ = some (.string s) :=
 k.keep (fun hf => by have := hF _ hf; simp at this; omega) (by simp [boxed])
theorem lreader_read (w : World) (pb xb cb : Nat) (a b c : Int) (s : ByteArray) (ao : Option Addr) (n cap : Nat) (D : DevS) (R : RefS) (h : Pair w xb cb D R) (hus : (R.uses.length + 1) * 8 ≤ 140737488355328) (hs : s.size ≤ maxLen) :
  Calls Tryz.prog 15 #[.pointer (some ⟨pb, 0, none⟩), .agg #[.pointer (some ⟨xb, 0, none⟩), .pointer (some ⟨cb, 0, none⟩)], .agg #[.int .i64 7, .int .i64 a, .int .i64 b, .int .i64 c, .string s, .slice ao n cap]] w fun e w' => StepPost w xb cb D R e w' := by
 have hk := boxed_kept w xb cb 7 a b c s (.slice ao n cap)
 obtain ⟨x, f, z, hr⟩ := pair_read (h.kept hk fun _ _ => id) hus b s hs
 have H0 : Hid (Calls Tryz.prog 38 #[.pointer (some ⟨xb, 0, none⟩), .int .i64 b, .string s] (boxed w xb cb 7 a b c s (.slice ao n cap)) fun e w1 => e = .returned (.tuple #[.int .i32 x, .bool f, .int .i64 z]) ∧ Hid (Then 39 #[.pointer (some ⟨cb, 0, none⟩), .int .i64 b, .string s] (boxed w xb cb 7 a b c s (.slice ao n cap)) w1 xb cb D R (.tuple #[.int .i32 x, .bool f, .int .i64 z]))) := hr
 have HK : Hid (Kept (fun _ => False) w (boxed w xb cb 7 a b c s (.slice ao n cap))) := hk
 have HL : Hid (∀ i, D.fp xb i → i < w.heap.size) := h.dev.lt
 clear hr hk h hs hus
 go_enter Tryz.func15, Tryz.ntmps15
 go_wp2_with first
  | (go_at_call 38; refine H0.out.mono ?_; rintro e w1 ⟨rfl, ht⟩; have q1 := boxed_c ht.out.1 HL.out; have q2 := boxed_b ht.out.1 HL.out; have q4 := boxed_s ht.out.1 HL.out)
  | (go_at_call 39; refine (ht.out.2 _ (Kept.refl _ _)).mono ?_; rintro e w3 ⟨rfl, hz, _⟩; have HZ : Hid (Turned (boxed w xb cb 7 a b c s (.slice ao n cap)) w3 xb cb D R) := hz; clear hz)
 go_ret
 exact ⟨rt_bool (by simp), HZ.out.from HK.out⟩
theorem lmem_drop (w : World) (pb xb cb : Nat) (a b c : Int) (s : ByteArray) (ao : Option Addr) (n cap : Nat) (D : DevS) (R : RefS) (h : Pair w xb cb D R) :
  Calls Tryz.prog 16 #[.pointer (some ⟨pb, 0, none⟩), .agg #[.pointer (some ⟨xb, 0, none⟩), .pointer (some ⟨cb, 0, none⟩)], .agg #[.int .i64 9, .int .i64 a, .int .i64 b, .int .i64 c, .string s, .slice ao n cap]] w fun e w' => StepPost w xb cb D R e w' := by
 have hk := boxed_kept w xb cb 9 a b c s (.slice ao n cap)
 obtain ⟨r, hr⟩ := pair_drop (h.kept hk fun _ _ => id) b
 have H0 : Hid (Calls Tryz.prog 43 #[.pointer (some ⟨xb, 0, none⟩), .int .i64 b] (boxed w xb cb 9 a b c s (.slice ao n cap)) fun e w1 => e = .returned (.int .i64 r) ∧ Hid (Then 44 #[.pointer (some ⟨cb, 0, none⟩), .int .i64 b] (boxed w xb cb 9 a b c s (.slice ao n cap)) w1 xb cb D R (.int .i64 r))) := hr
 have HK : Hid (Kept (fun _ => False) w (boxed w xb cb 9 a b c s (.slice ao n cap))) := hk
 have HL : Hid (∀ i, D.fp xb i → i < w.heap.size) := h.dev.lt
 clear hr hk h
 go_enter Tryz.func16, Tryz.ntmps16
 go_wp2_with first
  | (go_at_call 43; refine H0.out.mono ?_; rintro e w1 ⟨rfl, ht⟩; have q1 := boxed_c ht.out.1 HL.out; have q2 := boxed_b ht.out.1 HL.out)
  | (go_at_call 44; refine (ht.out.2 _ (Kept.refl _ _)).mono ?_; rintro e w3 ⟨rfl, hz, _⟩; have HZ : Hid (Turned (boxed w xb cb 9 a b c s (.slice ao n cap)) w3 xb cb D R) := hz; clear hz)
 go_ret
 exact ⟨rt_bool (by simp), HZ.out.from HK.out⟩
theorem two_new {w wr : World} {o o' : Obj} (h : Below w.heap.size w wr) : Below w.heap.size w ((wr.alloc o).alloc o') :=
 (h.alloc h.size _).alloc (by have := h.size; simp; omega) _
theorem rsameEntries (w : World) (va vb : Value) (l : List EntE) (hl : l.length ≤ 1000000) (ha : Row w 55 6 va l.length (l.flatMap entC)) (hb : Row w 55 6 vb l.length (l.flatMap entC)) :
  Calls Tryz.prog 41 #[va, vb] w fun e w' => e = .returned (.bool true) ∧ Below w.heap.size w w' := by
 obtain ⟨aa, ca, hva, _⟩ := ha.form
 obtain ⟨ab, cb, hvb, _⟩ := hb.form
 subst hva
 subst hvb
 have HA : Hid (∀ j (hj : j < l.length), ∃ g, aa = some ⟨g, 0, none⟩ ∧ g < w.heap.size ∧ EntAt w g (j * 6) l[j]) := by
  intro j hj
  obtain ⟨g, cap, hv, hg, he⟩ := ha.entAt j hj
  injection hv with e1 _ _
  exact ⟨g, e1, hg, he⟩
 have HB : Hid (∀ j (hj : j < l.length), ∃ g, ab = some ⟨g, 0, none⟩ ∧ g < w.heap.size ∧ EntAt w g (j * 6) l[j]) := by
  intro j hj
  obtain ⟨g, cap, hv, hg, he⟩ := hb.entAt j hj
  injection hv with e1 _ _
  exact ⟨g, e1, hg, he⟩
 obtain ⟨n, hn⟩ : ∃ n, n = l.length := ⟨_, rfl⟩
 rw [← hn]
 have HN : Hid (n = l.length) := hn
 rw [← hn] at hl
 clear ha hb hn
 go_enter Tryz.func41, Tryz.ntmps41
 go_wp2
 go_loopw [5] (fun k wr => ∃ j : Nat, j ≤ n ∧ k = .int .i64 j ∧ Hid (Below w.heap.size w wr)) (fun k _ => n - (intOf k).toNat)
 case atStart => exact ⟨0, Nat.zero_le _, rfl, Below.refl _ _⟩
 case round =>
  obtain ⟨j, hj, rfl, HBl⟩ := hrel
  by_cases hlt : j < n
  · obtain ⟨ga, hga, hgl, hea⟩ := HA.out j (by rw [← HN.out]; exact hlt)
   obtain ⟨gb, hgb, hgl', heb⟩ := HB.out j (by rw [← HN.out]; exact hlt)
   obtain ⟨e, he⟩ : ∃ e, e = l[j]'(by rw [← HN.out]; exact hlt) := ⟨_, rfl⟩
   rw [← he] at hea heb
   clear he
   obtain ⟨a0, a1, a2, a3, a4, a5⟩ := hea.same (HBl.out.block ga hgl)
   obtain ⟨c0, c1, c2, c3, c4, c5⟩ := heb.same (HBl.out.block gb hgl')
   have hza : ga < wr.heap.size := Nat.lt_of_lt_of_le hgl (Kept.of_below HBl.out (fun _ => False)).size
   have hzb : gb < wr.heap.size := Nat.lt_of_lt_of_le hgl' (Kept.of_below HBl.out (fun _ => False)).size
   clear hea heb
   subst hga
   subst hgb
   have hj0 : (0 : Int) ≤ (j : Int) := by omega
   have hj1 : (j : Int) < (n : Int) := by omega
   go_wp2
   go_roundw
   case rel => exact ⟨j + 1, by omega, by go_num, two_new HBl.out⟩
   case measure => simp [intOf]; omega
  · go_wp2
   go_ret
   exact ⟨rfl, HBl.out⟩
structure Roomed (W w1 : World) (n g cp : Nat) (ws : List (Int × Int)) : Prop where
 room : n + 2 ≤ cp
 new : W.heap.size ≤ g
 left : Left w1 w1 g 0 (ws ++ [farW, farW])
 most : cp ≤ maxLen
 kept : Kept (fun _ => False) W w1
theorem roomed_call {W : World} {xb cb : Nat} {D : DevS} {R : RefS} {ao : Option Addr} {n cap : Nat} {ws : List (Int × Int)} (h : Pair W xb cb D R) (hu : R.uses.length < 9223372036854775807) (hw : Wr W ao n ws) (hreach : n * 16 ≤ 140737488351232) (hno : ao = none → n = 0 ∧ cap = 0)
  (hfar : 0 < n → ∀ a, ao = some a → ¬ pfp xb cb D R a.block) (hwb : BdW ws) :
  Calls Tryz.prog 27 #[.slice ao n cap] W fun e w1 => ∃ (g cp : Nat) (x y : Int), e = .returned (.slice (some ⟨g, 0, none⟩) n cp) ∧ Hid (Roomed W w1 n g cp ws) ∧
   Hid (Calls Tryz.prog 28 #[.pointer (some ⟨xb, 0, none⟩), .slice (some ⟨g, 0, none⟩) n cp] w1 fun e w2 => e = .returned (.tuple #[.int .u64 x, .int .i64 y]) ∧
    Hid (Then 29 #[.pointer (some ⟨cb, 0, none⟩), .slice ao n cap] w1 w2 xb cb D R (.tuple #[.int .u64 x, .int .i64 y]))) := by
 refine (roomy_any W ao n cap ws hw hreach hno).mono fun e w1 hp => ?_
 obtain ⟨g, cp, e1, hcp, hg, hrow, hk⟩ := hp
 obtain ⟨hwr, hleft, hm⟩ := roomy_use hw.len hrow
 have hn : n ≤ maxLen := by unfold maxLen; omega
 obtain ⟨x, y, hc⟩ := pair_commit (h.kept hk fun _ _ => id) hu (some ⟨g, 0, none⟩) ao n cp cap ws hwr (hw.kept hk fun _ _ => id) hn (fun hn a ha hd => hfar hn a ha (.inl hd)) hwb
 exact ⟨g, cp, x, y, e1, ⟨hcp, hg, hleft, hm, hk⟩, hc⟩
theorem still_there {w wc W w1 w3 : World} {xb cb pb g n cp cap : Nat} {D : DevS} {R : RefS} {ao : Option Addr} {ws : List (Int × Int)} (hfar : 0 < n → ∀ a, ao = some a → ¬ pfp xb cb D R a.block ∧ a.block ≠ pb ∧ a.block < wc.heap.size) (hlt : ∀ i, pfp xb cb D R i → i < w.heap.size)
  (hsz : wc.heap.size = w.heap.size) (hw : Wr wc ao n ws) (kW : Kept (fun _ => False) wc W) (hro : Roomed W w1 n g cp ws) (ht : Turned w1 w3 xb cb D R) : Hid (Calls Tryz.prog 30 #[.slice (some ⟨g, 0, none⟩) n cp, .slice ao n cap] w3 fun e w4 => StillPost w3 g e w4) := by
 obtain ⟨_, _, _, hk, _⟩ := ht
 have hg : wc.heap.size ≤ g := Nat.le_trans kW.size hro.new
 have hwr : Wr w3 ao n ws := ((hw.kept kW fun _ _ => id).kept hro.kept fun _ _ => id).kept' hk fun hn a ha => (hfar hn a ha).1
 exact still_any w3 g n cp ao cap ws hwr (fun hn a ha => by have := (hfar hn a ha).2.2; omega) hro.room hro.most (hro.left.kept' hk fun hp => by have := hlt g hp; omega)
theorem lcommit (w : World) (pb xb cb : Nat) (a b c : Int) (s : ByteArray) (ao : Option Addr) (n cap : Nat) (ws : List (Int × Int)) (D : DevS) (R : RefS) (vps b0 b1 b2 : Value) (commits most : Int) (h : Pair w xb cb D R) (hu : R.uses.length < 9223372036854775807)
  (hblk : Blk w pb 34 (playC vps b0 b1 b2 commits most)) (hpb : ¬ pfp xb cb D R pb) (hc0 : 0 ≤ commits) (hc1 : commits ≤ 4611686018427387904) (hw : Wr w ao n ws) (hreach : n * 16 ≤ 140737488351232) (hno : ao = none → n = 0 ∧ cap = 0)
  (hfar : 0 < n → ∀ a, ao = some a → ¬ pfp xb cb D R a.block ∧ a.block ≠ pb ∧ a.block < w.heap.size) (hwb : BdW ws) :
  Calls Tryz.prog 14 #[.pointer (some ⟨pb, 0, none⟩), .agg #[.pointer (some ⟨xb, 0, none⟩), .pointer (some ⟨cb, 0, none⟩)], .agg #[.int .i64 2, .int .i64 a, .int .i64 b, .int .i64 c, .string s, .slice ao n cap]] w fun e w' => LCommitPost w pb xb cb D R vps b0 b1 b2 commits most e w' := by
 have hpl := hblk.lt
 have c4 : w.cell? ⟨pb, 4, none⟩ = some (.int .i64 commits) := hblk.cell 4
 have c5 : w.cell? ⟨pb, 5, none⟩ = some (.int .i64 most) := hblk.cell 5
 have f4 := hblk.free 4
 obtain ⟨wc, hwc⟩ : ∃ wc, wc = w.setCell ⟨pb, 4, none⟩ (.int .i64 (commits + 1)) := ⟨_, rfl⟩
 have kc : Kept (fun k => k = pb) w wc := by rw [hwc]; exact Kept.setCell w ⟨pb, 4, none⟩ _
 have hsz : wc.heap.size = w.heap.size := by rw [hwc]; simp [World.setCell]
 have hbc : Blk wc pb 34 (playC vps b0 b1 b2 (commits + 1) most) := by rw [hwc]; exact hblk.set 4 _
 have hpc : Pair wc xb cb D R := h.kept kc fun j hj e => by rw [e] at hj; exact hpb hj
 have hwr : Wr wc ao n ws := hw.kept' kc fun hn a ha e => (hfar hn a ha).2.1 e
 have HM : Hid (∀ w', Turned wc w' xb cb D R → LCommitPost w pb xb cb D R vps b0 b1 b2 commits most (.returned (.bool true)) w') := fun w' ht => LCommitPost.mk' hpb kc hbc ht
 have HP : Hid (Pair wc xb cb D R) := hpc
 have HWC : Hid (wc = w.setCell ⟨pb, 4, none⟩ (.int .i64 (commits + 1))) := hwc
 have HSZ : Hid (wc.heap.size = w.heap.size) := hsz
 have d4 : wc.cell? ⟨pb, 4, none⟩ = some (.int .i64 (commits + 1)) := hbc.cell 4
 have d5 : wc.cell? ⟨pb, 5, none⟩ = some (.int .i64 most) := hbc.cell 5
 have HD : Hid (wc.cell? ⟨pb, 4, none⟩ = some (.int .i64 (commits + 1)) ∧ wc.cell? ⟨pb, 5, none⟩ = some (.int .i64 most)) := ⟨d4, d5⟩
 by_cases hlt : most < commits + 1
 · clear h hu hpc hwr hw hfar hno hreach hbc hblk hwc hsz kc d4 d5
  go_enter Tryz.func14, Tryz.ntmps14
  go_wp2_with fail
  go_quiet (fail)
  go_wp2
  go_ret
  rw [← HWC.out]
  exact HM.out _ (Turned.same HP.out (((Kept.alloc _ _ (fun _ => False)).allocNew _).drewN _) (fun _ _ => id))
 · have HRO : Hid (∀ W, Kept (fun _ => False) wc W → Calls Tryz.prog 27 #[.slice ao n cap] W fun e w1 => ∃ (g cp : Nat) (x y : Int), e = .returned (.slice (some ⟨g, 0, none⟩) n cp) ∧ Hid (Roomed W w1 n g cp ws) ∧
   Hid (Calls Tryz.prog 28 #[.pointer (some ⟨xb, 0, none⟩), .slice (some ⟨g, 0, none⟩) n cp] w1 fun e w2 => e = .returned (.tuple #[.int .u64 x, .int .i64 y]) ∧
    Hid (Then 29 #[.pointer (some ⟨cb, 0, none⟩), .slice ao n cap] w1 w2 xb cb D R (.tuple #[.int .u64 x, .int .i64 y])))) :=
   fun W hk => roomed_call (hpc.kept hk fun _ _ => id) hu (hwr.kept hk fun _ _ => id) hreach hno (fun hn a ha => (hfar hn a ha).1) hwb
  have HFAR : Hid (0 < n → ∀ a, ao = some a → ¬ pfp xb cb D R a.block ∧ a.block ≠ pb ∧ a.block < wc.heap.size) := by rw [hsz]; exact hfar
  have HWR : Hid (Wr wc ao n ws) := hwr
  have HLT : Hid (∀ i, pfp xb cb D R i → i < w.heap.size) := h.lt
  clear h hu hpc hwr hw hfar hno hreach hbc hblk hwc hsz kc d4 d5
  go_enter Tryz.func14, Tryz.ntmps14
  go_wp2_with fail
  go_quiet (fail)
  rw [← HWC.out]
  obtain ⟨W, hW⟩ : ∃ W, W = (boxed wc xb cb 2 a b c s (.slice ao n cap)).drewN nq := ⟨_, rfl⟩
  have kW : Kept (fun _ => False) wc W := by rw [hW]; exact (boxed_kept _ _ _ _ _ _ _ _ _).drewN _
  have z0 : W.cell? ⟨w.heap.size, 0, none⟩ = some (.pointer (some ⟨xb, 0, none⟩)) := by rw [hW, ← HSZ.out]; show (boxed wc xb cb 2 a b c s (.slice ao n cap)).cell? _ = _; simp [boxed]
  have z1 : W.cell? ⟨w.heap.size, 1, none⟩ = some (.pointer (some ⟨cb, 0, none⟩)) := by rw [hW, ← HSZ.out]; show (boxed wc xb cb 2 a b c s (.slice ao n cap)).cell? _ = _; simp [boxed]
  have z5 : W.cell? ⟨w.heap.size + 1, 5, none⟩ = some (.slice ao n cap) := by rw [hW, ← HSZ.out]; show (boxed wc xb cb 2 a b c s (.slice ao n cap)).cell? _ = _; simp [boxed]
  have hWs : W.heap.size = w.heap.size + 2 := by rw [hW, ← HSZ.out]; exact boxed_size _ _ _ _ _ _ _ _ _
  unfold boxed at hW
  rw [← hW]
  have HZ : Hid (W.cell? ⟨w.heap.size, 0, none⟩ = some (.pointer (some ⟨xb, 0, none⟩)) ∧ W.cell? ⟨w.heap.size, 1, none⟩ = some (.pointer (some ⟨cb, 0, none⟩)) ∧ W.cell? ⟨w.heap.size + 1, 5, none⟩ = some (.slice ao n cap)) := ⟨z0, z1, z5⟩
  have HKW : Hid (Kept (fun _ => False) wc W) := kW
  have HWS : Hid (W.heap.size = w.heap.size + 2) := hWs
  clear hW kW hWs
  go_wp2_with first
   | (go_at_call 27; refine (HRO.out _ HKW.out).mono ?_; rintro e w1 ⟨g, cp, x, y, rfl, hro, hdc⟩; have y0 := hro.out.kept.keep id HZ.out.1; have y1 := hro.out.kept.keep id HZ.out.2.1; have y5 := hro.out.kept.keep id HZ.out.2.2)
   | (go_at_call 28; refine hdc.out.mono ?_; rintro e w2 ⟨rfl, ht⟩; have x1 := ht.out.1.keep (fun hf => Nat.lt_irrefl _ (HLT.out _ (.inl hf))) y1; have x5 := ht.out.1.keep (fun hf => Nat.not_succ_lt_self (HLT.out _ (.inl hf))) y5)
   | (go_at_call 29; refine (ht.out.2 _ (Kept.refl _ _)).mono ?_; rintro e w3 ⟨rfl, hz, hk3⟩; have HT : Hid (Turned w1 w3 xb cb D R) := hz; clear hz; have v5 := hk3.keep (fun hf => Nat.not_succ_lt_self (HLT.out _ (.inr hf))) x5; have HST := still_there (cap := cap) HFAR.out HLT.out HSZ.out HWR.out HKW.out hro.out HT.out; clear hk3)
   | (go_at_call 30; refine HST.out.mono ?_; rintro e w4 ⟨rfl, hk4⟩; have HK4 : Hid (Kept (fun x => x = g) w3 w4) := hk4; clear hk4)
  go_ret
  refine HM.out _ (HT.out.still (HKW.out.trans hro.out.kept (fun _ => id) (fun _ _ => id)) HK4.out (fun i hi => ?_) (by rw [HSZ.out]; exact HLT.out))
  subst hi
  exact ⟨Nat.le_trans HKW.out.size hro.out.new, hro.out.left.lt⟩
end Go.Proofs.YtpfcacedpkaihaaGreat
