import Derived.Test.YtpfcacedpkaihaaGreatC28
import Derived.Test.YtpfcacedpkaihaaGreatC30
import Derived.Test.YtpfcacedpkaihaaGreatC17
import Derived.Test.YtpfcacedpkaihaaGreatC23
import Derived.Test.YtpfcacedpkaihaaGreatC9
import Derived.Test.YtpfcacedpkaihaaGreatC5
import Derived.Test.YtpfcacedpkaihaaGreatC4
import Derived.Deep.RegionWith
import Derived.Deep.DeepCutAuto
namespace Go.Proofs.YtpfcacedpkaihaaGreat
open Go.RowKit
set_option maxRecDepth 100000
set_option maxHeartbeats 16000000
theorem dsfall (w : World) (b k g : Nat) (D : DevS) (nd : DNodeE) (h : Dev w b D) (hnd : D.nodes[k]? = some nd) (ho : D.vn.ownBlock = some g) :
 Calls Tryz.prog 122 #[.pointer (some ⟨g, k * 8, none⟩)] w fun e w' => e = .returned (.tuple #[]) ∧ Hid (Turns w b D k nd.p.fall.clear w') := by
 have HF : Hid (Calls Tryz.prog 155 #[.pointer (some ⟨g, k * 8, none⟩)] w fun e w' => e = .returned (.tuple #[]) ∧ Hid (Calls Tryz.prog 156 #[.pointer (some ⟨g, k * 8 + 7, none⟩)] w' fun e w'' => e = .returned (.tuple #[]) ∧ Hid (Turns w b D k nd.p.fall.clear w''))) :=
  (dfall w b k g D nd h hnd ho).mono fun e w' hp => by
   obtain ⟨n1, e1, hb1⟩ := hp.2.out
   refine ⟨hp.1, (dclear w' b k g _ n1 hb1.1 (putN_at n1 hnd) ho).mono fun e w'' hp2 => ⟨hp2.1, ?_⟩⟩
   obtain ⟨n2, e2, hb2⟩ := hp2.2.out
   exact ⟨n2, by rw [e2, e1], by have := hb1.trans hb2; rwa [putN_putN] at this⟩
 clear h hnd ho
 go_enter Tryz.func122, Tryz.ntmps122
 go_wp2_with first
  | (go_at_call 155; refine HF.out.mono ?_; rintro e w1 ⟨rfl, HC⟩)
  | (go_at_call 156; refine HC.out.mono ?_; rintro e w2 ⟨rfl, HT⟩)
 go_end0
 exact ⟨rfl, HT⟩
theorem age_len (p : NodeP) (t : Nat) : (p.age t).flight.length ≤ p.flight.length := List.length_filter_le _ _
theorem dtell (w : World) (b k g : Nat) (D : DevS) (nd : DNodeE) (t : Nat) (K : Int) (h : Dev w b D) (hnd : D.nodes[k]? = some nd) (ho : D.vn.ownBlock = some g) (hl : nd.p.flight.length ≤ 1000) (hs : ∀ c ∈ nd.p.flight, c.1 ≤ 1000000) (hz : nd.p.horizon ≤ 1000000) :
 Calls Tryz.prog 76 #[.pointer (some ⟨g, k * 8, none⟩), .int .u64 t, .int .u8 K] w fun e w' => e = .returned (.tuple #[]) ∧ Hid (Turns w b D k (nd.p.tell t K) w') := by
 have HA : Hid (Calls Tryz.prog 129 #[.pointer (some ⟨g, k * 8 + 7, none⟩), .int .u64 t] w fun e w' => e = .returned (.tuple #[]) ∧ Hid (Turns w b D k (nd.p.age t) w')) := dage w b k g D nd t h hnd ho hl hs
 have HLG : Hid (∀ W, Turns w b D k (nd.p.age t) W → Calls Tryz.prog 130 #[.pointer (some ⟨g, k * 8, none⟩), .int .u64 t] W fun e w' => e = .returned (.bool ((nd.p.age t).lags t)) ∧ W = w') := fun W hT => by
  obtain ⟨n1, e1, hb1⟩ := hT
  have hn1 := putN_at n1 hnd
  rw [← e1]
  exact dlags W g (k * 8) n1.p t (hb1.1.nodeC hn1 ho 0 (by omega) _ rfl) (hb1.1.nodeC hn1 ho 2 (by omega) _ rfl) (by rw [e1]; exact hz)
 have HFA : Hid (∀ W, Turns w b D k (nd.p.age t) W → Calls Tryz.prog 122 #[.pointer (some ⟨g, k * 8, none⟩)] W fun e w' => e = .returned (.tuple #[]) ∧ Hid (Turns w b D k (nd.p.age t).fall.clear w')) := fun W hT => by
  obtain ⟨n1, e1, hb1⟩ := hT
  refine (dsfall W b k g _ n1 hb1.1 (putN_at n1 hnd) ho).mono fun e w' hp => ⟨hp.1, ?_⟩
  obtain ⟨n2, e2, hb2⟩ := hp.2.out
  exact ⟨n2, by rw [e2, e1], by have := hb1.trans hb2; rwa [putN_putN] at this⟩
 have HSE : Hid (∀ W p1, p1.flight.length ≤ 1000 → Turns w b D k p1 W → Calls Tryz.prog 131 #[.pointer (some ⟨g, k * 8 + 7, none⟩), .agg #[.int .u64 (t : Int), .int .u8 K]] W fun e w' => e = .returned (.tuple #[]) ∧ Hid (Turns w b D k (p1.send (t, K)) w')) := fun W p1 hl1 hT => by
  obtain ⟨n1, e1, hb1⟩ := hT
  subst e1
  refine (dsend W b k g _ n1 (t, K) hb1.1 (putN_at n1 hnd) ho hl1).mono fun e w' hp => ⟨hp.1, ?_⟩
  obtain ⟨n2, e2, hb2⟩ := hp.2.out
  exact ⟨n2, e2, by have := hb1.trans hb2; rwa [putN_putN] at this⟩
 have HL2 : Hid ((nd.p.age t).flight.length ≤ 1000) := Nat.le_trans (age_len _ _) hl
 cases hlg : (nd.p.age t).lags t with
 | true =>
  rw [hlg] at HLG
  have HE : Hid (nd.p.tell t K = (nd.p.age t).fall.clear.send (t, K)) := by show _ = _; rw [NodeP.tell, hlg]; rfl
  clear h hnd ho hl hs hz hlg
  go_enter Tryz.func76, Tryz.ntmps76
  go_wp2_with first
   | (go_at_call 129; refine HA.out.mono ?_; rintro e w1 ⟨rfl, HT1⟩)
   | (go_at_call 130; refine (HLG.out _ HT1.out).mono ?_; rintro e w2 ⟨rfl, rfl⟩)
   | (go_at_call 122; refine (HFA.out _ HT1.out).mono ?_; rintro e w2 ⟨rfl, HT2⟩)
   | (go_at_call 131; refine (HSE.out _ _ (by show ([] : List (Nat × Int)).length ≤ 1000; simp) HT2.out).mono ?_; rintro e w3 ⟨rfl, HT3⟩)
  go_end0
  exact ⟨rfl, by rw [HE.out]; exact HT3⟩
 | false =>
  rw [hlg] at HLG
  have HE : Hid (nd.p.tell t K = (nd.p.age t).send (t, K)) := by show _ = _; rw [NodeP.tell, hlg]; rfl
  clear h hnd ho hl hs hz hlg
  go_enter Tryz.func76, Tryz.ntmps76
  go_wp2_with first
   | (go_at_call 129; refine HA.out.mono ?_; rintro e w1 ⟨rfl, HT1⟩)
   | (go_at_call 130; refine (HLG.out _ HT1.out).mono ?_; rintro e w2 ⟨rfl, rfl⟩)
   | (go_at_call 131; refine (HSE.out _ _ HL2.out HT1.out).mono ?_; rintro e w3 ⟨rfl, HT3⟩)
  go_end0
  exact ⟨rfl, by rw [HE.out]; exact HT3⟩
theorem dwrote0 (w : World) (b : Nat) (D : DevS) (t : Nat) (p : PastE) (h : Dev w b D) (hf : D.Fit) (hp : D.past[t]? = some p) :
 Calls Tryz.prog 75 #[.pointer (some ⟨b, 0, none⟩), .int .u64 ((t : Int) + 1)] w fun e w' => e = .returned (.int .u8 p.keys) ∧ w = w' := by
 have hm := hf.pmax
 obtain ⟨hlt, hp'⟩ := List.getElem?_eq_some_iff.mp hp
 obtain ⟨g, cap, hv, ho, _⟩ := h.past.block (by omega)
 have c1 := h.c1
 rw [hv] at c1
 have hc8 : w.cell? ⟨g, t * 10 + 8, none⟩ = some (.int .u8 p.keys) := h.past.cell ho _ _ (by rw [past_at D.past t hlt 8 (by omega), hp']; rfl)
 have HN : Hid (Calls Tryz.prog 80 #[.pointer (some ⟨b, 0, none⟩)] w fun e w' => e = .returned (.int .u64 (D.past.length : Int)) ∧ w = w') := dnewest w b D h hf
 have hb : ((t : Int) + 1 == 0) = false := beq_eq_false_iff_ne.mpr (by omega)
 have hd : ¬ (D.past.length : Int) < (t : Int) + 1 := by omega
 have ht0 : (0 : Int) ≤ (t : Int) := by omega
 have ht1 : (t : Int) < (D.past.length : Int) := by omega
 clear h hf hv ho hp hp'
 go_enter Tryz.func75, Tryz.ntmps75
 go_wp2_with (go_at_call 80; refine HN.out.mono ?_; rintro e w1 ⟨rfl, rfl⟩)
 go_ret
 exact ⟨rfl, rfl⟩
theorem dsite_bad (w : World) (b : Nat) (D : DevS) (i : Int) (h : Dev w b D) (hi : i < 0 ∨ (D.nodes.length : Int) ≤ i) :
 Calls Tryz.prog 106 #[.pointer (some ⟨b, 0, none⟩), .int .i64 i] w fun e w' => e = .returned (.tuple #[.pointer none, .int .i64 9]) ∧ w = w' := by
 obtain ⟨av, cv, hv, _⟩ := h.nodes.form
 have c28 := h.c28
 rw [hv] at c28
 by_cases h0 : i < 0
 · have hd : decide (i < 0) = true := by simpa using h0
   clear h hv hi
   go_enter Tryz.func106, Tryz.ntmps106
   go_wp2
   go_ret2
   exact ⟨rfl, rfl⟩
 · have hd : decide (i < 0) = false := by simpa using h0
   have h1 : (D.nodes.length : Int) ≤ i := by omega
   clear h hv hi
   go_enter Tryz.func106, Tryz.ntmps106
   go_wp2
   go_ret2
   exact ⟨rfl, rfl⟩
theorem dsite (w : World) (b k g : Nat) (D : DevS) (h : Dev w b D) (hk : k < D.nodes.length) (ho : D.vn.ownBlock = some g) :
 Calls Tryz.prog 106 #[.pointer (some ⟨b, 0, none⟩), .int .i64 (k : Int)] w fun e w' => e = .returned (.tuple #[.pointer (some ⟨g, k * 8, none⟩), .int .i64 0]) ∧ w = w' := by
 obtain ⟨g', cv, hv, ho', _⟩ := h.nodes.block (by omega)
 rw [ho] at ho'
 injection ho' with ho'
 subst ho'
 have c28 := h.c28
 rw [hv] at c28
 have hd : decide ((k : Int) < 0) = false := by simp
 have hd2 : ¬ D.nodes.length ≤ k := by omega
 have hk0 : (0 : Int) ≤ (k : Int) := by omega
 have hk1 : (k : Int) < (D.nodes.length : Int) := by omega
 clear h hv ho
 go_enter Tryz.func106, Tryz.ntmps106
 go_wp2
 go_ret2
 exact ⟨rfl, rfl⟩
theorem Turns.goes {w w' : World} {b k : Nat} {D : DevS} {p : NodeP} (h : Turns w b D k p w') : Goes w b D (D.pu.put (k : Int) p) w' := by
 obtain ⟨nd, e, hb⟩ := h
 exact ⟨_, by rw [DevS.pu_put, e], hb⟩
theorem dEvict (w : World) (b : Nat) (D : DevS) (k i : Int) (h : Dev w b D) (hw : D.Walk) :
 Calls Tryz.prog 47 #[.pointer (some ⟨b, 0, none⟩), .int .i64 k, .int .i64 i] w fun e w' => e = .returned (.int .i64 (D.pu.evict k i).1) ∧ Goes w b D (D.pu.evict k i).2 w' := by
 by_cases hk : k < 0 ∨ (D.nodes.length : Int) ≤ k
 · have HS : Hid (Calls Tryz.prog 106 #[.pointer (some ⟨b, 0, none⟩), .int .i64 k] w fun e w' => e = .returned (.tuple #[.pointer none, .int .i64 9]) ∧ w = w') := dsite_bad w b D k h hk
   have HE : Hid (D.pu.evict k i = (9, D.pu)) := by show _ = _; rw [DP.evict, DevS.pu_none hk]
   have HG : Hid (Goes w b D D.pu w) := Goes.of_kept h (Kept.refl _ _)
   clear h hw hk
   go_enter Tryz.func47, Tryz.ntmps47
   go_wp2_with (go_at_call 106; refine HS.out.mono ?_; rintro e w1 ⟨rfl, rfl⟩)
   go_ret
   exact ⟨by rw [HE.out]; rfl, by rw [HE.out]; exact HG.out⟩
 · obtain ⟨k, rfl⟩ : ∃ j : Nat, k = j := ⟨k.toNat, by omega⟩
   have hkl : k < D.nodes.length := by omega
   obtain ⟨nd, hnd⟩ : ∃ nd, D.nodes[k]? = some nd := ⟨_, List.getElem?_eq_getElem hkl⟩
   have hW := hw.nodes nd (List.mem_of_getElem? hnd)
   obtain ⟨g, _, _, ho, _⟩ := h.nodes.block hw.n1
   have HS : Hid (Calls Tryz.prog 106 #[.pointer (some ⟨b, 0, none⟩), .int .i64 (k : Int)] w fun e w' => e = .returned (.tuple #[.pointer (some ⟨g, k * 8, none⟩), .int .i64 0]) ∧ w = w') := dsite w b k g D h hkl ho
   have hsite := D.pu_site hnd
   have HT : Hid (∀ p w', Turns w b D k p w' → Goes w b D (D.pu.put (k : Int) p) w') := fun p w' hT => hT.goes
   have HC : Hid (Calls Tryz.prog 107 #[.pointer (some ⟨g, k * 8, none⟩), .int .i64 i] w fun e w' => ∃ er : Int, e = .returned (.int .i64 er) ∧ Hid ((D.pu.evict k i).1 = er ∧ Goes w b D (D.pu.evict k i).2 w')) := (dNEvict w b k g D nd i h hnd ho (by have := hW.el; omega)).mono fun e w' hp => by
    rcases hp with ⟨hb, e1, rfl⟩ | ⟨j, rfl, hj, e1, hT⟩
    · refine ⟨10, e1, ?_⟩
      rw [DP.evict, hsite]
      dsimp only
      rw [if_pos hb]
      exact ⟨rfl, Goes.of_kept h (Kept.refl _ _)⟩
    · refine ⟨0, e1, ?_⟩
      rw [DP.evict, hsite]
      dsimp only
      rw [if_neg (by omega)]
      exact ⟨rfl, HT.out _ _ hT.out⟩
   clear h hw hk hnd ho hW hsite
   go_enter Tryz.func47, Tryz.ntmps47
   go_wp2_with first
    | (go_at_call 106; refine HS.out.mono ?_; rintro e w1 ⟨rfl, rfl⟩)
    | (go_at_call 107; refine HC.out.mono ?_; rintro e w2 ⟨er, rfl, hr⟩)
   go_ret
   exact ⟨by rw [hr.out.1]; rfl, hr.out.2⟩
theorem dqnode (q : ByteArray) (n : Nat) (w : World) (hn0 : 0 < n) (hn1 : n ≤ 1000) (hq : q.size ≤ 40) :
 Calls Tryz.prog 134 #[.string q, .int .i64 (n : Int)] w fun e w' => e = .returned (.int .i64 ((sumB q.data.toList % n : Nat) : Int)) ∧ w = w' := by
 have hql : q.data.toList.length = q.size := by rw [Array.length_toList]; rfl
 have hd : ¬ (n : Int) < 1 := by omega
 go_enter Tryz.func134, Tryz.ntmps134
 go_wp2
 go_loop [5, 11] (fun s i => ∃ k : Nat, k ≤ q.size ∧ i = .int .i64 k ∧ s = .int .i64 (sumB (q.data.toList.take k) : Nat)) (fun _ i => q.size - (intOf i).toNat)
 case atStart => exact ⟨0, Nat.zero_le _, rfl, rfl⟩
 case round =>
  obtain ⟨k, hk, rfl, rfl⟩ := hrel
  have hle := sumB_le q.data.toList k (by omega)
  by_cases hlt : k < q.size
  · have HS : Hid (sumB (q.data.toList.take (k + 1)) = sumB (q.data.toList.take k) + q[k].toNat) := by
     show _ = _
     rw [sumB_snoc q.data.toList k (by omega)]; rfl
    have hb : q[k].toNat < 256 := UInt8.toNat_lt _
    go_wp2
    go_round
    case rel => exact ⟨k + 1, by omega, by go_num, by rw [HS.out]; go_num⟩
    case measure => simp [intOf]; omega
  · have hkk : k = q.size := by omega
    have HT : Hid (q.data.toList.take q.size = q.data.toList) := List.take_of_length_le (by omega)
    go_wp2
    go_ret
    refine ⟨rt_int ?_, rfl⟩
    rw [HT.out]
theorem dnodeOf (w : World) (b g : Nat) (D : DevS) (q : ByteArray) (h : Dev w b D) (ho : D.vn.ownBlock = some g) (hn0 : 0 < D.nodes.length) (hn1 : D.nodes.length ≤ 1000) (hq : q.size ≤ 40) :
 Calls Tryz.prog 88 #[.pointer (some ⟨b, 0, none⟩), .string q] w fun e w' => e = .returned (.pointer (some ⟨g, D.pu.nodeN q * 8, none⟩)) ∧ w = w' := by
 obtain ⟨g', cv, hv, ho', _⟩ := h.nodes.block hn0
 rw [ho] at ho'
 injection ho' with ho'
 subst ho'
 have c28 := h.c28
 rw [hv] at c28
 obtain ⟨k, hk⟩ : ∃ k, k = sumB q.data.toList % D.nodes.length := ⟨_, rfl⟩
 have hkl : k < D.nodes.length := by rw [hk]; exact Nat.mod_lt _ hn0
 have HN : Hid (D.pu.nodeN q = k) := by show sumB q.data.toList % (D.nodes.map (·.p)).length = k; rw [List.length_map, hk]
 have HQ : Hid (∀ W, Calls Tryz.prog 134 #[.string q, .int .i64 (D.nodes.length : Int)] W fun e w' => e = .returned (.int .i64 (k : Int)) ∧ W = w') := fun W => by rw [hk]; exact dqnode q _ W hn0 hn1 hq
 have hk0 : (0 : Int) ≤ (k : Int) := by omega
 have hk1 : (k : Int) < (D.nodes.length : Int) := by omega
 clear h hv ho hk
 go_enter Tryz.func88, Tryz.ntmps88
 go_wp2_with (go_at_call 134; refine (HQ.out _).mono ?_; rintro e w1 ⟨rfl, rfl⟩)
 go_ret
 exact ⟨by rw [HN.out]; rfl, rfl⟩
theorem dStore_bad (w : World) (b : Nat) (D : DevS) (i : Int) (h : Dev w b D) (hf : D.Fit) (hi : i < 0 ∨ (D.puts.length : Int) ≤ i) :
 Calls Tryz.prog 45 #[.pointer (some ⟨b, 0, none⟩), .int .i64 i] w fun e w' => e = .returned (.tuple #[.bool (D.pu.store i).1, .int .i64 (D.pu.store i).2.1]) ∧ Goes w b D (D.pu.store i).2.2 w' := by
 have HT : Hid (Calls Tryz.prog 99 #[.pointer (some ⟨b, 27, none⟩), .int .i64 i] w fun e w' => e = .returned (.tuple #[.agg #[.string ⟨#[]⟩, .int .i32 0, .int .u64 0, .int .u64 0, .bool false, .int .u64 0], .int .i64 10]) ∧ Kept (fun _ => False) w w') := (dtake w b D i h hf).mono fun e w' hp => by
  rcases hp with ⟨_, e1, hk⟩ | ⟨h1, h2, _⟩
  · exact ⟨e1, hk⟩
  · omega
 have HE : Hid (D.pu.store i = (false, 10, D.pu)) := by
  show _ = _
  rw [DP.store]
  by_cases h0 : i < 0
  · rw [if_pos h0]
  · rw [if_neg h0]
    have : D.pu.puts[i.toNat]? = none := List.getElem?_eq_none_iff.mpr (show D.puts.length ≤ i.toNat by omega)
    rw [this]
 have HG : Hid (∀ W, Kept (fun _ => False) w W → Goes w b D D.pu W) := fun W hW => Goes.of_kept h hW
 clear h hf hi
 go_enter Tryz.func45, Tryz.ntmps45
 go_wp2_with (go_at_call 99; refine HT.out.mono ?_; rintro e w1 ⟨rfl, hk1⟩)
 go_ret2
 exact ⟨by rw [HE.out]; rfl, by rw [HE.out]; exact HG.out _ (hk1.allocNew _)⟩
theorem dStore_good (w : World) (b : Nat) (D : DevS) (i : Nat) (h : Dev w b D) (hw : D.Walk) (hi : i < D.puts.length) :
 Calls Tryz.prog 45 #[.pointer (some ⟨b, 0, none⟩), .int .i64 (i : Int)] w fun e w' => e = .returned (.tuple #[.bool (D.pu.store i).1, .int .i64 (D.pu.store i).2.1]) ∧ Goes w b D (D.pu.store i).2.2 w' := by
 obtain ⟨x, hx⟩ : ∃ x, D.puts[i]? = some x := ⟨_, List.getElem?_eq_getElem hi⟩
 have hxq := hw.putq x (List.mem_of_getElem? hx)
 obtain ⟨k, hk⟩ : ∃ k, k = D.pu.nodeN x.q := ⟨_, rfl⟩
 have hkl : k < D.nodes.length := by rw [hk]; show sumB x.q.data.toList % (D.nodes.map (·.p)).length < _; rw [List.length_map]; exact Nat.mod_lt _ hw.n1
 obtain ⟨nd, hnd⟩ : ∃ nd, D.nodes[k]? = some nd := ⟨_, List.getElem?_eq_getElem hkl⟩
 have hW := hw.nodes nd (List.mem_of_getElem? hnd)
 have HE : Hid (D.pu.store (i : Int) = ((nd.p.store x).2, 0, { D.pu with puts := D.puts.eraseIdx i, sites := D.pu.sites.set k (nd.p.store x).1 })) := by
  show _ = _
  rw [DP.store, if_neg (by omega), Int.toNat_natCast]
  have e1 : D.pu.puts[i]? = some x := hx
  rw [e1]
  dsimp only
  rw [← hk]
  have e2 : D.pu.sites[k]? = some nd.p := by show (D.nodes.map (·.p))[k]? = _; rw [List.getElem?_map, hnd]; rfl
  rw [e2]
  rfl
 have HT : Hid (Calls Tryz.prog 99 #[.pointer (some ⟨b, 27, none⟩), .int .i64 (i : Int)] w fun e w' => e = .returned (.tuple #[.agg #[.string x.q, .int .i32 x.val, .int .u64 (x.fr : Int), .int .u64 (x.till : Int), .bool x.op, .int .u64 (x.kn : Int)], .int .i64 0]) ∧ Hid (∃ v, DBecame w b D w' (D.setPuts (D.puts.eraseIdx i) v))) := (dtake w b D i h hw.fit).mono fun e w' hp => by
  rcases hp with ⟨hb, _⟩ | ⟨h1, h2, x', hx', e1, v, r⟩
  · omega
  · rw [Int.toNat_natCast] at hx' r
    rw [hx] at hx'
    injection hx' with hx'
    subst hx'
    exact ⟨e1, v, r⟩
 have HNO : Hid (∀ W v, Dev W b (D.setPuts (D.puts.eraseIdx i) v) → ∃ g, D.vn.ownBlock = some g ∧ Calls Tryz.prog 88 #[.pointer (some ⟨b, 0, none⟩), .string x.q] W fun e w' => e = .returned (.pointer (some ⟨g, k * 8, none⟩)) ∧ W = w') := fun W v hW2 => by
  obtain ⟨g, _, _, ho, _⟩ := hW2.nodes.block hw.n1
  refine ⟨g, ho, ?_⟩
  have := dnodeOf W b g (D.setPuts (D.puts.eraseIdx i) v) x.q hW2 ho hw.n1 (by have := hw.n3; show D.nodes.length ≤ 1000; omega) hxq
  rw [hk]
  exact this
 have HST : Hid (∀ W g v, D.vn.ownBlock = some g → DBecame w b D W (D.setPuts (D.puts.eraseIdx i) v) → Calls Tryz.prog 101 #[.pointer (some ⟨g, k * 8, none⟩), .agg #[.string x.q, .int .i32 x.val, .int .u64 (x.fr : Int), .int .u64 (x.till : Int), .bool x.op, .int .u64 (x.kn : Int)]] W fun e w' => e = .returned (.bool (nd.p.store x).2) ∧ Hid (Goes w b D { D.pu with puts := D.puts.eraseIdx i, sites := D.pu.sites.set k (nd.p.store x).1 } w')) := fun W g v ho hB => by
  have hnd' : (D.setPuts (D.puts.eraseIdx i) v).nodes[k]? = some nd := hnd
  refine (dNStore W b k g _ nd x hB.1 hnd' ho hW.ok hW.el hW.r1 hW.r2 hW.us (by unfold maxLen; omega)).mono fun e w' hp => ⟨hp.1, ?_⟩
  obtain ⟨n2, e2, hb2⟩ := hp.2.out
  refine ⟨_, ?_, hB.trans hb2⟩
  rw [DevS.pu_put, e2]
  unfold DP.put
  rw [Int.toNat_natCast]
  rfl
 have HKB : Hid (∀ W W' v, DBecame w b D W (D.setPuts (D.puts.eraseIdx i) v) → Kept (fun _ => False) W W' → DBecame w b D W' (D.setPuts (D.puts.eraseIdx i) v)) := fun W W' v hB hk => ⟨hB.1.kept hk (fun _ _ => id), hB.2.1.trans hk (fun _ => id) (fun _ _ => False.elim), hB.2.2⟩
 clear h hw hi hx hnd hW hk hkl
 go_enter Tryz.func45, Tryz.ntmps45
 go_wp2_with first
  | (go_at_call 99; refine HT.out.mono ?_; rintro e w1 ⟨rfl, hv1⟩; obtain ⟨v, hB⟩ := hv1.out; have HB1 : Hid (DBecame w b D (w1.alloc (.cells #[.string x.q, .int .i32 x.val, .int .u64 (x.fr : Int), .int .u64 (x.till : Int), .bool x.op, .int .u64 (x.kn : Int)] 55)) (D.setPuts (D.puts.eraseIdx i) v)) := HKB.out _ _ _ hB (Kept.alloc _ _ _); obtain ⟨g, hg, hno⟩ := HNO.out _ _ HB1.out.1; have HG : Hid (D.vn.ownBlock = some g) := hg; have HNC : Hid (Calls Tryz.prog 88 #[.pointer (some ⟨b, 0, none⟩), .string x.q] (w1.alloc (.cells #[.string x.q, .int .i32 x.val, .int .u64 (x.fr : Int), .int .u64 (x.till : Int), .bool x.op, .int .u64 (x.kn : Int)] 55)) fun e w' => e = .returned (.pointer (some ⟨g, k * 8, none⟩)) ∧ (w1.alloc (.cells #[.string x.q, .int .i32 x.val, .int .u64 (x.fr : Int), .int .u64 (x.till : Int), .bool x.op, .int .u64 (x.kn : Int)] 55)) = w') := hno; clear hv1 hB hg hno)
  | (go_at_call 88; refine HNC.out.mono ?_; rintro e w2 ⟨rfl, rfl⟩)
  | (go_at_call 101; refine (HST.out _ g v HG.out HB1.out).mono ?_; rintro e w3 ⟨rfl, hr⟩)
 go_ret2
 exact ⟨by rw [HE.out]; rfl, by rw [HE.out]; exact hr.out⟩
theorem dStore (w : World) (b : Nat) (D : DevS) (i : Int) (h : Dev w b D) (hw : D.Walk) :
 Calls Tryz.prog 45 #[.pointer (some ⟨b, 0, none⟩), .int .i64 i] w fun e w' => e = .returned (.tuple #[.bool (D.pu.store i).1, .int .i64 (D.pu.store i).2.1]) ∧ Goes w b D (D.pu.store i).2.2 w' := by
 by_cases hi : i < 0 ∨ (D.puts.length : Int) ≤ i
 · exact dStore_bad w b D i h hw.fit hi
 · obtain ⟨j, rfl⟩ : ∃ j : Nat, i = j := ⟨i.toNat, by omega⟩
   exact dStore_good w b D j h hw (by omega)
def mapTo {α : Type} (f : α → α) (l : List α) (j : Nat) : List α := (l.take j).map f ++ l.drop j
theorem mapTo_zero {α : Type} (f : α → α) (l : List α) : mapTo f l 0 = l := by simp [mapTo]
theorem mapTo_all {α : Type} (f : α → α) (l : List α) : mapTo f l l.length = l.map f := by simp [mapTo]
theorem mapTo_len {α : Type} (f : α → α) (l : List α) (j : Nat) : (mapTo f l j).length = l.length := by simp [mapTo]; omega
theorem mapTo_at {α : Type} (f : α → α) (l : List α) (j : Nat) (h : j < l.length) : (mapTo f l j)[j]? = some l[j] := by
 unfold mapTo
 rw [List.getElem?_append_right (by simp; omega)]
 simp [Nat.min_eq_left (Nat.le_of_lt h)]
theorem mapTo_next {α : Type} (f : α → α) (l : List α) (j : Nat) (h : j < l.length) : (mapTo f l j).set j (f l[j]) = mapTo f l (j + 1) := by
 unfold mapTo
 rw [List.set_append_right _ _ (by simp; omega), List.take_succ_eq_append_getElem h, List.map_append, List.append_assoc]
 congr 1
 have e : l.drop j = l[j] :: l.drop (j + 1) := List.drop_eq_getElem_cons h
 simp only [List.length_map, List.length_take, Nat.min_eq_left (Nat.le_of_lt h), Nat.sub_self]
 rw [e]
 rfl
theorem dCommit_no (w : World) (b : Nat) (D : DevS) (ao : Option Addr) (n cap : Nat) (ws : List (Int × Int)) (er : Int) (h : Dev w b D) (her : er ≠ 0)
 (hc : Calls Tryz.prog 74 #[.pointer (some ⟨b, 0, none⟩), .slice ao n cap] w fun e w' => e = .returned (.tuple #[.int .u64 0, .int .i64 er]) ∧ Kept (fun _ => False) w w') (hE : D.pu.commit n ws = (0, er, D.pu)) :
 Calls Tryz.prog 28 #[.pointer (some ⟨b, 0, none⟩), .slice ao n cap] w fun e w' => e = .returned (.tuple #[.int .u64 ((D.pu.commit n ws).1 : Int), .int .i64 (D.pu.commit n ws).2.1]) ∧ Goes w b D (D.pu.commit n ws).2.2 w' := by
 have HC : Hid (Calls Tryz.prog 74 #[.pointer (some ⟨b, 0, none⟩), .slice ao n cap] w fun e w' => e = .returned (.tuple #[.int .u64 0, .int .i64 er]) ∧ Kept (fun _ => False) w w') := hc
 have HE : Hid (D.pu.commit n ws = (0, er, D.pu)) := hE
 have HG : Hid (∀ W, Kept (fun _ => False) w W → Goes w b D D.pu W) := fun W hW => Goes.of_kept h hW
 have hb : (er == 0) = false := beq_eq_false_iff_ne.mpr her
 have hb' : (er != 0) = true := by simp [bne, hb]
 clear h hc hE her
 go_enter Tryz.func28, Tryz.ntmps28
 go_wp2_with (go_at_call 74; refine HC.out.mono ?_; rintro e w1 ⟨rfl, hk1⟩)
 go_ret2
 exact ⟨by rw [HE.out]; rfl, by rw [HE.out]; exact HG.out _ hk1⟩
theorem dCommit_yes (w : World) (b : Nat) (D : DevS) (ao : Option Addr) (n cap : Nat) (ws : List (Int × Int)) (h : Dev w b D) (hw : D.Walk) (hwr : Wr w ao n ws) (hn : n ≤ 8) (hk : ws.all keyOk = true) (hp : D.past.length < 700) :
 Calls Tryz.prog 28 #[.pointer (some ⟨b, 0, none⟩), .slice ao n cap] w fun e w' => e = .returned (.tuple #[.int .u64 ((D.pu.commit n ws).1 : Int), .int .i64 (D.pu.commit n ws).2.1]) ∧ Goes w b D (D.pu.commit n ws).2.2 w' := by
 obtain ⟨q, hq⟩ : ∃ q, q = D.nextP ws := ⟨_, rfl⟩
 have HE : Hid (D.pu.commit n ws = (D.past.length + 1, 0, D.pu.push q)) := by
  show _ = _
  rw [DP.commit, if_neg (by omega), if_neg (by rw [hk]; simp), if_neg (show ¬ 700 ≤ D.pu.past.length by show ¬ 700 ≤ D.past.length; omega), hq]
  rfl
 have HC : Hid (Calls Tryz.prog 74 #[.pointer (some ⟨b, 0, none⟩), .slice ao n cap] w fun e w' => e = .returned (.tuple #[.int .u64 ((D.past.length : Int) + 1), .int .i64 0]) ∧ Hid (∃ v, DBecame w b D w' (D.pushP q v))) := (dcommit0 w b D ao n cap ws h hw.fit hwr hn).mono fun e w' hp2 => by
  rcases hp2 with ⟨a, _⟩ | ⟨_, a, _⟩ | ⟨_, _, e1, v, r⟩
  · rw [hk] at a; cases a
  · omega
  · rw [← hq] at r
    exact ⟨by rw [e1]; simp, v, r⟩
 have hFit : ∀ v, (D.pushP q v).Fit := fun v => ⟨by show (D.past ++ [q]).length ≤ 700; simp; omega, hw.fit.clk0, hw.fit.clk1, hw.fit.bmax, hw.fit.qmax⟩
 have HWT : Hid (∀ W v, Dev W b (D.pushP q v) → Calls Tryz.prog 75 #[.pointer (some ⟨b, 0, none⟩), .int .u64 ((D.past.length : Int) + 1)] W fun e w' => e = .returned (.int .u8 q.keys) ∧ W = w') := fun W v hD => dwrote0 W b _ D.past.length q hD (hFit v) (by show (D.past ++ [q])[D.past.length]? = _; simp)
 obtain ⟨f, hf⟩ : ∃ f : NodeP → NodeP, f = fun s => s.tell (D.past.length + 1) q.keys := ⟨_, rfl⟩
 obtain ⟨L, hL⟩ : ∃ L, L = D.pu.sites := ⟨_, rfl⟩
 have hLl : L.length = D.nodes.length := by rw [hL]; show (D.nodes.map (·.p)).length = _; simp
 obtain ⟨J, hJ⟩ : ∃ J : World → Nat → Prop, J = fun W j => ∃ D2 : DevS, D2.pu = { D.pu with past := D.past ++ [q], sites := mapTo f L j } ∧ DBecame w b D W D2 := ⟨_, rfl⟩
 have HJ0 : Hid (∀ W v, DBecame w b D W (D.pushP q v) → J W 0) := fun W v hB => by
  rw [hJ]
  exact ⟨_, by rw [mapTo_zero, hL]; rfl, hB⟩
 have HJE : Hid (∀ W, J W L.length → Goes w b D (D.pu.push q) W) := fun W hj => by
  rw [hJ] at hj
  obtain ⟨D2, e2, hb2⟩ := hj
  refine ⟨D2, ?_, hb2⟩
  rw [e2, mapTo_all, hL, hf]
  rfl
 have HCE : Hid (∀ W j, J W j → ∃ (av : Option Addr) (cv : Nat), W.cell? ⟨b, 28, none⟩ = some (.slice av L.length cv)) := fun W j hj => by
  rw [hJ] at hj
  obtain ⟨D2, e2, hb2⟩ := hj
  obtain ⟨av, cv, hv, _⟩ := hb2.1.nodes.form
  have hl2 : D2.nodes.length = L.length := by
   have : D2.pu.sites.length = L.length := by rw [e2]; exact mapTo_len f L j
   have e3 : D2.pu.sites.length = D2.nodes.length := by show (D2.nodes.map (·.p)).length = _; simp
   omega
  rw [hl2] at hv
  exact ⟨av, cv, by rw [← hv]; exact hb2.1.c28⟩
 have HTL : Hid (∀ W j (hj : j < L.length), J W j → ∃ (g cv : Nat), W.cell? ⟨b, 28, none⟩ = some (.slice (some ⟨g, 0, none⟩) L.length cv) ∧ Calls Tryz.prog 76 #[.pointer (some ⟨g, j * 8, none⟩), .int .u64 ((D.past.length : Int) + 1), .int .u8 q.keys] W fun e w' => e = .returned (.tuple #[]) ∧ Hid (J w' (j + 1))) := fun W j hj hJj => by
  rw [hJ] at hJj
  obtain ⟨D2, e2, hb2⟩ := hJj
  have hs2 : D2.nodes.map (·.p) = mapTo f L j := by
   have : D2.pu.sites = mapTo f L j := by rw [e2]
   exact this
  have hl2 : D2.nodes.length = L.length := by
   have := congrArg List.length hs2
   rw [mapTo_len] at this
   simpa using this
  obtain ⟨g, cv, hv, ho, _⟩ := hb2.1.nodes.block (by omega)
  obtain ⟨nd, hnd⟩ : ∃ nd, D2.nodes[j]? = some nd := ⟨_, List.getElem?_eq_getElem (by omega)⟩
  have hndp : nd.p = L[j] := by
   have h1 : (D2.nodes.map (·.p))[j]? = some nd.p := by rw [List.getElem?_map, hnd]; rfl
   rw [hs2, mapTo_at f L j hj] at h1
   injection h1 with h1
   exact h1.symm
  have hWn : nd.p.Walk := by
   rw [hndp]
   have : L[j] ∈ D.nodes.map (·.p) := by rw [← show D.pu.sites = D.nodes.map (·.p) from rfl, ← hL]; exact List.getElem_mem hj
   obtain ⟨x, hx, e⟩ := List.mem_map.mp this
   rw [← e]
   exact hw.nodes x hx
  refine ⟨g, cv, by rw [← hl2, ← hv]; exact hb2.1.c28, ?_⟩
  have := dtell W b j g D2 nd (D.past.length + 1) q.keys hb2.1 hnd ho hWn.fl hWn.fs (by have := hWn.ok.hz; omega)
  rw [show (((D.past.length + 1 : Nat)) : Int) = (D.past.length : Int) + 1 by omega] at this
  refine this.mono fun e w' hp3 => ⟨hp3.1, ?_⟩
  obtain ⟨n3, e3, hb3⟩ := hp3.2.out
  show J w' (j + 1)
  rw [hJ]
  refine ⟨_, ?_, hb2.trans hb3⟩
  rw [DevS.pu_put, e3, e2, hndp]
  unfold DP.put
  rw [Int.toNat_natCast, ← mapTo_next f L j hj]
  subst hf
  rfl
 have hlm : L.length ≤ 3 := by have := hw.n3; omega
 clear h hw hwr hn hk hq hFit hf hL hJ hLl
 go_enter Tryz.func28, Tryz.ntmps28
 go_wp2_with first
  | (go_at_call 74; refine HC.out.mono ?_; rintro e w1 ⟨rfl, hv1⟩; obtain ⟨v, hB⟩ := hv1.out; have HJ1 : Hid (J w1 0) := HJ0.out _ _ hB; have HW1 : Hid (Calls Tryz.prog 75 #[.pointer (some ⟨b, 0, none⟩), .int .u64 ((D.past.length : Int) + 1)] w1 fun e w' => e = .returned (.int .u8 q.keys) ∧ w1 = w') := HWT.out _ _ hB.1; obtain ⟨av, cv, c28⟩ := HCE.out _ _ HJ1.out; clear hB hv1)
  | (go_at_call 75; refine HW1.out.mono ?_; rintro e w2 ⟨rfl, rfl⟩)
 go_loopw [32] (fun iv wr => ∃ j : Nat, j ≤ L.length ∧ iv = .int .i64 j ∧ Hid (J wr j)) (fun iv _ => L.length - (intOf iv).toNat)
 case atStart => exact ⟨0, Nat.zero_le _, rfl, HJ1.out⟩
 case round =>
  obtain ⟨j, hj, rfl, HT⟩ := hrel
  by_cases hlt : j < L.length
  · obtain ⟨g, cv', d28, hcall⟩ := HTL.out wr j hlt HT.out
    have HCL : Hid (Calls Tryz.prog 76 #[.pointer (some ⟨g, j * 8, none⟩), .int .u64 ((D.past.length : Int) + 1), .int .u8 q.keys] wr fun e w' => e = .returned (.tuple #[]) ∧ Hid (J w' (j + 1))) := hcall
    have hj0 : (0 : Int) ≤ (j : Int) := by omega
    have hj1 : (j : Int) < (L.length : Int) := by omega
    clear hcall
    go_wp2_with (go_at_call 76; refine HCL.out.mono ?_; rintro e w3 ⟨rfl, hT3⟩)
    go_roundw
    case rel => exact ⟨j + 1, by omega, by go_num, hT3.out⟩
    case measure => simp [intOf]; omega
  · have hjn : j = L.length := by omega
    subst hjn
    have HG := HJE.out wr HT.out
    go_wp2
    go_ret2
    exact ⟨by rw [HE.out]; simp, by rw [HE.out]; exact HG⟩
theorem dCommit (w : World) (b : Nat) (D : DevS) (ao : Option Addr) (n cap : Nat) (ws : List (Int × Int)) (h : Dev w b D) (hw : D.Walk) (hwr : Wr w ao n ws) (hm : n ≤ maxLen) :
 Calls Tryz.prog 28 #[.pointer (some ⟨b, 0, none⟩), .slice ao n cap] w fun e w' => e = .returned (.tuple #[.int .u64 ((D.pu.commit n ws).1 : Int), .int .i64 (D.pu.commit n ws).2.1]) ∧ Goes w b D (D.pu.commit n ws).2.2 w' := by
 by_cases hn : 8 < n
 · refine dCommit_no w b D ao n cap ws 3 h (by decide) ((dcommit_long w b ao n cap hn hm).mono fun e w' hp => ⟨hp.1, by rw [← hp.2]; exact Kept.refl _ _⟩) (by rw [DP.commit, if_pos hn])
 · cases hk : ws.all keyOk with
   | false =>
    refine dCommit_no w b D ao n cap ws 5 h (by decide) ((dcommit0 w b D ao n cap ws h hw.fit hwr (by omega)).mono fun e w' hp => ?_) (by rw [DP.commit, if_neg hn, if_pos hk])
    rcases hp with ⟨_, e1, k⟩ | ⟨a, _⟩ | ⟨a, _⟩
    · exact ⟨e1, k⟩
    · rw [hk] at a; cases a
    · rw [hk] at a; cases a
   | true =>
    by_cases hp : D.past.length < 700
    · exact dCommit_yes w b D ao n cap ws h hw hwr (by omega) hk hp
    · refine dCommit_no w b D ao n cap ws 6 h (by decide) ((dcommit0 w b D ao n cap ws h hw.fit hwr (by omega)).mono fun e w' hp2 => ?_) (by rw [DP.commit, if_neg hn, if_neg (by rw [hk]; simp), if_pos (show 700 ≤ D.pu.past.length by show 700 ≤ D.past.length; omega)])
      rcases hp2 with ⟨a, _⟩ | ⟨_, _, e1, k⟩ | ⟨_, a, _⟩
      · rw [hk] at a; cases a
      · exact ⟨e1, k⟩
      · omega
theorem till_pos {l : List PastE} {K : Int} {s : Nat} : ∀ n, n ≤ l.length - 1 → tillN l K n = some s → l.length - 1 - n < s
 | 0, _, h => by simp [tillN] at h
 | n + 1, hn, h => by
  simp only [tillN] at h
  split at h
  · injection h with h; omega
  · have := till_pos n (by omega) h; omega
def answerE (D : DevS) (q : ByteArray) (ts : List (Nat × Nat)) (t : Nat) : EntE := rightE (zeroP :: D.past) q (keysL ts) (evalL (stAt D.past t) ts) t
theorem answer_open (D : DevS) (q : ByteArray) (ts : List (Nat × Nat)) (t : Nat) : ((((answerE D q ts t).till : Nat) : Int) == 0) = (answerE D q ts t).op := by
 show (((((tillN (zeroP :: D.past) (keysL ts) ((zeroP :: D.past).length - 1 - t)).getD 0 : Nat) : Int)) == 0) = (tillN (zeroP :: D.past) (keysL ts) ((zeroP :: D.past).length - 1 - t)).isNone
 cases h : tillN (zeroP :: D.past) (keysL ts) ((zeroP :: D.past).length - 1 - t) with
 | none => rfl
 | some s =>
  have := till_pos _ (by omega) h
  have h0 : ¬ ((s : Int) = 0) := by omega
  simpa using h0
def AnswerPost (w : World) (en : EntE) (e : Ending) (w' : World) : Prop :=
 e = .returned (.agg #[.string en.q, .int .i32 en.val, .int .u64 (en.fr : Int), .int .u64 (en.till : Int), .bool en.op, .int .u64 (en.kn : Int)]) ∧ Kept (fun _ => False) w w'
theorem danswer (w : World) (b : Nat) (D : DevS) (q : ByteArray) (ts : List (Nat × Nat)) (t : Nat) (h : Dev w b D) (hf : D.Fit) (ht : t ≤ D.past.length) (hr : Q.readL q.data.toList = (0, ts)) :
 Calls Tryz.prog 91 #[.pointer (some ⟨b, 0, none⟩), .string q, .int .u8 (keysL ts), .int .u64 (t : Int)] w fun e w' => AnswerPost w (answerE D q ts t) e w' := by
 obtain ⟨en, hen⟩ : ∃ en, en = answerE D q ts t := ⟨_, rfl⟩
 obtain ⟨x, hx⟩ : ∃ x, x = stAt D.past t := ⟨_, rfl⟩
 have hbl := h.blk.lt
 have H0 : Hid (∀ W, Kept (fun _ => False) w W → Calls Tryz.prog 128 #[.pointer (some ⟨b, 0, none⟩), .int .u64 (t : Int)] W fun e w' => e = .returned (.agg #[.int .i32 (x 0), .int .i32 (x 1), .int .i32 (x 2), .int .i32 (x 3), .int .i32 (x 4), .int .i32 (x 5), .int .i32 (x 6), .int .i32 (x 7)]) ∧ Kept (fun _ => False) W w') := fun W hW => by
  have := dat W b D t (h.kept hW (fun _ _ => id)) hf ht
  rw [← hx] at this
  exact this
 have H1 : Hid (∀ W, Calls Tryz.prog 138 #[.string q, .agg #[.int .i32 (x 0), .int .i32 (x 1), .int .i32 (x 2), .int .i32 (x 3), .int .i32 (x 4), .int .i32 (x 5), .int .i32 (x 6), .int .i32 (x 7)]] W fun e w' => e = .returned (.tuple #[.int .i32 en.val, .int .i64 0]) ∧ Kept (fun _ => False) W w') := fun W => (qEval_good q x W ts hr).mono fun e w' hp => ⟨by rw [hp.1, hen, hx]; rfl, Kept.of_below hp.2 _⟩
 have H2 : Hid (∀ W, Kept (fun _ => False) w W → Calls Tryz.prog 139 #[.pointer (some ⟨b, 0, none⟩), .int .u8 (keysL ts), .int .u64 (t : Int)] W fun e w' => e = .returned (.tuple #[.int .u64 (en.fr : Int), .int .u64 (en.till : Int)]) ∧ Kept (fun _ => False) W w') := fun W hW => (dright W b D (keysL ts) t (h.kept hW (fun _ _ => id)) hf ht).mono fun e w' hp => ⟨by rw [hp.1, hen]; rfl, hp.2⟩
 have H3 : Hid (∀ W, Kept (fun _ => False) w W → Calls Tryz.prog 80 #[.pointer (some ⟨b, 0, none⟩)] W fun e w' => e = .returned (.int .u64 (en.kn : Int)) ∧ W = w') := fun W hW => (dnewest W b D (h.kept hW (fun _ _ => id)) hf).mono fun e w' hp => ⟨by rw [hp.1, hen]; rfl, hp.2⟩
 have hop : (((en.till : Nat) : Int) == 0) = en.op := by rw [hen]; exact answer_open D q ts t
 have hq : q = en.q := by rw [hen]; rfl
 have HRES : Hid (∀ w1, Kept (fun _ => False) (w.alloc (.cells #[.string ⟨#[]⟩, .int .i32 0, .int .u64 0, .int .u64 0, .bool false, .int .u64 0] 55)) w1 → Blk w1 w.heap.size 55 #[.string ⟨#[]⟩, .int .i32 0, .int .u64 0, .int .u64 0, .bool false, .int .u64 0]) := fun w1 hk => (Blk.new w _ _).kept hk id
 rw [← hen]
 generalize keysL ts = K at *
 clear h hf hr hen hx
 subst hq
 go_enter Tryz.func91, Tryz.ntmps91
 go_wp2_with first
  | (go_at_call 128; refine (H0.out _ (Kept.alloc _ _ _)).mono ?_; rintro e w1 ⟨rfl, hk1⟩; have hs1 := hk1.size)
  | (go_at_call 138; refine (H1.out _).mono ?_; rintro e w2 ⟨rfl, hk2⟩; have HK2 := (hk1.allocNew _).trans hk2 (H := fun _ => False) (fun _ => id) (fun _ _ => id))
  | (go_at_call 139; refine (H2.out _ ((Kept.alloc _ _ _).trans HK2 (fun _ => id) (fun _ _ => id))).mono ?_; rintro e w3 ⟨rfl, hk3⟩; have HK3 := HK2.trans hk3 (H := fun _ => False) (fun _ => id) (fun _ _ => id))
  | (go_at_call 80; refine (H3.out _ ((Kept.alloc _ _ _).trans HK3 (fun _ => id) (fun _ _ => id))).mono ?_; rintro e w4 ⟨rfl, rfl⟩; have hbb := HRES.out _ HK3; have y0 : w3.cell? ⟨w.heap.size, 0, none⟩ = some (.string ⟨#[]⟩) := hbb.cell 0; have y1 : w3.cell? ⟨w.heap.size, 1, none⟩ = some (.int .i32 0) := hbb.cell 1; have y2 : w3.cell? ⟨w.heap.size, 2, none⟩ = some (.int .u64 0) := hbb.cell 2; have y3 : w3.cell? ⟨w.heap.size, 3, none⟩ = some (.int .u64 0) := hbb.cell 3; have y4 : w3.cell? ⟨w.heap.size, 4, none⟩ = some (.bool false) := hbb.cell 4; have y5 : w3.cell? ⟨w.heap.size, 5, none⟩ = some (.int .u64 0) := hbb.cell 5; have g0 := hbb.free 0; have g1 := hbb.free 1; have g2 := hbb.free 2; have g3 := hbb.free 3; have g4 := hbb.free 4; have g5 := hbb.free 5; clear hbb)
 refine bodyPost_ret (v := .agg #[.string en.q, .int .i32 en.val, .int .u64 (en.fr : Int), .int .u64 (en.till : Int), .bool en.op, .int .u64 (en.kn : Int)]) (by simp [results, Tryz.results91, go_sem, *]) rfl ⟨rfl, ?_⟩
 exact ((Kept.alloc _ _ (fun _ => False)).trans HK3 (fun _ => id) (fun _ _ => id)).trans (kept_six _ _ _ _ _ _ _ _) (fun _ => id) (fun i hi he => by omega)
def DRefusePost (w : World) (er : Int) (e : Ending) (w' : World) : Prop := e = .returned (.tuple #[.int .i32 0, .bool false, .int .i64 er]) ∧ Kept (fun _ => False) w w'
theorem dread_gone (w : World) (b : Nat) (D : DevS) (m : Int) (q : ByteArray) (h : Dev w b D) (hall : ∀ i, i < 6 → (D.seats i).reads = true → (D.seats i).num ≠ m) :
 Calls Tryz.prog 38 #[.pointer (some ⟨b, 0, none⟩), .int .i64 m, .string q] w fun e w' => DRefusePost w 8 e w' := by
 have H0 : Hid (Calls Tryz.prog 87 #[.pointer (some ⟨b, 2, none⟩), .int .i64 m] w fun e w' => e = .returned (.tuple #[.agg #[.int .u64 0, .int .u64 0], .int .i64 8]) ∧ Kept (fun _ => False) w w') := (dspan w b D m h).mono fun e w' hp => by
  obtain ⟨k, ⟨_, e1⟩ | ⟨j, hj, hr, hn, _⟩⟩ := hp
  · exact ⟨e1, k⟩
  · exact absurd hn (hall j hj hr)
 clear h hall
 go_enter Tryz.func38, Tryz.ntmps38
 go_wp2_with (go_at_call 87; refine H0.out.mono ?_; rintro e w1 ⟨rfl, hk1⟩)
 exact bodyPost_ret (v := .tuple #[.int .i32 0, .bool false, .int .i64 8]) (by simp [results, Tryz.results38, go_sem]) rfl ⟨rfl, hk1.allocNew _⟩
theorem dread_bad (w : World) (b : Nat) (D : DevS) (m : Int) (q : ByteArray) (er : Int) (j : Nat) (h : Dev w b D) (hj : j < 6) (hr : (D.seats j).reads = true) (hn : (D.seats j).num = m) (hq : q.size ≤ maxLen) (her : er ≠ 0) (hrd : Q.readL q.data.toList = (er, [])) :
 Calls Tryz.prog 38 #[.pointer (some ⟨b, 0, none⟩), .int .i64 m, .string q] w fun e w' => DRefusePost w er e w' := by
 have H0 : Hid (Calls Tryz.prog 87 #[.pointer (some ⟨b, 2, none⟩), .int .i64 m] w fun e w' => ∃ x y : Int, e = .returned (.tuple #[.agg #[.int .u64 x, .int .u64 y], .int .i64 0]) ∧ Kept (fun _ => False) w w') := (dspan w b D m h).mono fun e w' hp => by
  obtain ⟨k, ⟨a, _⟩ | ⟨j, hj, hr, hn, e1⟩⟩ := hp
  · exact absurd hn (a j hj hr)
  · exact ⟨_, _, e1, k⟩
 have H1 : Hid (∀ W, Calls Tryz.prog 71 #[.string q] W fun e w' => e = .returned (.tuple #[.agg #[.int .u8 0, .int .i64 0], .int .i64 er]) ∧ Kept (fun _ => False) W w') := fun W => by
  have := qParse_any q W hq
  rw [hrd] at this
  exact this.mono fun e w' hp => ⟨hp.1, Kept.of_below hp.2 _⟩
 have hne : (er == 0) = false := beq_eq_false_iff_ne.mpr her
 clear h hj hr hn hq hrd her
 go_enter Tryz.func38, Tryz.ntmps38
 go_wp2_with first
  | (go_at_call 87; refine H0.out.mono ?_; rintro e w1 ⟨x, y, rfl, hk1⟩)
  | (go_at_call 71; refine (H1.out _).mono ?_; rintro e w2 ⟨rfl, hk2⟩)
 exact bodyPost_ret (v := .tuple #[.int .i32 0, .bool false, .int .i64 er]) (by simp [results, Tryz.results38, go_sem]) rfl ⟨rfl, ((hk1.allocNew _).trans hk2 (fun _ => id) (fun _ _ => id)).allocNew _⟩
theorem two_box {w1 w3 : World} {a b : Value} {T : TypeId} (k : Kept (fun _ => False) (w1.alloc (.cells #[a, b] T)) w3) : w3.cell? ⟨w1.heap.size, 0, none⟩ = some a ∧ w3.cell? ⟨w1.heap.size, 1, none⟩ = some b ∧ w1.heap.size < w3.heap.size :=
 ⟨k.keep id (by simp), k.keep id (by simp), by have := k.size; simp at this; omega⟩
namespace DP
def answer (P : DP) (q : ByteArray) (ts : List (Nat × Nat)) (t : Nat) : EntE := rightE (zeroP :: P.past) q (keysL ts) (evalL (stAt P.past t) ts) t
def joined (P : DP) (e : EntE) : List EntE := if P.puts.length < 10 then P.puts ++ [e] else P.puts
def hit (P : DP) (j k i : Nat) (s : NodeP) (x : HeldE) : DP := { P with seats := putSeat P.seats j ((P.seats j).cut x.e.fr (lastE x.e s.horizon)), sites := P.sites.set k (s.use i x) }
def miss (P : DP) (j : Nat) (e : EntE) : DP := { P with seats := putSeat P.seats j ((P.seats j).cut e.fr (P.seats j).hi), puts := P.joined e }
end DP
theorem DBecame.seat {w W w' : World} {b j : Nat} {D D1 : DevS} {x : SeatE} (h : DBecame w b D W D1) (hd : Dev w' b (D1.seatP j x D1.begun)) (hk : Kept (D1.fp b) W w') : DBecame w b D w' (D1.seatP j x D1.begun) :=
 h.trans ⟨hd, hk, fun _ hx => .inl hx⟩
theorem DBecame.more {w W w' : World} {b : Nat} {D D1 : DevS} (h : DBecame w b D W D1) (hk : Kept (fun _ => False) W w') : DBecame w b D w' D1 := h.trans (DBecame.of_kept h.1 hk)
theorem dread_hit (w : World) (b : Nat) (D : DevS) (m : Int) (q : ByteArray) (ts : List (Nat × Nat)) (j i : Nat) (nd : DNodeE) (x : HeldE) (h : Dev w b D) (hw : D.Walk) (hj : j < 6) (hr : (D.seats j).reads = true) (hn : (D.seats j).num = m) (hone : ∀ i, i < 6 → (D.seats i).reads = true → (D.seats i).num = m → i = j) (hlh : (D.seats j).lo ≤ (D.seats j).hi) (hq : q.size ≤ 40) (hrd : Q.readL q.data.toList = (0, ts))
 (hnd : D.nodes[D.pu.nodeN q]? = some nd) (ha : nd.p.ans q (D.seats j).lo (D.seats j).hi nd.p.ents.length = (i : Int)) (hx : nd.p.ents[i]? = some x) :
 Calls Tryz.prog 38 #[.pointer (some ⟨b, 0, none⟩), .int .i64 m, .string q] w fun e w' => e = .returned (.tuple #[.int .i32 x.e.val, .bool true, .int .i64 0]) ∧ Goes w b D (D.pu.hit j (D.pu.nodeN q) i nd.p x) w' := by
 have hW := hw.nodes nd (List.mem_of_getElem? hnd)
 obtain ⟨lo, hlo⟩ : ∃ lo, lo = (D.seats j).lo := ⟨_, rfl⟩
 obtain ⟨hi, hhi⟩ : ∃ hi, hi = (D.seats j).hi := ⟨_, rfl⟩
 obtain ⟨K, hK⟩ : ∃ K, K = keysL ts := ⟨_, rfl⟩
 obtain ⟨k, hk⟩ : ∃ k, k = D.pu.nodeN q := ⟨_, rfl⟩
 obtain ⟨L, hL⟩ : ∃ L, L = lastE x.e nd.p.horizon := ⟨_, rfl⟩
 rw [← hk] at hnd ⊢
 obtain ⟨g, _, _, ho, _⟩ := h.nodes.block hw.n1
 have H0 : Hid (Calls Tryz.prog 87 #[.pointer (some ⟨b, 2, none⟩), .int .i64 m] w fun e w' => e = .returned (.tuple #[.agg #[.int .u64 (lo : Int), .int .u64 (hi : Int)], .int .i64 0]) ∧ Kept (fun _ => False) w w') := (dspan w b D m h).mono fun e w' hp => by
  obtain ⟨k, ⟨a, _⟩ | ⟨i, hi, hri, hni, e1⟩⟩ := hp
  · exact absurd hn (a j hj hr)
  · have := hone i hi hri hni
    subst this
    exact ⟨by rw [e1, hlo, hhi], k⟩
 have H1 : Hid (∀ W, Calls Tryz.prog 71 #[.string q] W fun e w' => e = .returned (.tuple #[.agg #[.int .u8 K, .int .i64 (ts.length : Int)], .int .i64 0]) ∧ Kept (fun _ => False) W w') := fun W => (qParse_good q W ts hrd).mono fun e w' hp => ⟨by rw [hp.1, hK], Kept.of_below hp.2 _⟩
 have H2 : Hid (∀ W, Kept (fun _ => False) w W → Calls Tryz.prog 88 #[.pointer (some ⟨b, 0, none⟩), .string q] W fun e w' => e = .returned (.pointer (some ⟨g, k * 8, none⟩)) ∧ W = w') := fun W hW2 => by
  rw [hk]
  exact dnodeOf W b g D q (h.kept hW2 (fun _ _ => id)) ho hw.n1 (by have := hw.n3; omega) hq
 have H3 : Hid (∀ W, Kept (fun _ => False) w W → Calls Tryz.prog 89 #[.pointer (some ⟨g, k * 8, none⟩), .string q, .agg #[.int .u64 (lo : Int), .int .u64 (hi : Int)]] W fun e w' => e = .returned (.tuple #[.int .i32 x.e.val, .agg #[.int .u64 (x.e.fr : Int), .int .u64 (L : Int)], .bool true]) ∧ Hid (Turns W b D k (nd.p.use i x) w')) := fun W hW2 => by
  rw [← hlo, ← hhi] at ha hlh
  refine (dAnswer W b k g D nd q lo hi (h.kept hW2 (fun _ _ => id)) hnd ho (by have := hW.el; omega) hW.es hlh (by have := hW.us; omega)).mono fun e w' hp => ?_
  rcases hp with ⟨h1, _⟩ | ⟨i', x', h1, h2, e1, hT⟩
  · omega
  · obtain rfl : i = i' := by omega
    rw [hx] at h2
    injection h2 with h2
    subst h2
    exact ⟨by rw [e1, hL], hT⟩
 have H4 : Hid (∀ W W', Kept (fun _ => False) w W → Turns W b D k (nd.p.use i x) W' → ∀ W'', Kept (fun _ => False) W' W'' → Calls Tryz.prog 90 #[.pointer (some ⟨b, 2, none⟩), .int .i64 m, .agg #[.int .u64 (x.e.fr : Int), .int .u64 (L : Int)]] W'' fun e w' => e = .returned (.tuple #[]) ∧ Hid (Goes w b D (D.pu.hit j k i nd.p x) w')) := fun W W' hW2 hT W'' hk2 => by
  obtain ⟨n1, e1, hb1⟩ := (Turns.from hW2 hT).then hk2
  refine (dnarrow W'' b (D.putN k n1) m j x.e.fr L hb1.1 hj hr hn hone).mono fun e w' hp => ⟨hp.1, ?_⟩
  refine ⟨_, ?_, hb1.seat hp.2.1 hp.2.2⟩
  unfold DP.hit DevS.pu
  rw [hL]
  show (⟨_, _, _, _, _, ((D.nodes.set k n1).map (·.p))⟩ : DP) = _
  rw [List.map_set, e1]
  rfl
 clear h hw hj hr hn hone hlh hrd hnd ha hx hW hlo hhi hK hk hL ho
 go_enter Tryz.func38, Tryz.ntmps38
 go_wp2_with first
  | (go_at_call 87; refine H0.out.mono ?_; rintro e w1 ⟨rfl, hk1⟩)
  | (go_at_call 71; refine (H1.out _).mono ?_; rintro e w2 ⟨rfl, hk2⟩; obtain ⟨s0, s1, s2⟩ := two_box hk2; have HK2 : Hid (Kept (fun _ => False) w w2) := (hk1.allocNew _).trans hk2 (fun _ => id) (fun _ _ => id); clear hk1 hk2)
  | (go_at_call 88; refine (H2.out _ (HK2.out.allocNew _)).mono ?_; rintro e w3 ⟨rfl, rfl⟩)
  | (go_at_call 89; refine (H3.out _ (HK2.out.allocNew _)).mono ?_; rintro e w4 ⟨rfl, hT⟩; have HT4 : Hid (∀ W'', Kept (fun _ => False) w4 W'' → Calls Tryz.prog 90 #[.pointer (some ⟨b, 2, none⟩), .int .i64 m, .agg #[.int .u64 (x.e.fr : Int), .int .u64 (L : Int)]] W'' fun e w' => e = .returned (.tuple #[]) ∧ Hid (Goes w b D (D.pu.hit j k i nd.p x) w')) := H4.out _ _ (HK2.out.allocNew _) hT.out; clear hT)
 go_region_with ((go_at_call 90; refine (HT4.out _ ((Kept.alloc _ _ _).drewN _)).mono ?_; rintro e w5 ⟨rfl, hG⟩))
 all_goals
  go_wp2
  refine bodyPost_ret (v := .tuple #[.int .i32 x.e.val, .bool true, .int .i64 0]) (by simp [results, Tryz.results38, go_sem]) rfl ⟨rfl, hG.out⟩
theorem dread_miss (w : World) (b : Nat) (D : DevS) (m : Int) (q : ByteArray) (ts : List (Nat × Nat)) (j : Nat) (nd : DNodeE) (h : Dev w b D) (hw : D.Walk) (hj : j < 6) (hr : (D.seats j).reads = true) (hn : (D.seats j).num = m) (hone : ∀ i, i < 6 → (D.seats i).reads = true → (D.seats i).num = m → i = j) (hlh : (D.seats j).lo ≤ (D.seats j).hi) (hhi : (D.seats j).hi ≤ D.past.length) (hq : q.size ≤ 40) (hrd : Q.readL q.data.toList = (0, ts))
 (hnd : D.nodes[D.pu.nodeN q]? = some nd) (ha : nd.p.ans q (D.seats j).lo (D.seats j).hi nd.p.ents.length < 0) :
 Calls Tryz.prog 38 #[.pointer (some ⟨b, 0, none⟩), .int .i64 m, .string q] w fun e w' => e = .returned (.tuple #[.int .i32 (D.pu.answer q ts (D.seats j).hi).val, .bool false, .int .i64 0]) ∧ Goes w b D (D.pu.miss j (D.pu.answer q ts (D.seats j).hi)) w' := by
 have hW := hw.nodes nd (List.mem_of_getElem? hnd)
 obtain ⟨en, hen⟩ : ∃ en, en = answerE D q ts (D.seats j).hi := ⟨_, rfl⟩
 have hen' : D.pu.answer q ts (D.seats j).hi = en := by rw [hen]; rfl
 rw [hen']
 obtain ⟨lo, hlo⟩ : ∃ lo, lo = (D.seats j).lo := ⟨_, rfl⟩
 obtain ⟨hi, hhi'⟩ : ∃ hi, hi = (D.seats j).hi := ⟨_, rfl⟩
 obtain ⟨K, hK⟩ : ∃ K, K = keysL ts := ⟨_, rfl⟩
 obtain ⟨k, hk⟩ : ∃ k, k = D.pu.nodeN q := ⟨_, rfl⟩
 rw [← hk] at hnd
 have hbl := h.blk.lt
 obtain ⟨g, _, _, ho, _⟩ := h.nodes.block hw.n1
 have H0 : Hid (Calls Tryz.prog 87 #[.pointer (some ⟨b, 2, none⟩), .int .i64 m] w fun e w' => e = .returned (.tuple #[.agg #[.int .u64 (lo : Int), .int .u64 (hi : Int)], .int .i64 0]) ∧ Kept (fun _ => False) w w') := (dspan w b D m h).mono fun e w' hp => by
  obtain ⟨k, ⟨a, _⟩ | ⟨i, hi, hri, hni, e1⟩⟩ := hp
  · exact absurd hn (a j hj hr)
  · have := hone i hi hri hni
    subst this
    exact ⟨by rw [e1, hlo, hhi'], k⟩
 have H1 : Hid (∀ W, Calls Tryz.prog 71 #[.string q] W fun e w' => e = .returned (.tuple #[.agg #[.int .u8 K, .int .i64 (ts.length : Int)], .int .i64 0]) ∧ Kept (fun _ => False) W w') := fun W => (qParse_good q W ts hrd).mono fun e w' hp => ⟨by rw [hp.1, hK], Kept.of_below hp.2 _⟩
 have HNO : Hid (∀ W, Kept (fun _ => False) w W → Calls Tryz.prog 88 #[.pointer (some ⟨b, 0, none⟩), .string q] W fun e w' => e = .returned (.pointer (some ⟨g, k * 8, none⟩)) ∧ W = w') := fun W hW2 => by
  rw [hk]
  exact dnodeOf W b g D q (h.kept hW2 (fun _ _ => id)) ho hw.n1 (by have := hw.n3; omega) hq
 have HAN : Hid (∀ W, Kept (fun _ => False) w W → Calls Tryz.prog 89 #[.pointer (some ⟨g, k * 8, none⟩), .string q, .agg #[.int .u64 (lo : Int), .int .u64 (hi : Int)]] W fun e w' => e = .returned (.tuple #[.int .i32 0, .agg #[.int .u64 0, .int .u64 0], .bool false]) ∧ Kept (fun _ => False) W w') := fun W hW2 => by
  rw [← hlo, ← hhi'] at ha hlh
  refine (dAnswer W b k g D nd q lo hi (h.kept hW2 (fun _ _ => id)) hnd ho (by have := hW.el; omega) hW.es hlh (by have := hW.us; omega)).mono fun e w' hp => ?_
  rcases hp with ⟨_, e1, hk1⟩ | ⟨i', x', h1, _⟩
  · exact ⟨e1, hk1⟩
  · omega
 have H2 : Hid (∀ W, Kept (fun _ => False) w W → Calls Tryz.prog 91 #[.pointer (some ⟨b, 0, none⟩), .string q, .int .u8 K, .int .u64 (hi : Int)] W fun e w' => e = .returned (.agg #[.string en.q, .int .i32 en.val, .int .u64 (en.fr : Int), .int .u64 (en.till : Int), .bool en.op, .int .u64 (en.kn : Int)]) ∧ Kept (fun _ => False) W w') := fun W hW => by
  have := danswer W b D q ts (D.seats j).hi (h.kept hW (fun _ _ => id)) hw.fit hhi hrd
  rw [← hen, ← hhi', ← hK] at this
  exact this
 have H3 : Hid (∀ W, Kept (fun _ => False) w W → Calls Tryz.prog 90 #[.pointer (some ⟨b, 2, none⟩), .int .i64 m, .agg #[.int .u64 (en.fr : Int), .int .u64 (hi : Int)]] W fun e w' => e = .returned (.tuple #[]) ∧ Hid (DBecame w b D w' (D.seatP j ((D.seats j).cut en.fr hi) D.begun) ∧ Kept (D.fp b) W w')) := fun W hW =>
  (dnarrow W b D m j en.fr hi (h.kept hW (fun _ _ => id)) hj hr hn hone).mono fun e w' hp => ⟨hp.1, (DBecame.of_kept h hW).seat hp.2.1 hp.2.2, hp.2.2⟩
 have H4 : Hid (∀ W, DBecame w b D W (D.seatP j ((D.seats j).cut en.fr hi) D.begun) → Calls Tryz.prog 92 #[.pointer (some ⟨b, 27, none⟩), .agg #[.string en.q, .int .i32 en.val, .int .u64 (en.fr : Int), .int .u64 (en.till : Int), .bool en.op, .int .u64 (en.kn : Int)]] W fun e w' => e = .returned (.tuple #[]) ∧ Hid (Goes w b D (D.pu.miss j en) w' ∧ Kept ((D.seatP j ((D.seats j).cut en.fr hi) D.begun).fp b) W w')) := fun W hB => by
  refine (djoin W b _ en hB.1 ⟨hw.fit.pmax, hw.fit.clk0, hw.fit.clk1, hw.fit.bmax, hw.fit.qmax⟩).mono fun e w' hp => ⟨hp.1, ?_⟩
  obtain ⟨v, r⟩ := hp.2
  refine ⟨⟨_, ?_, hB.trans r⟩, r.2.1⟩
  rw [hhi']
  rfl
 have HLT : Hid (∀ k, D.fp b k → k < w.heap.size) := h.lt
 clear h hw hj hr hn hone hlh hhi hrd hen hen' hnd ha hW hlo hhi' hK hk ho
 go_enter Tryz.func38, Tryz.ntmps38
 go_wp2_with first
  | (go_at_call 87; refine H0.out.mono ?_; rintro e w1 ⟨rfl, hk1⟩)
  | (go_at_call 71; refine (H1.out _).mono ?_; rintro e w2 ⟨rfl, hk2⟩; obtain ⟨s0, s1, s2⟩ := two_box hk2; have HK2 : Hid (Kept (fun _ => False) w w2) := (hk1.allocNew _).trans hk2 (fun _ => id) (fun _ _ => id); clear hk1 hk2)
  | (go_at_call 88; refine (HNO.out _ (HK2.out.allocNew _)).mono ?_; rintro e w3 ⟨rfl, rfl⟩)
  | (go_at_call 89; refine (HAN.out _ (HK2.out.allocNew _)).mono ?_; rintro e w4 ⟨rfl, hk4⟩; obtain ⟨t0, t1, t2⟩ := two_box hk4; have r0 := hk4.keep id (hold_al s0); have r1 := hk4.keep id (hold_al s1); have HK4 : Hid (Kept (fun _ => False) w w4) := (HK2.out.allocNew _).trans hk4 (fun _ => id) (fun _ _ => id); have s4 : w1.heap.size < w4.heap.size := World.block_lt_of_cell? w4 _ r0; clear hk4)
  | (go_at_call 91; refine (H2.out _ (HK4.out.allocNew _)).mono ?_; rintro e w5 ⟨rfl, hk5⟩; have q1 := hk5.keep id (hold_al r1); have HK5 : Hid (Kept (fun _ => False) w w5) := (HK4.out.allocNew _).trans hk5 (fun _ => id) (fun _ _ => id); have s5 : w1.heap.size < w5.heap.size := World.block_lt_of_cell? w5 _ q1; clear hk5)
 obtain ⟨W, hW⟩ : ∃ W, W = w5.alloc (.cells #[.string en.q, .int .i32 en.val, .int .u64 (en.fr : Int), .int .u64 (en.till : Int), .bool en.op, .int .u64 (en.kn : Int)] 55) := ⟨_, rfl⟩
 have kW : Kept (fun _ => False) w W := by rw [hW]; exact HK5.out.allocNew _
 have bW : Blk W w5.heap.size 55 #[.string en.q, .int .i32 en.val, .int .u64 (en.fr : Int), .int .u64 (en.till : Int), .bool en.op, .int .u64 (en.kn : Int)] := by rw [hW]; exact Blk.new _ _ _
 have r2 : W.cell? ⟨w1.heap.size, 1, none⟩ = some (.int .u64 (hi : Int)) := by rw [hW]; exact hold_al q1
 have p2 : W.cell? ⟨w5.heap.size, 2, none⟩ = some (.int .u64 (en.fr : Int)) := bW.cell 2
 have hP : w.heap.size ≤ w5.heap.size := HK5.out.size
 rw [← hW]
 have HKW : Hid (Kept (fun _ => False) w W) := kW
 have HBW : Hid (Blk W w5.heap.size 55 #[.string en.q, .int .i32 en.val, .int .u64 (en.fr : Int), .int .u64 (en.till : Int), .bool en.op, .int .u64 (en.kn : Int)]) := bW
 clear hW kW bW q1 r0 r1 s0 s1 s2 s4 s5 t0 t1 t2
 generalize w5.heap.size = P at *
 generalize w1.heap.size = S at *
 go_cut [71] (fun _ wx => Hid (DBecame w b D wx (D.seatP j ((D.seats j).cut en.fr hi) D.begun) ∧ Blk wx P 55 #[.string en.q, .int .i32 en.val, .int .u64 (en.fr : Int), .int .u64 (en.till : Int), .bool en.op, .int .u64 (en.kn : Int)]))
 case first =>
  have H3W : Hid (∀ n, Calls Tryz.prog 90 #[.pointer (some ⟨b, 2, none⟩), .int .i64 m, .agg #[.int .u64 (en.fr : Int), .int .u64 (hi : Int)]] (W.drewN n) fun e w' => e = .returned (.tuple #[]) ∧ Hid (DBecame w b D w' (D.seatP j ((D.seats j).cut en.fr hi) D.begun) ∧ Blk w' P 55 #[.string en.q, .int .i32 en.val, .int .u64 (en.fr : Int), .int .u64 (en.till : Int), .bool en.op, .int .u64 (en.kn : Int)])) := fun n => (H3.out _ (HKW.out.drewN n)).mono fun e w' hp => ⟨hp.1, hp.2.out.1, (HBW.out.same (w' := W.drewN n) rfl).kept hp.2.out.2 (fun hh => by have := HLT.out P hh; omega)⟩
  go_region_with ((go_at_call 90; refine (H3W.out _).mono ?_; rintro e w6 ⟨rfl, hn6⟩))
  all_goals
   go_wp2
   go_meet
   case rel => exact hn6.out
 case rest =>
  have HC := hcut
  clear hcut p2 r2
  have hbw := HC.out.2
  have z0 : wc.cell? ⟨P, 0, none⟩ = some (.string en.q) := hbw.cell 0
  have z1 : wc.cell? ⟨P, 1, none⟩ = some (.int .i32 en.val) := hbw.cell 1
  have z2 : wc.cell? ⟨P, 2, none⟩ = some (.int .u64 (en.fr : Int)) := hbw.cell 2
  have z3 : wc.cell? ⟨P, 3, none⟩ = some (.int .u64 (en.till : Int)) := hbw.cell 3
  have z4 : wc.cell? ⟨P, 4, none⟩ = some (.bool en.op) := hbw.cell 4
  have z5 : wc.cell? ⟨P, 5, none⟩ = some (.int .u64 (en.kn : Int)) := hbw.cell 5
  clear hbw
  have H4W : Hid (∀ n, Calls Tryz.prog 92 #[.pointer (some ⟨b, 27, none⟩), .agg #[.string en.q, .int .i32 en.val, .int .u64 (en.fr : Int), .int .u64 (en.till : Int), .bool en.op, .int .u64 (en.kn : Int)]] (wc.drewN n) fun e w' => e = .returned (.tuple #[]) ∧ Hid (Goes w b D (D.pu.miss j en) w' ∧ w'.cell? ⟨P, 1, none⟩ = some (.int .i32 en.val))) := fun n => (H4.out _ (HC.out.1.more ((Kept.refl _ _).drewN n))).mono fun e w' hp => ⟨hp.1, hp.2.out.1, hp.2.out.2.keep (fun hh => by have := HLT.out P hh; omega) (HC.out.2.cell 1)⟩
  go_wp2_with fail
  go_cut [76] (fun _ wx => Hid (Goes w b D (D.pu.miss j en) wx ∧ wx.cell? ⟨P, 1, none⟩ = some (.int .i32 en.val)))
  case first =>
   go_region_with ((go_at_call 92; refine (H4W.out _).mono ?_; rintro e w7 ⟨rfl, hn7⟩))
   all_goals
    go_wp2
    go_meet
    case rel => exact hn7.out
  case rest =>
   have HC7 := hcut
   have y1 := HC7.out.2
   clear hcut z0 z1 z2 z3 z4 z5
   go_wp2
   refine bodyPost_ret (v := .tuple #[.int .i32 en.val, .bool false, .int .i64 0]) (by simp [results, Tryz.results38, go_sem]) rfl ⟨rfl, HC7.out.1⟩
end Go.Proofs.YtpfcacedpkaihaaGreat
