import Derived.Test.YtpfcacedpkaihaaGreatEa
import Derived.Test.YtpfcacedpkaihaaGreatEfEg
import Derived.Test.YtpfcacedpkaihaaGreatNpWpIv
/- The program's sites (package almanac): fall, tell, siteAt, nodeOf; the store's Wrote; the node of a query, walked. -/
namespace Go.Proofs.YtpfcacedpkaihaaGreat
open Go.RowKit

set_option maxHeartbeats 1000000 in
theorem dsfall (w : World) (b k g : Nat) (D : DevS) (nd : DNodeE) (h : Dev w b D) (hnd : D.nodes[k]? = some nd) (ho : D.vn.ownBlock = some g) :
    Calls Tryz.prog 122 #[.pointer (some ⟨g, k * 8, none⟩)] w fun e w' => e = .returned (.tuple #[]) ∧ Hid (Turns w b D k nd.p.fall.clear w') := by
  have HF : Hid (Calls Tryz.prog 155 #[.pointer (some ⟨g, k * 8, none⟩)] w fun e w' => e = .returned (.tuple #[]) ∧ Hid (Calls Tryz.prog 156 #[.pointer (some ⟨g, k * 8 + 7, none⟩)] w' fun e w'' => e = .returned (.tuple #[]) ∧ Hid (Turns w b D k nd.p.fall.clear w''))) :=
    (dfall w b k g D nd h hnd ho).mono fun e w' hp => by
      obtain ⟨n1, e1, hb1⟩ := hp.2.out
      refine ⟨hp.1, (dclear w' b k g _ n1 hb1.1 (putN_at n1 hnd) ho).mono fun e w'' hp2 => ⟨hp2.1, ?_⟩⟩
      obtain ⟨n2, e2, hb2⟩ := hp2.2.out
      exact ⟨n2, by rw [e2, e1], by have := hb1.trans hb2; rwa [putN_putN] at this⟩
  clear h hnd ho
  go_enter Tryz.func122, Tryz.ntmps122
  go_wp2_with first
    | (go_at_call 155; refine HF.out.mono ?_; rintro e w1 ⟨rfl, HC⟩)
    | (go_at_call 156; refine HC.out.mono ?_; rintro e w2 ⟨rfl, HT⟩)
  go_end0
  exact ⟨rfl, HT⟩

theorem age_len (p : NodeP) (t : Nat) : (p.age t).flight.length ≤ p.flight.length := List.length_filter_le _ _

set_option maxHeartbeats 1000000 in
theorem dtell (w : World) (b k g : Nat) (D : DevS) (nd : DNodeE) (t : Nat) (K : Int) (h : Dev w b D) (hnd : D.nodes[k]? = some nd) (ho : D.vn.ownBlock = some g) (hl : nd.p.flight.length ≤ 1000) (hs : ∀ c ∈ nd.p.flight, c.1 ≤ 1000000) (hz : nd.p.horizon ≤ 1000000) :
    Calls Tryz.prog 76 #[.pointer (some ⟨g, k * 8, none⟩), .int .u64 t, .int .u8 K] w fun e w' => e = .returned (.tuple #[]) ∧ Hid (Turns w b D k (nd.p.tell t K) w') := by
  have HA : Hid (Calls Tryz.prog 129 #[.pointer (some ⟨g, k * 8 + 7, none⟩), .int .u64 t] w fun e w' => e = .returned (.tuple #[]) ∧ Hid (Turns w b D k (nd.p.age t) w')) := dage w b k g D nd t h hnd ho hl hs
  have HLG : Hid (∀ W, Turns w b D k (nd.p.age t) W → Calls Tryz.prog 130 #[.pointer (some ⟨g, k * 8, none⟩), .int .u64 t] W fun e w' => e = .returned (.bool ((nd.p.age t).lags t)) ∧ W = w') := fun W hT => by
    obtain ⟨n1, e1, hb1⟩ := hT
    have hn1 := putN_at n1 hnd
    rw [← e1]
    exact dlags W g (k * 8) n1.p t (hb1.1.nodeC hn1 ho 0 (by omega) _ rfl) (hb1.1.nodeC hn1 ho 2 (by omega) _ rfl) (by rw [e1]; exact hz)
  have HFA : Hid (∀ W, Turns w b D k (nd.p.age t) W → Calls Tryz.prog 122 #[.pointer (some ⟨g, k * 8, none⟩)] W fun e w' => e = .returned (.tuple #[]) ∧ Hid (Turns w b D k (nd.p.age t).fall.clear w')) := fun W hT => by
    obtain ⟨n1, e1, hb1⟩ := hT
    refine (dsfall W b k g _ n1 hb1.1 (putN_at n1 hnd) ho).mono fun e w' hp => ⟨hp.1, ?_⟩
    obtain ⟨n2, e2, hb2⟩ := hp.2.out
    exact ⟨n2, by rw [e2, e1], by have := hb1.trans hb2; rwa [putN_putN] at this⟩
  have HSE : Hid (∀ W p1, p1.flight.length ≤ 1000 → Turns w b D k p1 W → Calls Tryz.prog 131 #[.pointer (some ⟨g, k * 8 + 7, none⟩), .agg #[.int .u64 (t : Int), .int .u8 K]] W fun e w' => e = .returned (.tuple #[]) ∧ Hid (Turns w b D k (p1.send (t, K)) w')) := fun W p1 hl1 hT => by
    obtain ⟨n1, e1, hb1⟩ := hT
    subst e1
    refine (dsend W b k g _ n1 (t, K) hb1.1 (putN_at n1 hnd) ho hl1).mono fun e w' hp => ⟨hp.1, ?_⟩
    obtain ⟨n2, e2, hb2⟩ := hp.2.out
    exact ⟨n2, e2, by have := hb1.trans hb2; rwa [putN_putN] at this⟩
  have HL2 : Hid ((nd.p.age t).flight.length ≤ 1000) := Nat.le_trans (age_len _ _) hl
  cases hlg : (nd.p.age t).lags t with
  | true =>
    rw [hlg] at HLG
    have HE : Hid (nd.p.tell t K = (nd.p.age t).fall.clear.send (t, K)) := by show _ = _; rw [NodeP.tell, hlg]; rfl
    clear h hnd ho hl hs hz hlg
    go_enter Tryz.func76, Tryz.ntmps76
    go_wp2_with first
      | (go_at_call 129; refine HA.out.mono ?_; rintro e w1 ⟨rfl, HT1⟩)
      | (go_at_call 130; refine (HLG.out _ HT1.out).mono ?_; rintro e w2 ⟨rfl, rfl⟩)
      | (go_at_call 122; refine (HFA.out _ HT1.out).mono ?_; rintro e w2 ⟨rfl, HT2⟩)
      | (go_at_call 131; refine (HSE.out _ _ (by show ([] : List (Nat × Int)).length ≤ 1000; simp) HT2.out).mono ?_; rintro e w3 ⟨rfl, HT3⟩)
    go_end0
    exact ⟨rfl, by rw [HE.out]; exact HT3⟩
  | false =>
    rw [hlg] at HLG
    have HE : Hid (nd.p.tell t K = (nd.p.age t).send (t, K)) := by show _ = _; rw [NodeP.tell, hlg]; rfl
    clear h hnd ho hl hs hz hlg
    go_enter Tryz.func76, Tryz.ntmps76
    go_wp2_with first
      | (go_at_call 129; refine HA.out.mono ?_; rintro e w1 ⟨rfl, HT1⟩)
      | (go_at_call 130; refine (HLG.out _ HT1.out).mono ?_; rintro e w2 ⟨rfl, rfl⟩)
      | (go_at_call 131; refine (HSE.out _ _ HL2.out HT1.out).mono ?_; rintro e w3 ⟨rfl, HT3⟩)
    go_end0
    exact ⟨rfl, by rw [HE.out]; exact HT3⟩

set_option maxHeartbeats 1000000 in
theorem dwrote0 (w : World) (b : Nat) (D : DevS) (t : Nat) (p : PastE) (h : Dev w b D) (hf : D.Fit) (hp : D.past[t]? = some p) :
    Calls Tryz.prog 75 #[.pointer (some ⟨b, 0, none⟩), .int .u64 ((t : Int) + 1)] w fun e w' => e = .returned (.int .u8 p.keys) ∧ w = w' := by
  have hm := hf.pmax
  obtain ⟨hlt, hp'⟩ := List.getElem?_eq_some_iff.mp hp
  obtain ⟨g, cap, hv, ho, _⟩ := h.past.block (by omega)
  have c1 := h.c1
  rw [hv] at c1
  have hc8 : w.cell? ⟨g, t * 10 + 8, none⟩ = some (.int .u8 p.keys) := h.past.cell ho _ _ (by rw [past_at D.past t hlt 8 (by omega), hp']; rfl)
  have HN : Hid (Calls Tryz.prog 80 #[.pointer (some ⟨b, 0, none⟩)] w fun e w' => e = .returned (.int .u64 (D.past.length : Int)) ∧ w = w') := dnewest w b D h hf
  have hb : ((t : Int) + 1 == 0) = false := beq_eq_false_iff_ne.mpr (by omega)
  have hd : ¬ (D.past.length : Int) < (t : Int) + 1 := by omega
  have ht0 : (0 : Int) ≤ (t : Int) := by omega
  have ht1 : (t : Int) < (D.past.length : Int) := by omega
  clear h hf hv ho hp hp'
  go_enter Tryz.func75, Tryz.ntmps75
  go_wp2_with (go_at_call 80; refine HN.out.mono ?_; rintro e w1 ⟨rfl, rfl⟩)
  go_ret
  exact ⟨rfl, rfl⟩

def siteV (g : Nat) (n : Nat) (i : Int) : Value := if i < 0 ∨ (n : Int) ≤ i then .tuple #[.pointer none, .int .i64 9] else .tuple #[.pointer (some ⟨g, i.toNat * 8, none⟩), .int .i64 0]
set_option maxHeartbeats 1000000 in
theorem dsite_bad (w : World) (b : Nat) (D : DevS) (i : Int) (h : Dev w b D) (hi : i < 0 ∨ (D.nodes.length : Int) ≤ i) :
    Calls Tryz.prog 106 #[.pointer (some ⟨b, 0, none⟩), .int .i64 i] w fun e w' => e = .returned (.tuple #[.pointer none, .int .i64 9]) ∧ w = w' := by
  obtain ⟨av, cv, hv, _⟩ := h.nodes.form
  have c28 := h.c28
  rw [hv] at c28
  by_cases h0 : i < 0
  · have hd : decide (i < 0) = true := by simpa using h0
    clear h hv hi
    go_enter Tryz.func106, Tryz.ntmps106
    go_wp2
    go_ret2
    exact ⟨rfl, rfl⟩
  · have hd : decide (i < 0) = false := by simpa using h0
    have h1 : (D.nodes.length : Int) ≤ i := by omega
    clear h hv hi
    go_enter Tryz.func106, Tryz.ntmps106
    go_wp2
    go_ret2
    exact ⟨rfl, rfl⟩
set_option maxHeartbeats 1000000 in
theorem dsite (w : World) (b k g : Nat) (D : DevS) (h : Dev w b D) (hk : k < D.nodes.length) (ho : D.vn.ownBlock = some g) :
    Calls Tryz.prog 106 #[.pointer (some ⟨b, 0, none⟩), .int .i64 (k : Int)] w fun e w' => e = .returned (.tuple #[.pointer (some ⟨g, k * 8, none⟩), .int .i64 0]) ∧ w = w' := by
  obtain ⟨g', cv, hv, ho', _⟩ := h.nodes.block (by omega)
  rw [ho] at ho'
  injection ho' with ho'
  subst ho'
  have c28 := h.c28
  rw [hv] at c28
  have hd : decide ((k : Int) < 0) = false := by simp
  have hd2 : ¬ D.nodes.length ≤ k := by omega
  have hk0 : (0 : Int) ≤ (k : Int) := by omega
  have hk1 : (k : Int) < (D.nodes.length : Int) := by omega
  clear h hv ho
  go_enter Tryz.func106, Tryz.ntmps106
  go_wp2
  go_ret2
  exact ⟨rfl, rfl⟩

end Go.Proofs.YtpfcacedpkaihaaGreat

/- The program's calls (package almanac): Evict, Lose, Copy, Restart, Deliver, walked. -/
namespace Go.Proofs.YtpfcacedpkaihaaGreat
open Go.RowKit

theorem Turns.goes {w w' : World} {b k : Nat} {D : DevS} {p : NodeP} (h : Turns w b D k p w') : Goes w b D (D.pu.put (k : Int) p) w' := by
  obtain ⟨nd, e, hb⟩ := h
  exact ⟨_, by rw [DevS.pu_put, e], hb⟩

set_option maxHeartbeats 2000000 in
theorem dEvict (w : World) (b : Nat) (D : DevS) (k i : Int) (h : Dev w b D) (hw : D.Walk) :
    Calls Tryz.prog 47 #[.pointer (some ⟨b, 0, none⟩), .int .i64 k, .int .i64 i] w fun e w' => e = .returned (.int .i64 (D.pu.evict k i).1) ∧ Goes w b D (D.pu.evict k i).2 w' := by
  by_cases hk : k < 0 ∨ (D.nodes.length : Int) ≤ k
  · have HS : Hid (Calls Tryz.prog 106 #[.pointer (some ⟨b, 0, none⟩), .int .i64 k] w fun e w' => e = .returned (.tuple #[.pointer none, .int .i64 9]) ∧ w = w') := dsite_bad w b D k h hk
    have HE : Hid (D.pu.evict k i = (9, D.pu)) := by show _ = _; rw [DP.evict, DevS.pu_none hk]
    have HG : Hid (Goes w b D D.pu w) := Goes.of_kept h (Kept.refl _ _)
    clear h hw hk
    go_enter Tryz.func47, Tryz.ntmps47
    go_wp2_with (go_at_call 106; refine HS.out.mono ?_; rintro e w1 ⟨rfl, rfl⟩)
    go_ret
    exact ⟨by rw [HE.out]; rfl, by rw [HE.out]; exact HG.out⟩
  · obtain ⟨k, rfl⟩ : ∃ j : Nat, k = j := ⟨k.toNat, by omega⟩
    have hkl : k < D.nodes.length := by omega
    obtain ⟨nd, hnd⟩ : ∃ nd, D.nodes[k]? = some nd := ⟨_, List.getElem?_eq_getElem hkl⟩
    have hW := hw.nodes nd (List.mem_of_getElem? hnd)
    obtain ⟨g, _, _, ho, _⟩ := h.nodes.block hw.n1
    have HS : Hid (Calls Tryz.prog 106 #[.pointer (some ⟨b, 0, none⟩), .int .i64 (k : Int)] w fun e w' => e = .returned (.tuple #[.pointer (some ⟨g, k * 8, none⟩), .int .i64 0]) ∧ w = w') := dsite w b k g D h hkl ho
    have hsite := D.pu_site hnd
    have HT : Hid (∀ p w', Turns w b D k p w' → Goes w b D (D.pu.put (k : Int) p) w') := fun p w' hT => hT.goes
    have HC : Hid (Calls Tryz.prog 107 #[.pointer (some ⟨g, k * 8, none⟩), .int .i64 i] w fun e w' => ∃ er : Int, e = .returned (.int .i64 er) ∧ Hid ((D.pu.evict k i).1 = er ∧ Goes w b D (D.pu.evict k i).2 w')) := (dNEvict w b k g D nd i h hnd ho (by have := hW.el; omega)).mono fun e w' hp => by
      rcases hp with ⟨hb, e1, rfl⟩ | ⟨j, rfl, hj, e1, hT⟩
      · refine ⟨10, e1, ?_⟩
        rw [DP.evict, hsite]
        dsimp only
        rw [if_pos hb]
        exact ⟨rfl, Goes.of_kept h (Kept.refl _ _)⟩
      · refine ⟨0, e1, ?_⟩
        rw [DP.evict, hsite]
        dsimp only
        rw [if_neg (by omega)]
        exact ⟨rfl, HT.out _ _ hT.out⟩
    clear h hw hk hnd ho hW hsite
    go_enter Tryz.func47, Tryz.ntmps47
    go_wp2_with first
      | (go_at_call 106; refine HS.out.mono ?_; rintro e w1 ⟨rfl, rfl⟩)
      | (go_at_call 107; refine HC.out.mono ?_; rintro e w2 ⟨er, rfl, hr⟩)
    go_ret
    exact ⟨by rw [hr.out.1]; rfl, hr.out.2⟩

set_option maxHeartbeats 2000000 in
theorem dLose (w : World) (b : Nat) (D : DevS) (k i : Int) (h : Dev w b D) (hw : D.Walk) :
    Calls Tryz.prog 59 #[.pointer (some ⟨b, 0, none⟩), .int .i64 k, .int .i64 i] w fun e w' => e = .returned (.int .i64 (D.pu.lose k i).1) ∧ Goes w b D (D.pu.lose k i).2 w' := by
  by_cases hk : k < 0 ∨ (D.nodes.length : Int) ≤ k
  · have HS : Hid (Calls Tryz.prog 106 #[.pointer (some ⟨b, 0, none⟩), .int .i64 k] w fun e w' => e = .returned (.tuple #[.pointer none, .int .i64 9]) ∧ w = w') := dsite_bad w b D k h hk
    have HE : Hid (D.pu.lose k i = (9, D.pu)) := by show _ = _; rw [DP.lose, DevS.pu_none hk]
    have HG : Hid (Goes w b D D.pu w) := Goes.of_kept h (Kept.refl _ _)
    clear h hw hk
    go_enter Tryz.func59, Tryz.ntmps59
    go_wp2_with (go_at_call 106; refine HS.out.mono ?_; rintro e w1 ⟨rfl, rfl⟩)
    go_ret
    exact ⟨by rw [HE.out]; rfl, by rw [HE.out]; exact HG.out⟩
  · obtain ⟨k, rfl⟩ : ∃ j : Nat, k = j := ⟨k.toNat, by omega⟩
    have hkl : k < D.nodes.length := by omega
    obtain ⟨nd, hnd⟩ : ∃ nd, D.nodes[k]? = some nd := ⟨_, List.getElem?_eq_getElem hkl⟩
    have hW := hw.nodes nd (List.mem_of_getElem? hnd)
    obtain ⟨g, _, _, ho, _⟩ := h.nodes.block hw.n1
    have HS : Hid (Calls Tryz.prog 106 #[.pointer (some ⟨b, 0, none⟩), .int .i64 (k : Int)] w fun e w' => e = .returned (.tuple #[.pointer (some ⟨g, k * 8, none⟩), .int .i64 0]) ∧ w = w') := dsite w b k g D h hkl ho
    have hsite := D.pu_site hnd
    have HT : Hid (∀ p w', Turns w b D k p w' → Goes w b D (D.pu.put (k : Int) p) w') := fun p w' hT => hT.goes
    have HC : Hid (Calls Tryz.prog 111 #[.pointer (some ⟨g, k * 8 + 7, none⟩), .int .i64 i] w fun e w' => ∃ (a c er : Int), e = .returned (.tuple #[.agg #[.int .u64 a, .int .u8 c], .int .i64 er]) ∧ Hid ((D.pu.lose k i).1 = er ∧ Goes w b D (D.pu.lose k i).2 w')) := (dtakef w b k g D nd i h hnd ho hW.fl).mono fun e w' hp => by
      rcases hp with ⟨hb, e1, hk1⟩ | ⟨j, x, rfl, hj, e1, hT⟩
      · refine ⟨0, 0, 10, e1, ?_⟩
        rw [DP.lose, hsite]
        dsimp only
        rw [if_pos hb]
        exact ⟨rfl, Goes.of_kept h hk1⟩
      · have hjl := (List.getElem?_eq_some_iff.mp hj).1
        refine ⟨_, _, 0, e1, ?_⟩
        rw [DP.lose, hsite]
        dsimp only
        rw [if_neg (by omega)]
        exact ⟨rfl, HT.out _ _ hT.out⟩
    clear h hw hk hnd ho hW hsite
    go_enter Tryz.func59, Tryz.ntmps59
    go_wp2_with first
      | (go_at_call 106; refine HS.out.mono ?_; rintro e w1 ⟨rfl, rfl⟩)
      | (go_at_call 111; refine HC.out.mono ?_; rintro e w2 ⟨a, c, er, rfl, hr⟩)
    go_ret
    exact ⟨by rw [hr.out.1]; rfl, hr.out.2⟩

set_option maxHeartbeats 2000000 in
theorem dCopy (w : World) (b : Nat) (D : DevS) (k i : Int) (h : Dev w b D) (hw : D.Walk) :
    Calls Tryz.prog 61 #[.pointer (some ⟨b, 0, none⟩), .int .i64 k, .int .i64 i] w fun e w' => e = .returned (.int .i64 (D.pu.copy k i).1) ∧ Goes w b D (D.pu.copy k i).2 w' := by
  by_cases hk : k < 0 ∨ (D.nodes.length : Int) ≤ k
  · have HS : Hid (Calls Tryz.prog 106 #[.pointer (some ⟨b, 0, none⟩), .int .i64 k] w fun e w' => e = .returned (.tuple #[.pointer none, .int .i64 9]) ∧ w = w') := dsite_bad w b D k h hk
    have HE : Hid (D.pu.copy k i = (9, D.pu)) := by show _ = _; rw [DP.copy, DevS.pu_none hk]
    have HG : Hid (Goes w b D D.pu w) := Goes.of_kept h (Kept.refl _ _)
    clear h hw hk
    go_enter Tryz.func61, Tryz.ntmps61
    go_wp2_with (go_at_call 106; refine HS.out.mono ?_; rintro e w1 ⟨rfl, rfl⟩)
    go_ret
    exact ⟨by rw [HE.out]; rfl, by rw [HE.out]; exact HG.out⟩
  · obtain ⟨k, rfl⟩ : ∃ j : Nat, k = j := ⟨k.toNat, by omega⟩
    have hkl : k < D.nodes.length := by omega
    obtain ⟨nd, hnd⟩ : ∃ nd, D.nodes[k]? = some nd := ⟨_, List.getElem?_eq_getElem hkl⟩
    have hW := hw.nodes nd (List.mem_of_getElem? hnd)
    obtain ⟨g, _, _, ho, _⟩ := h.nodes.block hw.n1
    have HS : Hid (Calls Tryz.prog 106 #[.pointer (some ⟨b, 0, none⟩), .int .i64 (k : Int)] w fun e w' => e = .returned (.tuple #[.pointer (some ⟨g, k * 8, none⟩), .int .i64 0]) ∧ w = w') := dsite w b k g D h hkl ho
    have hsite := D.pu_site hnd
    have HT : Hid (∀ p w', Turns w b D k p w' → Goes w b D (D.pu.put (k : Int) p) w') := fun p w' hT => hT.goes
    have HC : Hid (Calls Tryz.prog 117 #[.pointer (some ⟨g, k * 8 + 7, none⟩), .int .i64 i] w fun e w' => ∃ er : Int, e = .returned (.int .i64 er) ∧ Hid ((D.pu.copy k i).1 = er ∧ Goes w b D (D.pu.copy k i).2 w')) := (dcopyf w b k g D nd i h hnd ho hW.fl).mono fun e w' hp => by
      rcases hp with ⟨hb, e1, rfl⟩ | ⟨j, x, rfl, hj, hp⟩
      · refine ⟨10, e1, ?_⟩
        have e2 : D.pu.copy k i = (10, D.pu) := by
          rw [DP.copy, hsite]
          dsimp only
          by_cases h0 : i < 0
          · rw [if_pos h0]
          · rw [if_neg h0, List.getElem?_eq_none_iff.mpr (by omega)]
        rw [e2]
        exact ⟨rfl, Goes.of_kept h (Kept.refl _ _)⟩
      · have e2 : D.pu.copy k (j : Int) = if 12 ≤ nd.p.flight.length then (6, D.pu) else (0, D.pu.put k (nd.p.copy x)) := by
          rw [DP.copy, hsite]
          dsimp only
          rw [if_neg (by omega), Int.toNat_natCast, hj]
        rw [e2]
        rcases hp with ⟨h12, e1, rfl⟩ | ⟨h12, e1, hT⟩
        · refine ⟨6, e1, ?_⟩
          rw [if_pos h12]
          exact ⟨rfl, Goes.of_kept h (Kept.refl _ _)⟩
        · refine ⟨0, e1, ?_⟩
          rw [if_neg (by omega)]
          exact ⟨rfl, HT.out _ _ hT.out⟩
    clear h hw hk hnd ho hW hsite
    go_enter Tryz.func61, Tryz.ntmps61
    go_wp2_with first
      | (go_at_call 106; refine HS.out.mono ?_; rintro e w1 ⟨rfl, rfl⟩)
      | (go_at_call 117; refine HC.out.mono ?_; rintro e w2 ⟨er, rfl, hr⟩)
    go_ret
    exact ⟨by rw [hr.out.1]; rfl, hr.out.2⟩

set_option maxHeartbeats 2000000 in
theorem dRestart (w : World) (b : Nat) (D : DevS) (k : Int) (h : Dev w b D) (hw : D.Walk) :
    Calls Tryz.prog 65 #[.pointer (some ⟨b, 0, none⟩), .int .i64 k] w fun e w' => e = .returned (.int .i64 (D.pu.restart k).1) ∧ Goes w b D (D.pu.restart k).2 w' := by
  by_cases hk : k < 0 ∨ (D.nodes.length : Int) ≤ k
  · have HS : Hid (Calls Tryz.prog 106 #[.pointer (some ⟨b, 0, none⟩), .int .i64 k] w fun e w' => e = .returned (.tuple #[.pointer none, .int .i64 9]) ∧ w = w') := dsite_bad w b D k h hk
    have HE : Hid (D.pu.restart k = (9, D.pu)) := by show _ = _; rw [DP.restart, DevS.pu_none hk]
    have HG : Hid (Goes w b D D.pu w) := Goes.of_kept h (Kept.refl _ _)
    clear h hw hk
    go_enter Tryz.func65, Tryz.ntmps65
    go_wp2_with (go_at_call 106; refine HS.out.mono ?_; rintro e w1 ⟨rfl, rfl⟩)
    go_ret
    exact ⟨by rw [HE.out]; rfl, by rw [HE.out]; exact HG.out⟩
  · obtain ⟨k, rfl⟩ : ∃ j : Nat, k = j := ⟨k.toNat, by omega⟩
    have hkl : k < D.nodes.length := by omega
    obtain ⟨nd, hnd⟩ : ∃ nd, D.nodes[k]? = some nd := ⟨_, List.getElem?_eq_getElem hkl⟩
    have hW := hw.nodes nd (List.mem_of_getElem? hnd)
    obtain ⟨g, _, _, ho, _⟩ := h.nodes.block hw.n1
    have HS : Hid (Calls Tryz.prog 106 #[.pointer (some ⟨b, 0, none⟩), .int .i64 (k : Int)] w fun e w' => e = .returned (.tuple #[.pointer (some ⟨g, k * 8, none⟩), .int .i64 0]) ∧ w = w') := dsite w b k g D h hkl ho
    have hsite := D.pu_site hnd
    have HT : Hid (∀ p w', Turns w b D k p w' → Goes w b D (D.pu.put (k : Int) p) w') := fun p w' hT => hT.goes
    have HC : Hid (Calls Tryz.prog 122 #[.pointer (some ⟨g, k * 8, none⟩)] w fun e w' => e = .returned (.tuple #[]) ∧ Hid ((D.pu.restart k).1 = 0 ∧ Goes w b D (D.pu.restart k).2 w')) := (dsfall w b k g D nd h hnd ho).mono fun e w' hp => by
      refine ⟨hp.1, ?_⟩
      rw [DP.restart, hsite]
      exact ⟨rfl, HT.out _ _ hp.2.out⟩
    clear h hw hk hnd ho hW hsite
    go_enter Tryz.func65, Tryz.ntmps65
    go_wp2_with first
      | (go_at_call 106; refine HS.out.mono ?_; rintro e w1 ⟨rfl, rfl⟩)
      | (go_at_call 122; refine HC.out.mono ?_; rintro e w2 ⟨rfl, hr⟩)
    go_ret
    exact ⟨by rw [hr.out.1]; rfl, hr.out.2⟩

set_option maxHeartbeats 4000000 in
theorem dDeliver (w : World) (b : Nat) (D : DevS) (k i : Int) (h : Dev w b D) (hw : D.Walk) :
    Calls Tryz.prog 57 #[.pointer (some ⟨b, 0, none⟩), .int .i64 k, .int .i64 i] w fun e w' => e = .returned (.int .i64 (D.pu.deliver k i).1) ∧ Goes w b D (D.pu.deliver k i).2 w' := by
  by_cases hk : k < 0 ∨ (D.nodes.length : Int) ≤ k
  · have HS : Hid (Calls Tryz.prog 106 #[.pointer (some ⟨b, 0, none⟩), .int .i64 k] w fun e w' => e = .returned (.tuple #[.pointer none, .int .i64 9]) ∧ w = w') := dsite_bad w b D k h hk
    have HE : Hid (D.pu.deliver k i = (9, D.pu)) := by show _ = _; rw [DP.deliver, DevS.pu_none hk]
    have HG : Hid (Goes w b D D.pu w) := Goes.of_kept h (Kept.refl _ _)
    clear h hw hk
    go_enter Tryz.func57, Tryz.ntmps57
    go_wp2_with (go_at_call 106; refine HS.out.mono ?_; rintro e w1 ⟨rfl, rfl⟩)
    go_ret
    exact ⟨by rw [HE.out]; rfl, by rw [HE.out]; exact HG.out⟩
  · obtain ⟨k, rfl⟩ : ∃ j : Nat, k = j := ⟨k.toNat, by omega⟩
    have hkl : k < D.nodes.length := by omega
    obtain ⟨nd, hnd⟩ : ∃ nd, D.nodes[k]? = some nd := ⟨_, List.getElem?_eq_getElem hkl⟩
    have hW := hw.nodes nd (List.mem_of_getElem? hnd)
    obtain ⟨g, _, _, ho, _⟩ := h.nodes.block hw.n1
    have HS : Hid (Calls Tryz.prog 106 #[.pointer (some ⟨b, 0, none⟩), .int .i64 (k : Int)] w fun e w' => e = .returned (.tuple #[.pointer (some ⟨g, k * 8, none⟩), .int .i64 0]) ∧ w = w') := dsite w b k g D h hkl ho
    have hsite := D.pu_site hnd
    have HT : Hid (∀ p w', Turns w b D k p w' → Goes w b D (D.pu.put (k : Int) p) w') := fun p w' hT => hT.goes
    by_cases hi : i < 0 ∨ (nd.p.flight.length : Int) ≤ i
    · have HC : Hid (Calls Tryz.prog 111 #[.pointer (some ⟨g, k * 8 + 7, none⟩), .int .i64 i] w fun e w' => e = .returned (.tuple #[.agg #[.int .u64 0, .int .u8 0], .int .i64 10]) ∧ Kept (fun _ => False) w w') := (dtakef w b k g D nd i h hnd ho hW.fl).mono fun e w' hp => by
        rcases hp with ⟨hb, e1, hk1⟩ | ⟨j, x, rfl, hj, _⟩
        · exact ⟨e1, hk1⟩
        · have := (List.getElem?_eq_some_iff.mp hj).1
          omega
      have HE : Hid (D.pu.deliver k i = (10, D.pu)) := by
        show _ = _
        rw [DP.deliver, hsite]
        dsimp only
        by_cases h0 : i < 0
        · rw [if_pos h0]
        · rw [if_neg h0, List.getElem?_eq_none_iff.mpr (by omega)]
      have HG : Hid (∀ W, Kept (fun _ => False) w W → Goes w b D D.pu W) := fun W hW => Goes.of_kept h hW
      clear h hw hk hnd ho hW hsite hi
      go_enter Tryz.func57, Tryz.ntmps57
      go_wp2_with first
        | (go_at_call 106; refine HS.out.mono ?_; rintro e w1 ⟨rfl, rfl⟩)
        | (go_at_call 111; refine HC.out.mono ?_; rintro e w2 ⟨rfl, hk2⟩)
      go_ret
      exact ⟨by rw [HE.out]; rfl, by rw [HE.out]; exact HG.out _ (hk2.allocNew _)⟩
    · obtain ⟨j, rfl⟩ : ∃ j : Nat, i = j := ⟨i.toNat, by omega⟩
      obtain ⟨x, hx⟩ : ∃ x, nd.p.flight[j]? = some x := ⟨_, List.getElem?_eq_getElem (by omega)⟩
      have HE : Hid (D.pu.deliver k (j : Int) = (0, D.pu.put k ((nd.p.take j).arrive x.1 x.2))) := by
        show _ = _
        rw [DP.deliver, hsite]
        dsimp only
        rw [if_neg (by omega), Int.toNat_natCast, hx]
      have hxs : x.1 ≤ 1000000 := hW.fs x (List.mem_of_getElem? hx)
      have HC : Hid (Calls Tryz.prog 111 #[.pointer (some ⟨g, k * 8 + 7, none⟩), .int .i64 (j : Int)] w fun e w' => e = .returned (.tuple #[.agg #[.int .u64 (x.1 : Int), .int .u8 x.2], .int .i64 0]) ∧ Hid (Turns w b D k (nd.p.take j) w')) := (dtakef w b k g D nd j h hnd ho hW.fl).mono fun e w' hp => by
        rcases hp with ⟨hb, _⟩ | ⟨j', x', e0, hj, e1, hT⟩
        · omega
        · obtain rfl : j = j' := by omega
          rw [hx] at hj
          injection hj with hj
          subst hj
          exact ⟨e1, hT⟩
      have HA : Hid (∀ W W', Turns w b D k (nd.p.take j) W → Kept (fun _ => False) W W' → Calls Tryz.prog 112 #[.pointer (some ⟨g, k * 8, none⟩), .int .u64 (x.1 : Int), .int .u8 x.2] W' fun e w' => e = .returned (.tuple #[]) ∧ Hid (Goes w b D (D.pu.put k ((nd.p.take j).arrive x.1 x.2)) w')) := fun W W' hT0 hk0 => by
        obtain ⟨n1, e1, hb1⟩ := hT0.then hk0
        have hok : n1.p.Ok 900000 := by rw [e1]; exact ⟨hW.ok.hz, hW.ok.hl, hW.ok.wl, hW.ok.el, hW.ok.eq⟩
        refine (darrive W' b k g _ n1 x.1 x.2 hb1.1 (putN_at n1 hnd) ho hok hxs).mono fun e w' hp => ⟨hp.1, HT.out _ _ ?_⟩
        obtain ⟨n2, e2, hb2⟩ := hp.2.out
        exact ⟨n2, by rw [e2, e1], by have := hb1.trans hb2; rwa [putN_putN] at this⟩
      clear h hw hk hnd ho hW hsite hi hx
      go_enter Tryz.func57, Tryz.ntmps57
      go_wp2_with first
        | (go_at_call 106; refine HS.out.mono ?_; rintro e w1 ⟨rfl, rfl⟩)
        | (go_at_call 111; refine HC.out.mono ?_; rintro e w2 ⟨rfl, HT2⟩)
      have HA2 : Hid (∀ n, Calls Tryz.prog 112 #[.pointer (some ⟨g, k * 8, none⟩), .int .u64 (x.1 : Int), .int .u8 x.2] ((w2.alloc (.cells #[.int .u64 (x.1 : Int), .int .u8 x.2] 192)).drewN n) fun e w' => e = .returned (.tuple #[]) ∧ Hid (Goes w b D (D.pu.put k ((nd.p.take j).arrive x.1 x.2)) w')) := fun n => HA.out _ _ HT2.out ((Kept.alloc _ _ _).drewN n)
      go_region_with ((go_at_call 112; refine (HA2.out _).mono ?_; rintro e w3 ⟨rfl, hG⟩))
      all_goals
        go_wp2
        go_ret
        exact ⟨by rw [HE.out]; rfl, by rw [HE.out]; exact hG.out⟩

end Go.Proofs.YtpfcacedpkaihaaGreat
