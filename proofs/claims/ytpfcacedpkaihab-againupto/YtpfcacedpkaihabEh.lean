/- The program's sites (package almanac): fall, tell, siteAt, nodeOf; the store's Wrote; the node of a query, walked. -/
import Derived.Test.YtpfcacedpkaihabEa
import Derived.Test.YtpfcacedpkaihabEg
namespace Go.Proofs.Ytpfcacedpkaihab
open Go.RowKit

set_option maxHeartbeats 1000000 in
theorem dsfall (w : World) (b k g : Nat) (D : DevS) (nd : DNodeE) (h : Dev w b D) (hnd : D.nodes[k]? = some nd) (ho : D.vn.ownBlock = some g) :
    Calls Try.prog 80 #[.pointer (some ⟨g, k * 8, none⟩)] w fun e w' => e = .returned (.tuple #[]) ∧ Hid (Turns w b D k nd.p.fall.clear w') := by
  have HF : Hid (Calls Try.prog 93 #[.pointer (some ⟨g, k * 8, none⟩)] w fun e w' => e = .returned (.tuple #[]) ∧ Hid (Calls Try.prog 94 #[.pointer (some ⟨g, k * 8 + 7, none⟩)] w' fun e w'' => e = .returned (.tuple #[]) ∧ Hid (Turns w b D k nd.p.fall.clear w''))) :=
    (dfall w b k g D nd h hnd ho).mono fun e w' hp => by
      obtain ⟨n1, e1, hb1⟩ := hp.2.out
      refine ⟨hp.1, (dclear w' b k g _ n1 hb1.1 (putN_at n1 hnd) ho).mono fun e w'' hp2 => ⟨hp2.1, ?_⟩⟩
      obtain ⟨n2, e2, hb2⟩ := hp2.2.out
      exact ⟨n2, by rw [e2, e1], by have := hb1.trans hb2; rwa [putN_putN] at this⟩
  clear h hnd ho
  go_enter Try.func80, Try.ntmps80
  go_wp2_with first
    | (go_at_call 93; refine HF.out.mono ?_; rintro e w1 ⟨rfl, HC⟩)
    | (go_at_call 94; refine HC.out.mono ?_; rintro e w2 ⟨rfl, HT⟩)
  go_end0
  exact ⟨rfl, HT⟩

theorem age_len (p : NodeP) (t : Nat) : (p.age t).flight.length ≤ p.flight.length := List.length_filter_le _ _

set_option maxHeartbeats 1000000 in
theorem dtell (w : World) (b k g : Nat) (D : DevS) (nd : DNodeE) (t : Nat) (K : Int) (h : Dev w b D) (hnd : D.nodes[k]? = some nd) (ho : D.vn.ownBlock = some g) (hl : nd.p.flight.length ≤ 1000) (hs : ∀ c ∈ nd.p.flight, c.1 ≤ 1000000) (hz : nd.p.horizon ≤ 1000000) :
    Calls Try.prog 75 #[.pointer (some ⟨g, k * 8, none⟩), .int .u64 t, .int .u8 K] w fun e w' => e = .returned (.tuple #[]) ∧ Hid (Turns w b D k (nd.p.tell t K) w') := by
  have HA : Hid (Calls Try.prog 88 #[.pointer (some ⟨g, k * 8 + 7, none⟩), .int .u64 t] w fun e w' => e = .returned (.tuple #[]) ∧ Hid (Turns w b D k (nd.p.age t) w')) := dage w b k g D nd t h hnd ho hl hs
  have HLG : Hid (∀ W, Turns w b D k (nd.p.age t) W → Calls Try.prog 89 #[.pointer (some ⟨g, k * 8, none⟩), .int .u64 t] W fun e w' => e = .returned (.bool ((nd.p.age t).lags t)) ∧ W = w') := fun W hT => by
    obtain ⟨n1, e1, hb1⟩ := hT
    have hn1 := putN_at n1 hnd
    rw [← e1]
    exact dlags W g (k * 8) n1.p t (hb1.1.nodeC hn1 ho 0 (by omega) _ rfl) (hb1.1.nodeC hn1 ho 2 (by omega) _ rfl) (by rw [e1]; exact hz)
  have HFA : Hid (∀ W, Turns w b D k (nd.p.age t) W → Calls Try.prog 80 #[.pointer (some ⟨g, k * 8, none⟩)] W fun e w' => e = .returned (.tuple #[]) ∧ Hid (Turns w b D k (nd.p.age t).fall.clear w')) := fun W hT => by
    obtain ⟨n1, e1, hb1⟩ := hT
    refine (dsfall W b k g _ n1 hb1.1 (putN_at n1 hnd) ho).mono fun e w' hp => ⟨hp.1, ?_⟩
    obtain ⟨n2, e2, hb2⟩ := hp.2.out
    exact ⟨n2, by rw [e2, e1], by have := hb1.trans hb2; rwa [putN_putN] at this⟩
  have HSE : Hid (∀ W p1, p1.flight.length ≤ 1000 → Turns w b D k p1 W → Calls Try.prog 90 #[.pointer (some ⟨g, k * 8 + 7, none⟩), .agg #[.int .u64 (t : Int), .int .u8 K]] W fun e w' => e = .returned (.tuple #[]) ∧ Hid (Turns w b D k (p1.send (t, K)) w')) := fun W p1 hl1 hT => by
    obtain ⟨n1, e1, hb1⟩ := hT
    subst e1
    refine (dsend W b k g _ n1 (t, K) hb1.1 (putN_at n1 hnd) ho hl1).mono fun e w' hp => ⟨hp.1, ?_⟩
    obtain ⟨n2, e2, hb2⟩ := hp.2.out
    exact ⟨n2, e2, by have := hb1.trans hb2; rwa [putN_putN] at this⟩
  have HL2 : Hid ((nd.p.age t).flight.length ≤ 1000) := Nat.le_trans (age_len _ _) hl
  cases hlg : (nd.p.age t).lags t with
  | true =>
    rw [hlg] at HLG
    have HE : Hid (nd.p.tell t K = (nd.p.age t).fall.clear.send (t, K)) := by show _ = _; rw [NodeP.tell, hlg]; rfl
    clear h hnd ho hl hs hz hlg
    go_enter Try.func75, Try.ntmps75
    go_wp2_with first
      | (go_at_call 88; refine HA.out.mono ?_; rintro e w1 ⟨rfl, HT1⟩)
      | (go_at_call 89; refine (HLG.out _ HT1.out).mono ?_; rintro e w2 ⟨rfl, rfl⟩)
      | (go_at_call 80; refine (HFA.out _ HT1.out).mono ?_; rintro e w2 ⟨rfl, HT2⟩)
      | (go_at_call 90; refine (HSE.out _ _ (by show ([] : List (Nat × Int)).length ≤ 1000; simp) HT2.out).mono ?_; rintro e w3 ⟨rfl, HT3⟩)
    go_end0
    exact ⟨rfl, by rw [HE.out]; exact HT3⟩
  | false =>
    rw [hlg] at HLG
    have HE : Hid (nd.p.tell t K = (nd.p.age t).send (t, K)) := by show _ = _; rw [NodeP.tell, hlg]; rfl
    clear h hnd ho hl hs hz hlg
    go_enter Try.func75, Try.ntmps75
    go_wp2_with first
      | (go_at_call 88; refine HA.out.mono ?_; rintro e w1 ⟨rfl, HT1⟩)
      | (go_at_call 89; refine (HLG.out _ HT1.out).mono ?_; rintro e w2 ⟨rfl, rfl⟩)
      | (go_at_call 90; refine (HSE.out _ _ HL2.out HT1.out).mono ?_; rintro e w3 ⟨rfl, HT3⟩)
    go_end0
    exact ⟨rfl, by rw [HE.out]; exact HT3⟩

set_option maxHeartbeats 1000000 in
theorem dwrote0 (w : World) (b : Nat) (D : DevS) (t : Nat) (p : PastE) (h : Dev w b D) (hf : D.Fit) (hp : D.past[t]? = some p) :
    Calls Try.prog 56 #[.pointer (some ⟨b, 0, none⟩), .int .u64 ((t : Int) + 1)] w fun e w' => e = .returned (.int .u8 p.keys) ∧ w = w' := by
  have hm := hf.pmax
  obtain ⟨hlt, hp'⟩ := List.getElem?_eq_some_iff.mp hp
  obtain ⟨g, cap, hv, ho, _⟩ := h.past.block (by omega)
  have c1 := h.c1
  rw [hv] at c1
  have hc8 : w.cell? ⟨g, t * 10 + 8, none⟩ = some (.int .u8 p.keys) := h.past.cell ho _ _ (by rw [past_at D.past t hlt 8 (by omega), hp']; rfl)
  have HN : Hid (Calls Try.prog 32 #[.pointer (some ⟨b, 0, none⟩)] w fun e w' => e = .returned (.int .u64 (D.past.length : Int)) ∧ w = w') := dnewest w b D h hf
  have hb : ((t : Int) + 1 == 0) = false := beq_eq_false_iff_ne.mpr (by omega)
  have hd : ¬ (D.past.length : Int) < (t : Int) + 1 := by omega
  have ht0 : (0 : Int) ≤ (t : Int) := by omega
  have ht1 : (t : Int) < (D.past.length : Int) := by omega
  clear h hf hv ho hp hp'
  go_enter Try.func56, Try.ntmps56
  go_wp2_with (go_at_call 32; refine HN.out.mono ?_; rintro e w1 ⟨rfl, rfl⟩)
  go_ret
  exact ⟨rfl, rfl⟩

def siteV (g : Nat) (n : Nat) (i : Int) : Value := if i < 0 ∨ (n : Int) ≤ i then .tuple #[.pointer none, .int .i64 9] else .tuple #[.pointer (some ⟨g, i.toNat * 8, none⟩), .int .i64 0]
set_option maxHeartbeats 1000000 in
theorem dsite_bad (w : World) (b : Nat) (D : DevS) (i : Int) (h : Dev w b D) (hi : i < 0 ∨ (D.nodes.length : Int) ≤ i) :
    Calls Try.prog 52 #[.pointer (some ⟨b, 0, none⟩), .int .i64 i] w fun e w' => e = .returned (.tuple #[.pointer none, .int .i64 9]) ∧ w = w' := by
  obtain ⟨av, cv, hv, _⟩ := h.nodes.form
  have c28 := h.c28
  rw [hv] at c28
  by_cases h0 : i < 0
  · have hd : decide (i < 0) = true := by simpa using h0
    clear h hv hi
    go_enter Try.func52, Try.ntmps52
    go_wp2
    go_ret2
    exact ⟨rfl, rfl⟩
  · have hd : decide (i < 0) = false := by simpa using h0
    have h1 : (D.nodes.length : Int) ≤ i := by omega
    clear h hv hi
    go_enter Try.func52, Try.ntmps52
    go_wp2
    go_ret2
    exact ⟨rfl, rfl⟩
set_option maxHeartbeats 1000000 in
theorem dsite (w : World) (b k g : Nat) (D : DevS) (h : Dev w b D) (hk : k < D.nodes.length) (ho : D.vn.ownBlock = some g) :
    Calls Try.prog 52 #[.pointer (some ⟨b, 0, none⟩), .int .i64 (k : Int)] w fun e w' => e = .returned (.tuple #[.pointer (some ⟨g, k * 8, none⟩), .int .i64 0]) ∧ w = w' := by
  obtain ⟨g', cv, hv, ho', _⟩ := h.nodes.block (by omega)
  rw [ho] at ho'
  injection ho' with ho'
  subst ho'
  have c28 := h.c28
  rw [hv] at c28
  have hd : decide ((k : Int) < 0) = false := by simp
  have hd2 : ¬ D.nodes.length ≤ k := by omega
  have hk0 : (0 : Int) ≤ (k : Int) := by omega
  have hk1 : (k : Int) < (D.nodes.length : Int) := by omega
  clear h hv ho
  go_enter Try.func52, Try.ntmps52
  go_wp2
  go_ret2
  exact ⟨rfl, rfl⟩

end Go.Proofs.Ytpfcacedpkaihab
