/- The program's calls (package almanac): Evict, Lose, Copy, Restart, Deliver, walked. -/
import Derived.Test.YtpfcacedpkaihabEh
import Derived.Test.YtpfcacedpkaihabNpWpIv
namespace Go.Proofs.Ytpfcacedpkaihab
open Go.RowKit

theorem Turns.goes {w w' : World} {b k : Nat} {D : DevS} {p : NodeP} (h : Turns w b D k p w') : Goes w b D (D.pu.put (k : Int) p) w' := by
  obtain ⟨nd, e, hb⟩ := h
  exact ⟨_, by rw [DevS.pu_put, e], hb⟩

set_option maxHeartbeats 2000000 in
theorem dEvict (w : World) (b : Nat) (D : DevS) (k i : Int) (h : Dev w b D) (hw : D.Walk) :
    Calls Try.prog 47 #[.pointer (some ⟨b, 0, none⟩), .int .i64 k, .int .i64 i] w fun e w' => e = .returned (.int .i64 (D.pu.evict k i).1) ∧ Goes w b D (D.pu.evict k i).2 w' := by
  by_cases hk : k < 0 ∨ (D.nodes.length : Int) ≤ k
  · have HS : Hid (Calls Try.prog 52 #[.pointer (some ⟨b, 0, none⟩), .int .i64 k] w fun e w' => e = .returned (.tuple #[.pointer none, .int .i64 9]) ∧ w = w') := dsite_bad w b D k h hk
    have HE : Hid (D.pu.evict k i = (9, D.pu)) := by show _ = _; rw [DP.evict, DevS.pu_none hk]
    have HG : Hid (Goes w b D D.pu w) := Goes.of_kept h (Kept.refl _ _)
    clear h hw hk
    go_enter Try.func47, Try.ntmps47
    go_wp2_with (go_at_call 52; refine HS.out.mono ?_; rintro e w1 ⟨rfl, rfl⟩)
    go_ret
    exact ⟨by rw [HE.out]; rfl, by rw [HE.out]; exact HG.out⟩
  · obtain ⟨k, rfl⟩ : ∃ j : Nat, k = j := ⟨k.toNat, by omega⟩
    have hkl : k < D.nodes.length := by omega
    obtain ⟨nd, hnd⟩ : ∃ nd, D.nodes[k]? = some nd := ⟨_, List.getElem?_eq_getElem hkl⟩
    have hW := hw.nodes nd (List.mem_of_getElem? hnd)
    obtain ⟨g, _, _, ho, _⟩ := h.nodes.block hw.n1
    have HS : Hid (Calls Try.prog 52 #[.pointer (some ⟨b, 0, none⟩), .int .i64 (k : Int)] w fun e w' => e = .returned (.tuple #[.pointer (some ⟨g, k * 8, none⟩), .int .i64 0]) ∧ w = w') := dsite w b k g D h hkl ho
    have hsite := D.pu_site hnd
    have HT : Hid (∀ p w', Turns w b D k p w' → Goes w b D (D.pu.put (k : Int) p) w') := fun p w' hT => hT.goes
    have HC : Hid (Calls Try.prog 76 #[.pointer (some ⟨g, k * 8, none⟩), .int .i64 i] w fun e w' => ∃ er : Int, e = .returned (.int .i64 er) ∧ Hid ((D.pu.evict k i).1 = er ∧ Goes w b D (D.pu.evict k i).2 w')) := (dNEvict w b k g D nd i h hnd ho (by have := hW.el; omega)).mono fun e w' hp => by
      rcases hp with ⟨hb, e1, rfl⟩ | ⟨j, rfl, hj, e1, hT⟩
      · refine ⟨10, e1, ?_⟩
        rw [DP.evict, hsite]
        dsimp only
        rw [if_pos hb]
        exact ⟨rfl, Goes.of_kept h (Kept.refl _ _)⟩
      · refine ⟨0, e1, ?_⟩
        rw [DP.evict, hsite]
        dsimp only
        rw [if_neg (by omega)]
        exact ⟨rfl, HT.out _ _ hT.out⟩
    clear h hw hk hnd ho hW hsite
    go_enter Try.func47, Try.ntmps47
    go_wp2_with first
      | (go_at_call 52; refine HS.out.mono ?_; rintro e w1 ⟨rfl, rfl⟩)
      | (go_at_call 76; refine HC.out.mono ?_; rintro e w2 ⟨er, rfl, hr⟩)
    go_ret
    exact ⟨by rw [hr.out.1]; rfl, hr.out.2⟩

set_option maxHeartbeats 2000000 in
theorem dLose (w : World) (b : Nat) (D : DevS) (k i : Int) (h : Dev w b D) (hw : D.Walk) :
    Calls Try.prog 49 #[.pointer (some ⟨b, 0, none⟩), .int .i64 k, .int .i64 i] w fun e w' => e = .returned (.int .i64 (D.pu.lose k i).1) ∧ Goes w b D (D.pu.lose k i).2 w' := by
  by_cases hk : k < 0 ∨ (D.nodes.length : Int) ≤ k
  · have HS : Hid (Calls Try.prog 52 #[.pointer (some ⟨b, 0, none⟩), .int .i64 k] w fun e w' => e = .returned (.tuple #[.pointer none, .int .i64 9]) ∧ w = w') := dsite_bad w b D k h hk
    have HE : Hid (D.pu.lose k i = (9, D.pu)) := by show _ = _; rw [DP.lose, DevS.pu_none hk]
    have HG : Hid (Goes w b D D.pu w) := Goes.of_kept h (Kept.refl _ _)
    clear h hw hk
    go_enter Try.func49, Try.ntmps49
    go_wp2_with (go_at_call 52; refine HS.out.mono ?_; rintro e w1 ⟨rfl, rfl⟩)
    go_ret
    exact ⟨by rw [HE.out]; rfl, by rw [HE.out]; exact HG.out⟩
  · obtain ⟨k, rfl⟩ : ∃ j : Nat, k = j := ⟨k.toNat, by omega⟩
    have hkl : k < D.nodes.length := by omega
    obtain ⟨nd, hnd⟩ : ∃ nd, D.nodes[k]? = some nd := ⟨_, List.getElem?_eq_getElem hkl⟩
    have hW := hw.nodes nd (List.mem_of_getElem? hnd)
    obtain ⟨g, _, _, ho, _⟩ := h.nodes.block hw.n1
    have HS : Hid (Calls Try.prog 52 #[.pointer (some ⟨b, 0, none⟩), .int .i64 (k : Int)] w fun e w' => e = .returned (.tuple #[.pointer (some ⟨g, k * 8, none⟩), .int .i64 0]) ∧ w = w') := dsite w b k g D h hkl ho
    have hsite := D.pu_site hnd
    have HT : Hid (∀ p w', Turns w b D k p w' → Goes w b D (D.pu.put (k : Int) p) w') := fun p w' hT => hT.goes
    have HC : Hid (Calls Try.prog 77 #[.pointer (some ⟨g, k * 8 + 7, none⟩), .int .i64 i] w fun e w' => ∃ (a c er : Int), e = .returned (.tuple #[.agg #[.int .u64 a, .int .u8 c], .int .i64 er]) ∧ Hid ((D.pu.lose k i).1 = er ∧ Goes w b D (D.pu.lose k i).2 w')) := (dtakef w b k g D nd i h hnd ho hW.fl).mono fun e w' hp => by
      rcases hp with ⟨hb, e1, hk1⟩ | ⟨j, x, rfl, hj, e1, hT⟩
      · refine ⟨0, 0, 10, e1, ?_⟩
        rw [DP.lose, hsite]
        dsimp only
        rw [if_pos hb]
        exact ⟨rfl, Goes.of_kept h hk1⟩
      · have hjl := (List.getElem?_eq_some_iff.mp hj).1
        refine ⟨_, _, 0, e1, ?_⟩
        rw [DP.lose, hsite]
        dsimp only
        rw [if_neg (by omega)]
        exact ⟨rfl, HT.out _ _ hT.out⟩
    clear h hw hk hnd ho hW hsite
    go_enter Try.func49, Try.ntmps49
    go_wp2_with first
      | (go_at_call 52; refine HS.out.mono ?_; rintro e w1 ⟨rfl, rfl⟩)
      | (go_at_call 77; refine HC.out.mono ?_; rintro e w2 ⟨a, c, er, rfl, hr⟩)
    go_ret
    exact ⟨by rw [hr.out.1]; rfl, hr.out.2⟩

set_option maxHeartbeats 2000000 in
theorem dCopy (w : World) (b : Nat) (D : DevS) (k i : Int) (h : Dev w b D) (hw : D.Walk) :
    Calls Try.prog 50 #[.pointer (some ⟨b, 0, none⟩), .int .i64 k, .int .i64 i] w fun e w' => e = .returned (.int .i64 (D.pu.copy k i).1) ∧ Goes w b D (D.pu.copy k i).2 w' := by
  by_cases hk : k < 0 ∨ (D.nodes.length : Int) ≤ k
  · have HS : Hid (Calls Try.prog 52 #[.pointer (some ⟨b, 0, none⟩), .int .i64 k] w fun e w' => e = .returned (.tuple #[.pointer none, .int .i64 9]) ∧ w = w') := dsite_bad w b D k h hk
    have HE : Hid (D.pu.copy k i = (9, D.pu)) := by show _ = _; rw [DP.copy, DevS.pu_none hk]
    have HG : Hid (Goes w b D D.pu w) := Goes.of_kept h (Kept.refl _ _)
    clear h hw hk
    go_enter Try.func50, Try.ntmps50
    go_wp2_with (go_at_call 52; refine HS.out.mono ?_; rintro e w1 ⟨rfl, rfl⟩)
    go_ret
    exact ⟨by rw [HE.out]; rfl, by rw [HE.out]; exact HG.out⟩
  · obtain ⟨k, rfl⟩ : ∃ j : Nat, k = j := ⟨k.toNat, by omega⟩
    have hkl : k < D.nodes.length := by omega
    obtain ⟨nd, hnd⟩ : ∃ nd, D.nodes[k]? = some nd := ⟨_, List.getElem?_eq_getElem hkl⟩
    have hW := hw.nodes nd (List.mem_of_getElem? hnd)
    obtain ⟨g, _, _, ho, _⟩ := h.nodes.block hw.n1
    have HS : Hid (Calls Try.prog 52 #[.pointer (some ⟨b, 0, none⟩), .int .i64 (k : Int)] w fun e w' => e = .returned (.tuple #[.pointer (some ⟨g, k * 8, none⟩), .int .i64 0]) ∧ w = w') := dsite w b k g D h hkl ho
    have hsite := D.pu_site hnd
    have HT : Hid (∀ p w', Turns w b D k p w' → Goes w b D (D.pu.put (k : Int) p) w') := fun p w' hT => hT.goes
    have HC : Hid (Calls Try.prog 79 #[.pointer (some ⟨g, k * 8 + 7, none⟩), .int .i64 i] w fun e w' => ∃ er : Int, e = .returned (.int .i64 er) ∧ Hid ((D.pu.copy k i).1 = er ∧ Goes w b D (D.pu.copy k i).2 w')) := (dcopyf w b k g D nd i h hnd ho hW.fl).mono fun e w' hp => by
      rcases hp with ⟨hb, e1, rfl⟩ | ⟨j, x, rfl, hj, hp⟩
      · refine ⟨10, e1, ?_⟩
        have e2 : D.pu.copy k i = (10, D.pu) := by
          rw [DP.copy, hsite]
          dsimp only
          by_cases h0 : i < 0
          · rw [if_pos h0]
          · rw [if_neg h0, List.getElem?_eq_none_iff.mpr (by omega)]
        rw [e2]
        exact ⟨rfl, Goes.of_kept h (Kept.refl _ _)⟩
      · have e2 : D.pu.copy k (j : Int) = if 12 ≤ nd.p.flight.length then (6, D.pu) else (0, D.pu.put k (nd.p.copy x)) := by
          rw [DP.copy, hsite]
          dsimp only
          rw [if_neg (by omega), Int.toNat_natCast, hj]
        rw [e2]
        rcases hp with ⟨h12, e1, rfl⟩ | ⟨h12, e1, hT⟩
        · refine ⟨6, e1, ?_⟩
          rw [if_pos h12]
          exact ⟨rfl, Goes.of_kept h (Kept.refl _ _)⟩
        · refine ⟨0, e1, ?_⟩
          rw [if_neg (by omega)]
          exact ⟨rfl, HT.out _ _ hT.out⟩
    clear h hw hk hnd ho hW hsite
    go_enter Try.func50, Try.ntmps50
    go_wp2_with first
      | (go_at_call 52; refine HS.out.mono ?_; rintro e w1 ⟨rfl, rfl⟩)
      | (go_at_call 79; refine HC.out.mono ?_; rintro e w2 ⟨er, rfl, hr⟩)
    go_ret
    exact ⟨by rw [hr.out.1]; rfl, hr.out.2⟩

set_option maxHeartbeats 2000000 in
theorem dRestart (w : World) (b : Nat) (D : DevS) (k : Int) (h : Dev w b D) (hw : D.Walk) :
    Calls Try.prog 51 #[.pointer (some ⟨b, 0, none⟩), .int .i64 k] w fun e w' => e = .returned (.int .i64 (D.pu.restart k).1) ∧ Goes w b D (D.pu.restart k).2 w' := by
  by_cases hk : k < 0 ∨ (D.nodes.length : Int) ≤ k
  · have HS : Hid (Calls Try.prog 52 #[.pointer (some ⟨b, 0, none⟩), .int .i64 k] w fun e w' => e = .returned (.tuple #[.pointer none, .int .i64 9]) ∧ w = w') := dsite_bad w b D k h hk
    have HE : Hid (D.pu.restart k = (9, D.pu)) := by show _ = _; rw [DP.restart, DevS.pu_none hk]
    have HG : Hid (Goes w b D D.pu w) := Goes.of_kept h (Kept.refl _ _)
    clear h hw hk
    go_enter Try.func51, Try.ntmps51
    go_wp2_with (go_at_call 52; refine HS.out.mono ?_; rintro e w1 ⟨rfl, rfl⟩)
    go_ret
    exact ⟨by rw [HE.out]; rfl, by rw [HE.out]; exact HG.out⟩
  · obtain ⟨k, rfl⟩ : ∃ j : Nat, k = j := ⟨k.toNat, by omega⟩
    have hkl : k < D.nodes.length := by omega
    obtain ⟨nd, hnd⟩ : ∃ nd, D.nodes[k]? = some nd := ⟨_, List.getElem?_eq_getElem hkl⟩
    have hW := hw.nodes nd (List.mem_of_getElem? hnd)
    obtain ⟨g, _, _, ho, _⟩ := h.nodes.block hw.n1
    have HS : Hid (Calls Try.prog 52 #[.pointer (some ⟨b, 0, none⟩), .int .i64 (k : Int)] w fun e w' => e = .returned (.tuple #[.pointer (some ⟨g, k * 8, none⟩), .int .i64 0]) ∧ w = w') := dsite w b k g D h hkl ho
    have hsite := D.pu_site hnd
    have HT : Hid (∀ p w', Turns w b D k p w' → Goes w b D (D.pu.put (k : Int) p) w') := fun p w' hT => hT.goes
    have HC : Hid (Calls Try.prog 80 #[.pointer (some ⟨g, k * 8, none⟩)] w fun e w' => e = .returned (.tuple #[]) ∧ Hid ((D.pu.restart k).1 = 0 ∧ Goes w b D (D.pu.restart k).2 w')) := (dsfall w b k g D nd h hnd ho).mono fun e w' hp => by
      refine ⟨hp.1, ?_⟩
      rw [DP.restart, hsite]
      exact ⟨rfl, HT.out _ _ hp.2.out⟩
    clear h hw hk hnd ho hW hsite
    go_enter Try.func51, Try.ntmps51
    go_wp2_with first
      | (go_at_call 52; refine HS.out.mono ?_; rintro e w1 ⟨rfl, rfl⟩)
      | (go_at_call 80; refine HC.out.mono ?_; rintro e w2 ⟨rfl, hr⟩)
    go_ret
    exact ⟨by rw [hr.out.1]; rfl, hr.out.2⟩

set_option maxHeartbeats 4000000 in
theorem dDeliver (w : World) (b : Nat) (D : DevS) (k i : Int) (h : Dev w b D) (hw : D.Walk) :
    Calls Try.prog 48 #[.pointer (some ⟨b, 0, none⟩), .int .i64 k, .int .i64 i] w fun e w' => e = .returned (.int .i64 (D.pu.deliver k i).1) ∧ Goes w b D (D.pu.deliver k i).2 w' := by
  by_cases hk : k < 0 ∨ (D.nodes.length : Int) ≤ k
  · have HS : Hid (Calls Try.prog 52 #[.pointer (some ⟨b, 0, none⟩), .int .i64 k] w fun e w' => e = .returned (.tuple #[.pointer none, .int .i64 9]) ∧ w = w') := dsite_bad w b D k h hk
    have HE : Hid (D.pu.deliver k i = (9, D.pu)) := by show _ = _; rw [DP.deliver, DevS.pu_none hk]
    have HG : Hid (Goes w b D D.pu w) := Goes.of_kept h (Kept.refl _ _)
    clear h hw hk
    go_enter Try.func48, Try.ntmps48
    go_wp2_with (go_at_call 52; refine HS.out.mono ?_; rintro e w1 ⟨rfl, rfl⟩)
    go_ret
    exact ⟨by rw [HE.out]; rfl, by rw [HE.out]; exact HG.out⟩
  · obtain ⟨k, rfl⟩ : ∃ j : Nat, k = j := ⟨k.toNat, by omega⟩
    have hkl : k < D.nodes.length := by omega
    obtain ⟨nd, hnd⟩ : ∃ nd, D.nodes[k]? = some nd := ⟨_, List.getElem?_eq_getElem hkl⟩
    have hW := hw.nodes nd (List.mem_of_getElem? hnd)
    obtain ⟨g, _, _, ho, _⟩ := h.nodes.block hw.n1
    have HS : Hid (Calls Try.prog 52 #[.pointer (some ⟨b, 0, none⟩), .int .i64 (k : Int)] w fun e w' => e = .returned (.tuple #[.pointer (some ⟨g, k * 8, none⟩), .int .i64 0]) ∧ w = w') := dsite w b k g D h hkl ho
    have hsite := D.pu_site hnd
    have HT : Hid (∀ p w', Turns w b D k p w' → Goes w b D (D.pu.put (k : Int) p) w') := fun p w' hT => hT.goes
    by_cases hi : i < 0 ∨ (nd.p.flight.length : Int) ≤ i
    · have HC : Hid (Calls Try.prog 77 #[.pointer (some ⟨g, k * 8 + 7, none⟩), .int .i64 i] w fun e w' => e = .returned (.tuple #[.agg #[.int .u64 0, .int .u8 0], .int .i64 10]) ∧ Kept (fun _ => False) w w') := (dtakef w b k g D nd i h hnd ho hW.fl).mono fun e w' hp => by
        rcases hp with ⟨hb, e1, hk1⟩ | ⟨j, x, rfl, hj, _⟩
        · exact ⟨e1, hk1⟩
        · have := (List.getElem?_eq_some_iff.mp hj).1
          omega
      have HE : Hid (D.pu.deliver k i = (10, D.pu)) := by
        show _ = _
        rw [DP.deliver, hsite]
        dsimp only
        by_cases h0 : i < 0
        · rw [if_pos h0]
        · rw [if_neg h0, List.getElem?_eq_none_iff.mpr (by omega)]
      have HG : Hid (∀ W, Kept (fun _ => False) w W → Goes w b D D.pu W) := fun W hW => Goes.of_kept h hW
      clear h hw hk hnd ho hW hsite hi
      go_enter Try.func48, Try.ntmps48
      go_wp2_with first
        | (go_at_call 52; refine HS.out.mono ?_; rintro e w1 ⟨rfl, rfl⟩)
        | (go_at_call 77; refine HC.out.mono ?_; rintro e w2 ⟨rfl, hk2⟩)
      go_ret
      exact ⟨by rw [HE.out]; rfl, by rw [HE.out]; exact HG.out _ (hk2.allocNew _)⟩
    · obtain ⟨j, rfl⟩ : ∃ j : Nat, i = j := ⟨i.toNat, by omega⟩
      obtain ⟨x, hx⟩ : ∃ x, nd.p.flight[j]? = some x := ⟨_, List.getElem?_eq_getElem (by omega)⟩
      have HE : Hid (D.pu.deliver k (j : Int) = (0, D.pu.put k ((nd.p.take j).arrive x.1 x.2))) := by
        show _ = _
        rw [DP.deliver, hsite]
        dsimp only
        rw [if_neg (by omega), Int.toNat_natCast, hx]
      have hxs : x.1 ≤ 1000000 := hW.fs x (List.mem_of_getElem? hx)
      have HC : Hid (Calls Try.prog 77 #[.pointer (some ⟨g, k * 8 + 7, none⟩), .int .i64 (j : Int)] w fun e w' => e = .returned (.tuple #[.agg #[.int .u64 (x.1 : Int), .int .u8 x.2], .int .i64 0]) ∧ Hid (Turns w b D k (nd.p.take j) w')) := (dtakef w b k g D nd j h hnd ho hW.fl).mono fun e w' hp => by
        rcases hp with ⟨hb, _⟩ | ⟨j', x', e0, hj, e1, hT⟩
        · omega
        · obtain rfl : j = j' := by omega
          rw [hx] at hj
          injection hj with hj
          subst hj
          exact ⟨e1, hT⟩
      have HA : Hid (∀ W W', Turns w b D k (nd.p.take j) W → Kept (fun _ => False) W W' → Calls Try.prog 78 #[.pointer (some ⟨g, k * 8, none⟩), .int .u64 (x.1 : Int), .int .u8 x.2] W' fun e w' => e = .returned (.tuple #[]) ∧ Hid (Goes w b D (D.pu.put k ((nd.p.take j).arrive x.1 x.2)) w')) := fun W W' hT0 hk0 => by
        obtain ⟨n1, e1, hb1⟩ := hT0.then hk0
        have hok : n1.p.Ok 900000 := by rw [e1]; exact ⟨hW.ok.hz, hW.ok.hl, hW.ok.wl, hW.ok.el, hW.ok.eq⟩
        refine (darrive W' b k g _ n1 x.1 x.2 hb1.1 (putN_at n1 hnd) ho hok hxs).mono fun e w' hp => ⟨hp.1, HT.out _ _ ?_⟩
        obtain ⟨n2, e2, hb2⟩ := hp.2.out
        exact ⟨n2, by rw [e2, e1], by have := hb1.trans hb2; rwa [putN_putN] at this⟩
      clear h hw hk hnd ho hW hsite hi hx
      go_enter Try.func48, Try.ntmps48
      go_wp2_with first
        | (go_at_call 52; refine HS.out.mono ?_; rintro e w1 ⟨rfl, rfl⟩)
        | (go_at_call 77; refine HC.out.mono ?_; rintro e w2 ⟨rfl, HT2⟩)
      have HA2 : Hid (∀ n, Calls Try.prog 78 #[.pointer (some ⟨g, k * 8, none⟩), .int .u64 (x.1 : Int), .int .u8 x.2] ((w2.alloc (.cells #[.int .u64 (x.1 : Int), .int .u8 x.2] 158)).drewN n) fun e w' => e = .returned (.tuple #[]) ∧ Hid (Goes w b D (D.pu.put k ((nd.p.take j).arrive x.1 x.2)) w')) := fun n => HA.out _ _ HT2.out ((Kept.alloc _ _ _).drewN n)
      go_region_with ((go_at_call 78; refine (HA2.out _).mono ?_; rintro e w3 ⟨rfl, hG⟩))
      all_goals
        go_wp2
        go_ret
        exact ⟨by rw [HE.out]; rfl, by rw [HE.out]; exact hG.out⟩

end Go.Proofs.Ytpfcacedpkaihab
