/- What the document's own read and keysOf answer (package almanacref). -/
import Derived.Test.YtpfcacedpkaihaaRb
import Derived.Test.YtpfcacedpkaihaaQg
namespace Go.Proofs.Ytpfcacedpkaihaa
open Go.RowKit

theorem terms_none (s : ByteArray) (w : World) (hs : s.size ≤ 40) (hc : Q.cutL 0 s.data.toList = none) :
    Calls Try.prog 41 #[.string s] w fun e w' => ∃ ao cap, e = .returned (.tuple #[.slice ao 0 cap, .bool false]) ∧ Below w.heap.size w w' := by
  refine (terms_any s w hs).mono ?_
  rintro e w' ⟨v, he, ho, hb⟩
  rw [hc] at he ho
  obtain ⟨ao, cap, rfl⟩ := owns_shape ho
  exact ⟨ao, cap, he, hb⟩

theorem terms_some (s : ByteArray) (w : World) (hs : s.size ≤ 40) (ts : List (Nat × Nat)) (hc : Q.cutL 0 s.data.toList = some ts) :
    Calls Try.prog 41 #[.string s] w fun e w' => ∃ g cap, e = .returned (.tuple #[.slice (some ⟨g, 0, none⟩) ts.length cap, .bool true]) ∧ w.heap.size ≤ g ∧ Lies w' g ts ∧ Below w.heap.size w w' := by
  refine (terms_any s w hs).mono ?_
  rintro e w' ⟨v, he, ho, hb⟩
  rw [hc] at he ho
  obtain ⟨g, cap, rfl, hB, hl⟩ := owns_lies ho (by intro h; simp at h; subst h; exact Q.cutL_ne _ _ hc)
  exact ⟨g, cap, he, hB, hl, hb⟩

set_option maxHeartbeats 400000 in
theorem rread_bad (s : ByteArray) (w : World) (er : Int) (hs : s.size ≤ maxLen) (hr : Q.readL s.data.toList = (er, [])) :
    Calls Try.prog 25 #[.string s] w fun e w' => e = .returned (.tuple #[.slice none 0 0, .int .i64 er]) ∧ (er == 0) = false ∧ Below w.heap.size w w' := by
  unfold maxLen at hs
  by_cases h40 : 40 < s.size
  · have he : er = 3 := by simp [Q.readL, h40] at hr; exact hr.symm
    subst he
    clear hr
    go_enter Try.func25, Try.ntmps25
    go_wp2
    go_ret2
    exact ⟨rfl, rfl, Below.refl _ _⟩
  · have h40' : s.size ≤ 40 := by omega
    cases hc : Q.cutL 0 s.data.toList with
    | none =>
      have he : er = 4 := by simp [Q.readL, h40, hc] at hr; exact hr.symm
      subst he
      have HC : Hid (Q.cutL 0 s.data.toList = none) := hc
      clear hr hc h40
      go_enter Try.func25, Try.ntmps25
      go_wp2_with (go_at_call 41; refine (terms_none s _ h40' HC.out).mono ?_; rintro e w1 ⟨ao, cap, rfl, hb⟩)
      go_ret2
      exact ⟨rfl, rfl, by assumption⟩
    | some ts =>
      have h8 : 8 < ts.length := by
        by_cases h8 : 8 < ts.length
        · exact h8
        · simp [Q.readL, h40, hc, h8] at hr
          exact absurd (hr.2 ▸ hc) (Q.cutL_ne _ _)
      have he : er = 3 := by simp [Q.readL, h40, hc, h8] at hr; exact hr.symm
      subst he
      have HC : Hid (Q.cutL 0 s.data.toList = some ts) := hc
      clear hr hc h40
      go_enter Try.func25, Try.ntmps25
      go_wp2_with (go_at_call 41; refine (terms_some s _ h40' ts HC.out).mono ?_; rintro e w1 ⟨g, cap, rfl, hg, hl, hb⟩)
      go_ret2
      exact ⟨rfl, rfl, by assumption⟩

set_option maxHeartbeats 400000 in
theorem rread_good (s : ByteArray) (w : World) (ts : List (Nat × Nat)) (hr : Q.readL s.data.toList = (0, ts)) :
    Calls Try.prog 25 #[.string s] w fun e w' => ∃ g cap, e = .returned (.tuple #[.slice (some ⟨g, 0, none⟩) ts.length cap, .int .i64 0]) ∧ w.heap.size ≤ g ∧ Lies w' g ts ∧ Below w.heap.size w w' := by
  have h40' : s.size ≤ 40 := by
    by_cases h : 40 < s.size
    · simp [Q.readL, h] at hr
    · omega
  have hc : Q.cutL 0 s.data.toList = some ts ∧ ts.length ≤ 8 := by
    have h : ¬ 40 < s.size := by omega
    cases hc : Q.cutL 0 s.data.toList with
    | none => simp [Q.readL, h, hc] at hr
    | some us =>
      by_cases h8 : 8 < us.length
      · simp [Q.readL, h, hc, h8] at hr
      · simp [Q.readL, h, hc, h8] at hr; subst hr; exact ⟨rfl, by omega⟩
  obtain ⟨hc, h8⟩ := hc
  have HC : Hid (Q.cutL 0 s.data.toList = some ts) := hc
  clear hr hc
  go_enter Try.func25, Try.ntmps25
  go_wp2_with (go_at_call 41; refine (terms_some s _ h40' ts HC.out).mono ?_; rintro e w1 ⟨g, cap, rfl, hg, hl, hb⟩)
  go_ret2
  exact ⟨_, _, rfl, by assumption, by assumption, by assumption⟩

theorem le7 {k : Nat} (h : k ≤ 7) : k = 0 ∨ k = 1 ∨ k = 2 ∨ k = 3 ∨ k = 4 ∨ k = 5 ∨ k = 6 ∨ k = 7 := by omega

set_option maxHeartbeats 2000000 in
theorem keysOf_any (g cap : Nat) (ts : List (Nat × Nat)) (w : World) (hl : Lies w g ts) (h8 : ts.length ≤ 8) (hks : ∀ t ∈ ts, t.1 ≤ 3 ∧ t.2 ≤ 7) :
    Calls Try.prog 26 #[.slice (some ⟨g, 0, none⟩) ts.length cap] w fun e w' => e = .returned (.int .u8 (keysL ts)) ∧ w = w' := by
  have HKS : Hid (∀ t ∈ ts, t.1 ≤ 3 ∧ t.2 ≤ 7) := hks
  clear hks
  go_enter Try.func26, Try.ntmps26
  go_wp2
  go_loop [3, 4] (fun v i => ∃ k : Nat, k ≤ ts.length ∧ i = .int .i64 k ∧ v = .int .u8 (keysL (ts.take k))) (fun _ i => ts.length - (intOf i).toNat)
  case atStart => exact ⟨0, Nat.zero_le _, rfl, rfl⟩
  case round =>
    obtain ⟨k, hk, rfl, rfl⟩ := hrel
    by_cases hlt : k < ts.length
    · obtain ⟨kk, hkk⟩ : ∃ kk, kk = ts[k].2 := ⟨_, rfl⟩
      have hky := hl.key k hlt
      have hm7 := (HKS.out ts[k] (List.getElem_mem hlt)).2
      have hE := keysL_snoc ts k hlt
      rw [← hkk] at hky hm7 hE
      have HE : Hid (keysL (ts.take (k + 1)) = bits .or .u8 (keysL (ts.take k)) (bitN kk)) := hE
      clear hkk hE
      rcases le7 hm7 with rfl | rfl | rfl | rfl | rfl | rfl | rfl | rfl
      all_goals
        go_wp2
        go_round
        case rel => exact ⟨k + 1, by omega, by go_num, by rw [HE.out]; rfl⟩
        case measure => simp [intOf]; omega
    · have hz : k = ts.length := by omega
      subst hz
      go_wp2
      go_ret
      exact ⟨by simp, rfl⟩

end Go.Proofs.Ytpfcacedpkaihaa
