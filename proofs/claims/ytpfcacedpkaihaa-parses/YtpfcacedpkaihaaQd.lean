/- What package queries' read answers at every text. -/
import Derived.Test.YtpfcacedpkaihaaQc
namespace Go.Proofs.Ytpfcacedpkaihaa
open Go.RowKit

theorem owns_shape {w : World} {B E n : Nat} {v : Value} {xs : List Value} (h : w.ownsRow B E 2 v n xs) : ∃ ao cap, v = .slice ao n cap := by
  obtain ⟨_, h | ⟨g, cap, _, hv, _⟩⟩ := h
  · exact ⟨none, 0, by rw [h.1, h.2]⟩
  · exact ⟨_, cap, hv⟩

theorem cs_at (ts : List (Nat × Nat)) (j : Nat) (h : j < ts.length) : (cs ts)[j * 2]? = some (.int .i64 (ts[j].1 : Int)) ∧ (cs ts)[j * 2 + 1]? = some (.int .i64 (ts[j].2 : Int)) := by
  induction ts generalizing j with
  | nil => simp at h
  | cons t r ih =>
    match j with
    | 0 => simp [cs]
    | j + 1 =>
      have := ih j (by simpa using h)
      have e1 : (j + 1) * 2 = j * 2 + 2 := by omega
      have e2 : (j + 1) * 2 + 1 = (j * 2 + 1) + 2 := by omega
      rw [e2, e1]
      simpa [cs] using this

/-- some terms lie in a row of memory. -/
structure Lies (w : World) (g : Nat) (ts : List (Nat × Nat)) : Prop where
  lt : g < w.heap.size
  sign : ∀ j (h : j < ts.length), w.cell? ⟨g, j * 2, none⟩ = some (.int .i64 (ts[j].1 : Int))
  key : ∀ j (h : j < ts.length), w.cell? ⟨g, j * 2 + 1, none⟩ = some (.int .i64 (ts[j].2 : Int))

theorem Lies.below {w w' : World} {g : Nat} {ts : List (Nat × Nat)} (h : Lies w g ts) (hb : Below w.heap.size w w') : Lies w' g ts :=
  ⟨Nat.lt_of_lt_of_le h.lt hb.size, fun j hj => (hb.cell (p := ⟨g, j * 2, none⟩) h.lt).trans (h.sign j hj), fun j hj => (hb.cell (p := ⟨g, j * 2 + 1, none⟩) h.lt).trans (h.key j hj)⟩

theorem addr_add (g k : Nat) : (⟨g, 0, none⟩ : Addr).add k = ⟨g, k, none⟩ := by
  cases k <;> simp [Addr.add]

theorem owns_lies {w : World} {B E : Nat} {v : Value} {ts : List (Nat × Nat)} (h : w.ownsRow B E 2 v ts.length (cs ts)) (hne : ts ≠ []) :
    ∃ g cap, v = .slice (some ⟨g, 0, none⟩) ts.length cap ∧ B ≤ g ∧ Lies w g ts := by
  have h2 := h
  obtain ⟨_, h1 | ⟨g, cap, cur, rfl, hB, hh, hr⟩⟩ := h
  · exact absurd (List.length_eq_zero_iff.mp h1.2) hne
  · refine ⟨g, cap, rfl, hB, ?_, ?_, ?_⟩
    · by_cases hg : g < w.heap.size
      · exact hg
      · rw [Array.getElem?_eq_none (by omega)] at hh; simp at hh
    · intro j hj
      have := h2.cells (g := g) rfl (j * 2) _ (cs_at ts j hj).1
      rw [addr_add] at this; exact this
    · intro j hj
      have := h2.cells (g := g) rfl (j * 2 + 1) _ (cs_at ts j hj).2
      rw [addr_add] at this; exact this

theorem cut_none (s : ByteArray) (w : World) (hs : s.size ≤ 40) (hc : Q.cutL 0 s.data.toList = none) :
    Calls Try.prog 59 #[.string s] w fun e w' => ∃ ao cap, e = .returned (.tuple #[.slice ao 0 cap, .bool false]) ∧ Below w.heap.size w w' := by
  refine (cut_any s w hs).mono ?_
  rintro e w' ⟨v, he, ho, hb⟩
  rw [hc] at he ho
  obtain ⟨ao, cap, rfl⟩ := owns_shape ho
  exact ⟨ao, cap, he, hb⟩

theorem cut_some (s : ByteArray) (w : World) (hs : s.size ≤ 40) (ts : List (Nat × Nat)) (hc : Q.cutL 0 s.data.toList = some ts) :
    Calls Try.prog 59 #[.string s] w fun e w' => ∃ g cap, e = .returned (.tuple #[.slice (some ⟨g, 0, none⟩) ts.length cap, .bool true]) ∧ w.heap.size ≤ g ∧ Lies w' g ts ∧ Below w.heap.size w w' := by
  refine (cut_any s w hs).mono ?_
  rintro e w' ⟨v, he, ho, hb⟩
  rw [hc] at he ho
  obtain ⟨g, cap, rfl, hB, hl⟩ := owns_lies ho (by intro h; simp at h; subst h; exact Q.cutL_ne _ _ hc)
  exact ⟨g, cap, he, hB, hl, hb⟩

set_option maxHeartbeats 400000 in
theorem read_bad (s : ByteArray) (w : World) (er : Int) (hs : s.size ≤ maxLen) (hr : Q.readL s.data.toList = (er, [])) :
    Calls Try.prog 39 #[.string s] w fun e w' => e = .returned (.tuple #[.slice none 0 0, .int .i64 er]) ∧ (er == 0) = false ∧ Below w.heap.size w w' := by
  unfold maxLen at hs
  by_cases h40 : 40 < s.size
  · have he : er = 3 := by simp [Q.readL, h40] at hr; exact hr.symm
    subst he
    clear hr
    go_enter Try.func39, Try.ntmps39
    go_wp2
    go_ret2
    exact ⟨rfl, rfl, Below.refl _ _⟩
  · have h40' : s.size ≤ 40 := by omega
    cases hc : Q.cutL 0 s.data.toList with
    | none =>
      have he : er = 4 := by simp [Q.readL, h40, hc] at hr; exact hr.symm
      subst he
      have HC : Hid (Q.cutL 0 s.data.toList = none) := hc
      clear hr hc h40
      go_enter Try.func39, Try.ntmps39
      go_wp2_with (go_at_call 59; refine (cut_none s _ h40' HC.out).mono ?_; rintro e w1 ⟨ao, cap, rfl, hb⟩)
      go_ret2
      exact ⟨rfl, rfl, by assumption⟩
    | some ts =>
      have h8 : 8 < ts.length := by
        by_cases h8 : 8 < ts.length
        · exact h8
        · simp [Q.readL, h40, hc, h8] at hr
          exact absurd (hr.2 ▸ hc) (Q.cutL_ne _ _)
      have he : er = 3 := by simp [Q.readL, h40, hc, h8] at hr; exact hr.symm
      subst he
      have HC : Hid (Q.cutL 0 s.data.toList = some ts) := hc
      clear hr hc h40
      go_enter Try.func39, Try.ntmps39
      go_wp2_with (go_at_call 59; refine (cut_some s _ h40' ts HC.out).mono ?_; rintro e w1 ⟨g, cap, rfl, hg, hl, hb⟩)
      go_ret2
      exact ⟨rfl, rfl, by assumption⟩

set_option maxHeartbeats 400000 in
theorem read_good (s : ByteArray) (w : World) (ts : List (Nat × Nat)) (hr : Q.readL s.data.toList = (0, ts)) :
    Calls Try.prog 39 #[.string s] w fun e w' => ∃ g cap, e = .returned (.tuple #[.slice (some ⟨g, 0, none⟩) ts.length cap, .int .i64 0]) ∧ w.heap.size ≤ g ∧ Lies w' g ts ∧ Below w.heap.size w w' := by
  have h40' : s.size ≤ 40 := by
    by_cases h : 40 < s.size
    · simp [Q.readL, h] at hr
    · omega
  have hc : Q.cutL 0 s.data.toList = some ts ∧ ts.length ≤ 8 := by
    have h : ¬ 40 < s.size := by omega
    cases hc : Q.cutL 0 s.data.toList with
    | none => simp [Q.readL, h, hc] at hr
    | some us =>
      by_cases h8 : 8 < us.length
      · simp [Q.readL, h, hc, h8] at hr
      · simp [Q.readL, h, hc, h8] at hr; subst hr; exact ⟨rfl, by omega⟩
  obtain ⟨hc, h8⟩ := hc
  have HC : Hid (Q.cutL 0 s.data.toList = some ts) := hc
  clear hr hc
  go_enter Try.func39, Try.ntmps39
  go_wp2_with (go_at_call 59; refine (cut_some s _ h40' ts HC.out).mono ?_; rintro e w1 ⟨g, cap, rfl, hg, hl, hb⟩)
  go_ret2
  exact ⟨_, _, rfl, by assumption, by assumption, by assumption⟩

end Go.Proofs.Ytpfcacedpkaihaa
