/- What the document's own reader of signs answers (package almanacref). -/
import Derived.Test.YtpfcacedpkaihaaQd
import Derived.Deep.QuietTactic
import Derived.BigQuiet
import Derived.Lib.Strings
namespace Go.Proofs.Ytpfcacedpkaihaa
open Go.RowKit

set_option maxHeartbeats 400000 in
theorem signs_any (w : World) :
    Calls Try.prog 87 #[] w fun e w' => e = .returned (.slice (some ⟨w.heap.size, 0, none⟩) 4 4) ∧
      w.alloc (.cells #[.string ⟨#[43]⟩, .string ⟨#[45]⟩, .string ⟨#[195, 151]⟩, .string ⟨#[195, 183]⟩] 9) = w' := by
  go_enter Try.func87, Try.ntmps87
  go_wp2
  go_ret
  exact ⟨rfl, rfl⟩

/-- the four signs' bytes. -/
def sS : Nat → List UInt8
  | 0 => [43]
  | 1 => [45]
  | 2 => [195, 151]
  | _ => [195, 183]

/-- the document's way to say what sign a text begins with. -/
def rsg (l : List UInt8) : Int × Int := if (Q.sgn l).2 = 0 then (-1, 0) else (((Q.sgn l).1 : Int), ((Q.sgn l).2 : Int))

theorem take_hit (l : List UInt8) (k : Nat) (hk : k < 4) (h : l.take (sS k).length = sS k) : Q.sgn l = (k, (sS k).length) := by
  have hc : k = 0 ∨ k = 1 ∨ k = 2 ∨ k = 3 := by omega
  match l with
  | [] => rcases hc with rfl | rfl | rfl | rfl <;> simp [sS] at h
  | [c] => rcases hc with rfl | rfl | rfl | rfl <;> simp [sS] at h <;> subst h <;> decide
  | c :: d :: r =>
    rcases hc with rfl | rfl | rfl | rfl
    · simp [sS] at h; subst h; simp [Q.sgn, sS]
    · simp [sS] at h; subst h; simp [Q.sgn, sS]
    · simp [sS] at h; obtain ⟨rfl, rfl⟩ := h; simp [Q.sgn, sS]
    · simp [sS] at h; obtain ⟨rfl, rfl⟩ := h; simp [Q.sgn, sS]

theorem take_miss (l : List UInt8) (h : ∀ k, k < 4 → ¬ l.take (sS k).length = sS k) : (Q.sgn l).2 = 0 := by
  have h0 := h 0 (by omega)
  have h1 := h 1 (by omega)
  have h2 := h 2 (by omega)
  have h3 := h 3 (by omega)
  have ne : ∀ (c : UInt8) (n : UInt8), ¬ c = n → ¬ c.toNat = n.toNat := fun c n hn he => hn (UInt8.toNat_inj.mp he)
  match l with
  | [] => rfl
  | [c] =>
    simp [sS] at h0 h1
    have a := ne c 43 h0
    have b := ne c 45 h1
    simp at a b
    simp [Q.sgn, a, b]
  | c :: d :: r =>
    simp [sS] at h0 h1 h2 h3
    have a := ne c 43 h0
    have b := ne c 45 h1
    simp at a b
    by_cases hc : c.toNat = 195
    · have hc' : c = 195 := UInt8.toNat_inj.mp hc
      have a' := ne d 151 (h2 hc')
      have b' := ne d 183 (h3 hc')
      simp at a' b'
      simp [Q.sgn, hc, a', b']
    · simp [Q.sgn, a, b, hc]

theorem extract_hit {r : ByteArray} {n : Nat} {l : List UInt8} (h : ((r.extract 0 n).toList == l) = true) : r.data.toList.take n = l := by
  have := eq_of_beq h
  rw [Lib.toList_data, Lib.extract_data] at this
  simpa using this
theorem extract_miss {r : ByteArray} {n : Nat} {l : List UInt8} (h : ((r.extract 0 n).toList == l) = false) : ¬ r.data.toList.take n = l := by
  intro he
  rw [Lib.toList_data, Lib.extract_data] at h
  simp [he] at h
theorem short_miss {r : ByteArray} {l : List UInt8} (h : ¬ l.length ≤ r.size) : ¬ r.data.toList.take l.length = l := by
  intro he
  have := congrArg List.length he
  simp at this
  omega

theorem rsg_hit {l : List UInt8} {k : Nat} (hk : k < 4) (h : l.take (sS k).length = sS k) : rsg l = ((k : Int), ((sS k).length : Int)) := by
  have := take_hit l k hk h
  have h0 : ¬ (sS k).length = 0 := by
    have hc : k = 0 ∨ k = 1 ∨ k = 2 ∨ k = 3 := by omega
    rcases hc with rfl | rfl | rfl | rfl <;> decide
  simp only [rsg, this, h0, if_false]
theorem rsg_miss {l : List UInt8} (h : ∀ k, k < 4 → ¬ l.take (sS k).length = sS k) : rsg l = (-1, 0) := by simp [rsg, take_miss l h]

theorem miss_more {l : List UInt8} {k : Nat} (h : ∀ j, j < k → ¬ l.take (sS j).length = sS j) (hk : ¬ l.take (sS k).length = sS k) : ∀ j, j < k + 1 → ¬ l.take (sS j).length = sS j := by
  intro j hj
  by_cases e : j = k
  · rw [e]; exact hk
  · exact h j (by omega)

theorem ret_pair {p : Int × Int} {a b : Int} (h : p = (a, b)) : Ending.returned (.tuple #[.int .i64 a, .int .i64 b]) = .returned (.tuple #[.int .i64 p.1, .int .i64 p.2]) := by rw [h]

set_option maxHeartbeats 2000000 in
theorem rsign_any (r : ByteArray) (w : World) (hs : r.size ≤ maxLen) :
    Calls Try.prog 60 #[.string r] w fun e w' => e = .returned (.tuple #[.int .i64 (rsg r.data.toList).1, .int .i64 (rsg r.data.toList).2]) ∧ Below w.heap.size w w' := by
  unfold maxLen at hs
  go_enter Try.func60, Try.ntmps60
  go_wp2_with (go_at_call 87; refine (signs_any _).mono ?_; rintro e w1 ⟨rfl, hw1⟩)
  have hb1 : Below w.heap.size w w1 := by rw [← hw1]; exact (Below.refl _ _).alloc (Nat.le_refl _) _
  have HW : Hid (w.alloc (.cells #[.string ⟨#[43]⟩, .string ⟨#[45]⟩, .string ⟨#[195, 151]⟩, .string ⟨#[195, 183]⟩] 9) = w1) := hw1
  clear hw1
  go_loopw [5] (fun i wr => ∃ k : Nat, k ≤ 4 ∧ i = .int .i64 k ∧ Below w1.heap.size w1 wr ∧ Hid (∀ j, j < k → ¬ r.data.toList.take (sS j).length = sS j)) (fun i _ => 4 - (intOf i).toNat)
  case atStart => exact ⟨0, by omega, rfl, Below.refl _ _, fun j hj => absurd hj (Nat.not_lt_zero _)⟩
  case round =>
    obtain ⟨k, hk, rfl, hnx, HM⟩ := hrel
    have hz : w.heap.size < w1.heap.size := by rw [← HW.out]; simp
    have hbw := hb1.trans (hnx.mono (Nat.le_of_lt hz))
    by_cases hlt : k < 4
    · have hc : k = 0 ∨ k = 1 ∨ k = 2 ∨ k = 3 := by omega
      rcases hc with rfl | rfl | rfl | rfl
      · have hcell : wr.cell? ⟨w.heap.size, 0, none⟩ = some (.string ⟨#[43]⟩) := by
          rw [hnx.cell (p := ⟨w.heap.size, 0, none⟩) hz, ← HW.out]; simp [go_sem]
        by_cases hl : 1 ≤ r.size
        · have hl' : (1 : Int) ≤ (r.size : Int) := by omega
          have hd : decide ((1 : Int) ≤ (r.size : Int)) = true := by simpa using hl'
          go_wp2_with fail
          go_quiet (fail)
          go_wp2
          · go_ret2
            exact ⟨ret_pair (rsg_hit (k := 0) (by omega) (extract_hit ‹_›)), below_drewN hbw _⟩
          · go_roundw
            case rel => exact ⟨1, by omega, by go_num, below_drewN hnx _, miss_more (k := 0) HM.out (extract_miss ‹_›)⟩
            case measure => simp [intOf]
        · have hl' : ¬ (1 : Int) ≤ (r.size : Int) := by omega
          have hd : decide ((1 : Int) ≤ (r.size : Int)) = false := by simpa using hl'
          go_wp2_with fail
          go_quiet (fail)
          go_wp2
          go_roundw
          case rel => exact ⟨1, by omega, by go_num, below_drewN hnx _, miss_more (k := 0) HM.out (short_miss hl)⟩
          case measure => simp [intOf]
      · have hcell : wr.cell? ⟨w.heap.size, 1, none⟩ = some (.string ⟨#[45]⟩) := by
          rw [hnx.cell (p := ⟨w.heap.size, 1, none⟩) hz, ← HW.out]; simp [go_sem]
        by_cases hl : 1 ≤ r.size
        · have hl' : (1 : Int) ≤ (r.size : Int) := by omega
          have hd : decide ((1 : Int) ≤ (r.size : Int)) = true := by simpa using hl'
          go_wp2_with fail
          go_quiet (fail)
          go_wp2
          · go_ret2
            exact ⟨ret_pair (rsg_hit (k := 1) (by omega) (extract_hit ‹_›)), below_drewN hbw _⟩
          · go_roundw
            case rel => exact ⟨2, by omega, by go_num, below_drewN hnx _, miss_more (k := 1) HM.out (extract_miss ‹_›)⟩
            case measure => simp [intOf]
        · have hl' : ¬ (1 : Int) ≤ (r.size : Int) := by omega
          have hd : decide ((1 : Int) ≤ (r.size : Int)) = false := by simpa using hl'
          go_wp2_with fail
          go_quiet (fail)
          go_wp2
          go_roundw
          case rel => exact ⟨2, by omega, by go_num, below_drewN hnx _, miss_more (k := 1) HM.out (short_miss hl)⟩
          case measure => simp [intOf]
      · have hcell : wr.cell? ⟨w.heap.size, 2, none⟩ = some (.string ⟨#[195, 151]⟩) := by
          rw [hnx.cell (p := ⟨w.heap.size, 2, none⟩) hz, ← HW.out]; simp [go_sem]
        by_cases hl : 2 ≤ r.size
        · have hl' : (2 : Int) ≤ (r.size : Int) := by omega
          have hd : decide ((2 : Int) ≤ (r.size : Int)) = true := by simpa using hl'
          go_wp2_with fail
          go_quiet (fail)
          go_wp2
          · go_ret2
            exact ⟨ret_pair (rsg_hit (k := 2) (by omega) (extract_hit ‹_›)), below_drewN hbw _⟩
          · go_roundw
            case rel => exact ⟨3, by omega, by go_num, below_drewN hnx _, miss_more (k := 2) HM.out (extract_miss ‹_›)⟩
            case measure => simp [intOf]
        · have hl' : ¬ (2 : Int) ≤ (r.size : Int) := by omega
          have hd : decide ((2 : Int) ≤ (r.size : Int)) = false := by simpa using hl'
          go_wp2_with fail
          go_quiet (fail)
          go_wp2
          go_roundw
          case rel => exact ⟨3, by omega, by go_num, below_drewN hnx _, miss_more (k := 2) HM.out (short_miss hl)⟩
          case measure => simp [intOf]
      · have hcell : wr.cell? ⟨w.heap.size, 3, none⟩ = some (.string ⟨#[195, 183]⟩) := by
          rw [hnx.cell (p := ⟨w.heap.size, 3, none⟩) hz, ← HW.out]; simp [go_sem]
        by_cases hl : 2 ≤ r.size
        · have hl' : (2 : Int) ≤ (r.size : Int) := by omega
          have hd : decide ((2 : Int) ≤ (r.size : Int)) = true := by simpa using hl'
          go_wp2_with fail
          go_quiet (fail)
          go_wp2
          · go_ret2
            exact ⟨ret_pair (rsg_hit (k := 3) (by omega) (extract_hit ‹_›)), below_drewN hbw _⟩
          · go_roundw
            case rel => exact ⟨4, by omega, by go_num, below_drewN hnx _, miss_more (k := 3) HM.out (extract_miss ‹_›)⟩
            case measure => simp [intOf]
        · have hl' : ¬ (2 : Int) ≤ (r.size : Int) := by omega
          have hd : decide ((2 : Int) ≤ (r.size : Int)) = false := by simpa using hl'
          go_wp2_with fail
          go_quiet (fail)
          go_wp2
          go_roundw
          case rel => exact ⟨4, by omega, by go_num, below_drewN hnx _, miss_more (k := 3) HM.out (short_miss hl)⟩
          case measure => simp [intOf]
    · go_wp2
      go_ret2
      exact ⟨ret_pair (rsg_miss (fun j hj => HM.out j (by omega))), hbw⟩

end Go.Proofs.Ytpfcacedpkaihaa
