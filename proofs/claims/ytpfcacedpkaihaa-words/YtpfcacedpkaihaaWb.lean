/- The law Words, walked: nine queries in any state are what Go's own int32 arithmetic says. -/
import Derived.Test.YtpfcacedpkaihaaWa
import Derived.Deep.RegionWith
namespace Go.Proofs.Ytpfcacedpkaihaa
open Go.RowKit

/-- the memory that Words itself has laid: the state, the nine values, the nine texts. -/
structure CW (x : Nat → Int) (w wr : World) : Prop where
  st : ∀ j, j < 8 → wr.cell? ⟨w.heap.size, j, none⟩ = some (.int .i32 (x j))
  want : ∀ j, j < 9 → wr.cell? ⟨w.heap.size + 1, j, none⟩ = some (.int .i32 (wants x j))
  strs : ∀ j, j < 9 → wr.cell? ⟨w.heap.size + 1 + 1, j, none⟩ = some (.string (qs j))
  below : Below w.heap.size w wr
  size : w.heap.size + 3 ≤ wr.heap.size

theorem CW.on {x : Nat → Int} {w wr w' : World} (h : CW x w wr) (hb : Below wr.heap.size wr w') : CW x w w' := by
  have hs := h.size
  refine ⟨fun j hj => (hb.cell (p := ⟨w.heap.size, j, none⟩) ?_).trans (h.st j hj), fun j hj => (hb.cell (p := ⟨w.heap.size + 1, j, none⟩) ?_).trans (h.want j hj),
    fun j hj => (hb.cell (p := ⟨w.heap.size + 1 + 1, j, none⟩) ?_).trans (h.strs j hj), h.below.trans (hb.mono ?_), ?_⟩
  · show w.heap.size < _; omega
  · show w.heap.size + 1 < _; omega
  · show w.heap.size + 1 + 1 < _; omega
  · omega
  · have := hb.size; omega

theorem lt8 {j : Nat} (h : j < 8) : j = 0 ∨ j = 1 ∨ j = 2 ∨ j = 3 ∨ j = 4 ∨ j = 5 ∨ j = 6 ∨ j = 7 := by omega
theorem lt9 {j : Nat} (h : j < 9) : j = 0 ∨ j = 1 ∨ j = 2 ∨ j = 3 ∨ j = 4 ∨ j = 5 ∨ j = 6 ∨ j = 7 ∨ j = 8 := by omega

theorem CW.start (x : Nat → Int) (w : World) (a b c d e f g h i : Int) (h0 : a = wants x 0) (h1 : b = wants x 1) (h2 : c = wants x 2) (h3 : d = wants x 3) (h4 : e = wants x 4) (h5 : f = wants x 5) (h6 : g = wants x 6)
    (h7 : h = wants x 7) (h8 : i = wants x 8) : CW x w (((w.alloc
          (Obj.cells #[.int .i32 (x 0), .int .i32 (x 1), .int .i32 (x 2), .int .i32 (x 3), .int .i32 (x 4), .int .i32 (x 5), .int .i32 (x 6), .int .i32 (x 7)] 29)).alloc
      (Obj.cells #[.int .i32 a, .int .i32 b, .int .i32 c, .int .i32 d, .int .i32 e, .int .i32 f, .int .i32 g, .int .i32 h, .int .i32 i] 21)).alloc
  (Obj.cells #[.string { data := #[97] }, .string { data := #[97, 43, 98] }, .string { data := #[97, 45, 98] },
      .string { data := #[97, 195, 151, 98] }, .string { data := #[97, 195, 183, 98] },
      .string { data := #[97, 43, 98, 195, 151, 99] }, .string { data := #[97, 195, 183, 98, 45, 99] },
      .string { data := #[97, 45, 97] }, .string { data := #[104] }] 9)) := by
  refine ⟨fun j hj => ?_, fun j hj => ?_, fun j hj => ?_, ?_, by simp⟩
  · rw [World.cell?_alloc_past _ _ _ (by simp; omega), World.cell?_alloc_past _ _ _ (by simp)]
    exact box8 x w _ j (by omega)
  · rw [World.cell?_alloc_past _ _ _ (by simp), World.cell?_alloc_at _ _ _ _ (by simp), h0, h1, h2, h3, h4, h5, h6, h7, h8]
    rcases lt9 hj with rfl | rfl | rfl | rfl | rfl | rfl | rfl | rfl | rfl <;> rfl
  · rw [World.cell?_alloc_at _ _ _ _ (by simp)]
    rcases lt9 hj with rfl | rfl | rfl | rfl | rfl | rfl | rfl | rfl | rfl <;> rfl
  · exact (((Below.refl _ _).alloc (Nat.le_refl _) _).alloc (by simp) _).alloc (by simp; omega) _

set_option maxHeartbeats 2000000 in
theorem words_any (x : Nat → Int) (hx : ∀ k, -2147483648 ≤ x k ∧ x k < 2147483648) (w : World) :
    Calls Try.prog 5 #[.agg #[.int .i32 (x 0), .int .i32 (x 1), .int .i32 (x 2), .int .i32 (x 3), .int .i32 (x 4), .int .i32 (x 5), .int .i32 (x 6), .int .i32 (x 7)]] w fun e w' =>
      e = .returned (.bool true) ∧ Below w.heap.size w w' := by
  have HX : Hid (∀ k, -2147483648 ≤ x k ∧ x k < 2147483648) := hx
  have HQ : Hid (∀ k, k < 9 → ∀ W, Calls Try.prog 12 #[.string (qs k), .agg #[.int .i32 (x 0), .int .i32 (x 1), .int .i32 (x 2), .int .i32 (x 3), .int .i32 (x 4), .int .i32 (x 5), .int .i32 (x 6), .int .i32 (x 7)]] W fun e w' =>
      e = .returned (.tuple #[.int .i32 (wants x k), .int .i64 0]) ∧ Below W.heap.size W w') := by
    intro k hk W
    have h := aEval_any (qs k) x W (qs_size k)
    rw [(words_eval x hx k hk).1, (words_eval x hx k hk).2] at h
    exact h
  clear hx
  have hqc : x 1 = 0 ∨ ¬ x 1 = 0 := Classical.em _
  rcases hqc with h1 | h1
  · have hz : (x 1 == 0) = true := by simpa using h1
    have hz2 : (x 1 != 0) = false := by simpa using h1
    have HW : Hid ((0 : Int) = wants x 4 ∧ wrap32 (-x 2) = wants x 6) := by simp [Hid, wants, quot, h1]
    clear h1
    go_enter Try.func5, Try.ntmps5
    go_wp2
    go_loopw [9] (fun i wr => ∃ k : Nat, k ≤ 9 ∧ i = .int .i64 k ∧ CW x w wr) (fun i _ => 9 - (intOf i).toNat)
    case atStart => exact ⟨0, by omega, rfl, CW.start x w _ _ _ _ _ _ _ _ _ rfl rfl rfl rfl HW.out.1 rfl HW.out.2 rfl rfl⟩
    case round =>
      obtain ⟨k, hk, rfl, hcw⟩ := hrel
      by_cases hlt : k < 9
      · have s0 := hcw.st 0 (by omega)
        have s1 := hcw.st 1 (by omega)
        have s2 := hcw.st 2 (by omega)
        have s3 := hcw.st 3 (by omega)
        have s4 := hcw.st 4 (by omega)
        have s5 := hcw.st 5 (by omega)
        have s6 := hcw.st 6 (by omega)
        have s7 := hcw.st 7 (by omega)
        have hq := hcw.strs k hlt
        go_wp2
        go_region_with (go_at_call 12; refine (HQ.out k hlt _).mono ?_; rintro e w1 ⟨rfl, hb⟩)
        all_goals
          have hcw' := hcw.on ((Below.refl _ wr).drew.trans hb)
          have hw := hcw'.want k hlt
          clear s0 s1 s2 s3 s4 s5 s6 s7 hq hcw hb
          go_wp2
          go_roundw
          case rel => first | exact ⟨k + 1, by omega, by go_num, hcw'⟩ | ((repeat apply Exists.intro); exact ⟨⟨k + 1, by omega, by go_num, hcw'⟩, rfl⟩)
          case measure => simp [intOf]; omega
      · go_wp2
        go_ret
        exact ⟨rfl, hcw.below⟩
  · have hz : (x 1 == 0) = false := by simpa using h1
    have hz2 : (x 1 != 0) = true := by simpa using h1
    have HW : Hid (wrap32 ((x 0).tdiv (x 1)) = wants x 4 ∧ wrap32 (wrap32 ((x 0).tdiv (x 1)) - x 2) = wants x 6) := by simp [Hid, wants, quot, h1]
    go_enter Try.func5, Try.ntmps5
    go_wp2
    go_loopw [9] (fun i wr => ∃ k : Nat, k ≤ 9 ∧ i = .int .i64 k ∧ CW x w wr) (fun i _ => 9 - (intOf i).toNat)
    case atStart => exact ⟨0, by omega, rfl, CW.start x w _ _ _ _ _ _ _ _ _ rfl rfl rfl rfl HW.out.1 rfl HW.out.2 rfl rfl⟩
    case round =>
      obtain ⟨k, hk, rfl, hcw⟩ := hrel
      by_cases hlt : k < 9
      · have s0 := hcw.st 0 (by omega)
        have s1 := hcw.st 1 (by omega)
        have s2 := hcw.st 2 (by omega)
        have s3 := hcw.st 3 (by omega)
        have s4 := hcw.st 4 (by omega)
        have s5 := hcw.st 5 (by omega)
        have s6 := hcw.st 6 (by omega)
        have s7 := hcw.st 7 (by omega)
        have hq := hcw.strs k hlt
        go_wp2
        go_region_with (go_at_call 12; refine (HQ.out k hlt _).mono ?_; rintro e w1 ⟨rfl, hb⟩)
        all_goals
          have hcw' := hcw.on ((Below.refl _ wr).drew.trans hb)
          have hw := hcw'.want k hlt
          clear s0 s1 s2 s3 s4 s5 s6 s7 hq hcw hb
          go_wp2
          go_roundw
          case rel => first | exact ⟨k + 1, by omega, by go_num, hcw'⟩ | ((repeat apply Exists.intro); exact ⟨⟨k + 1, by omega, by go_num, hcw'⟩, rfl⟩)
          case measure => simp [intOf]; omega
      · go_wp2
        go_ret
        exact ⟨rfl, hcw.below⟩

end Go.Proofs.Ytpfcacedpkaihaa
