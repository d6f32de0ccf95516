/- The law Parsed at a list without entries. -/
import Derived.Test.YtpfcacedpkaihaaPb
namespace Go.Proofs.Ytpfcacedpkaihaa
open Go.RowKit
set_option maxRecDepth 100000

set_option maxHeartbeats 2000000 in
theorem parsed_zero (ao : Option Addr) (cap : Nat) (w : World) :
    Calls Try.prog 6 #[.slice ao 0 cap] w fun e w' => e = .returned (.bool true) ∧ Below w.heap.size w w' := by
  obtain ⟨p1, p2, p3, p4⟩ := four_texts ⟨#[99]⟩ [] rfl (fun t ht => by simp at ht) (by simp) (by decide)
  have P1 : Hid (∀ W, Calls Try.prog 10 #[.string ⟨#[99]⟩] W fun e w' => e = .returned (.tuple #[.agg #[.int .u8 4, .int .i64 1], .int .i64 0]) ∧ Below W.heap.size W w') := p1
  have P2 : Hid (∀ W, Calls Try.prog 10 #[.string (⟨#[99]⟩ ++ ⟨#[97]⟩)] W fun e w' => e = .returned (.tuple #[.agg #[.int .u8 0, .int .i64 0], .int .i64 4]) ∧ Below W.heap.size W w') := p2
  have P3 : Hid (∀ W, Calls Try.prog 10 #[.string (⟨#[99]⟩ ++ ⟨#[43]⟩)] W fun e w' => e = .returned (.tuple #[.agg #[.int .u8 0, .int .i64 0], .int .i64 4]) ∧ Below W.heap.size W w') := p3
  have P4 : Hid (∀ W, Calls Try.prog 10 #[.string (⟨#[45]⟩ ++ ⟨#[99]⟩)] W fun e w' => e = .returned (.tuple #[.agg #[.int .u8 0, .int .i64 0], .int .i64 4]) ∧ Below W.heap.size W w') := p4
  clear p1 p2 p3 p4
  go_enter Try.func6, Try.ntmps6
  go_wp2
  refine wp_loop_rounds 1 ?_
  rw [rounds_succ]
  go_wp2_with (first
          | (go_at_call 10; refine (P1.out _).mono ?_; rintro e w1 ⟨rfl, hb1⟩)
          | (go_at_call 10; refine (P2.out _).mono ?_; rintro e w2 ⟨rfl, hb2⟩; have z2 : w1.heap.size < w2.heap.size := (by have := hb2.size; simp at this; omega); have c20 := hb2.cell (p := ⟨w1.heap.size, 0, none⟩) (by simp); have c21 := hb2.cell (p := ⟨w1.heap.size, 1, none⟩) (by simp); simp [go_sem] at c20 c21)
          | (go_at_call 10; refine (P3.out _).mono ?_; rintro e w3 ⟨rfl, hb3⟩; have z3 : w2.heap.size < w3.heap.size := (by have := hb3.size; simp at this; omega); have z31 : w1.heap.size < w3.heap.size := (by omega); have c30 := hb3.cell (p := ⟨w1.heap.size, 0, none⟩) (by simp; omega); have c31 := hb3.cell (p := ⟨w1.heap.size, 1, none⟩) (by simp; omega); simp [go_sem, z2, c20, c21] at c30 c31)
          | (go_at_call 10; refine (P4.out _).mono ?_; rintro e w4 ⟨rfl, hb4⟩; have z4 : w3.heap.size < w4.heap.size := (by have := hb4.size; simp at this; omega); have z41 : w1.heap.size < w4.heap.size := (by omega); have c40 := hb4.cell (p := ⟨w1.heap.size, 0, none⟩) (by simp; omega); have c41 := hb4.cell (p := ⟨w1.heap.size, 1, none⟩) (by simp; omega); simp [go_sem, z31, c30, c31] at c40 c41))
  go_ret
  have r1 : Below w.heap.size w w1 := ((Below.refl _ _).alloc (Nat.le_refl _) _).trans (hb1.mono (by simp))
  have r2 : Below w.heap.size w w2 := (r1.alloc r1.size _).trans (hb2.mono (by have := r1.size; simp; omega))
  have r3 : Below w.heap.size w w3 := (r2.alloc r2.size _).trans (hb3.mono (by have := r2.size; simp; omega))
  have r4 : Below w.heap.size w w4 := (r3.alloc r3.size _).trans (hb4.mono (by have := r3.size; simp; omega))
  exact ⟨rfl, r4.alloc r4.size _⟩

end Go.Proofs.Ytpfcacedpkaihaa
