/- What almanac.Parse answers at every text. -/
import Derived.Test.YtpfcacedpkaihaaQg
namespace Go.Proofs.Ytpfcacedpkaihaa
open Go.RowKit

theorem qParse_any (s : ByteArray) (w : World) (hs : s.size ≤ maxLen) :
    Calls Try.prog 24 #[.string s] w fun e w' =>
      e = .returned (.tuple #[.agg #[.int .u8 (keysL (Q.readL s.data.toList).2), .int .i64 ((Q.readL s.data.toList).2.length : Int)], .int .i64 (Q.readL s.data.toList).1]) ∧ Below w.heap.size w w' := by
  rcases Q.readL_cases s.data.toList with h | h | ⟨us, h, r⟩
  · rw [h]; exact qParse_bad s w 3 hs h
  · rw [h]; exact qParse_bad s w 4 hs h
  · rw [h]; exact qParse_good s w us h

set_option maxHeartbeats 400000 in
theorem aParse_any (s : ByteArray) (w : World) (hs : s.size ≤ maxLen) :
    Calls Try.prog 10 #[.string s] w fun e w' =>
      e = .returned (.tuple #[.agg #[.int .u8 (keysL (Q.readL s.data.toList).2), .int .i64 ((Q.readL s.data.toList).2.length : Int)], .int .i64 (Q.readL s.data.toList).1]) ∧ Below w.heap.size w w' := by
  have hq := fun W => qParse_any s W hs
  obtain ⟨K, T, E, hK⟩ : ∃ K T E : Int, K = keysL (Q.readL s.data.toList).2 ∧ T = ((Q.readL s.data.toList).2.length : Int) ∧ E = (Q.readL s.data.toList).1 := ⟨_, _, _, rfl, rfl, rfl⟩
  rw [← hK.1, ← hK.2.1, ← hK.2.2] at hq ⊢
  have HQ : Hid (∀ W, Calls Try.prog 24 #[.string s] W fun e w' => e = .returned (.tuple #[.agg #[.int .u8 K, .int .i64 T], .int .i64 E]) ∧ Below W.heap.size W w') := hq
  clear hq hK
  go_enter Try.func10, Try.ntmps10
  go_wp2_with (go_at_call 24; refine (HQ.out _).mono ?_; rintro e w1 ⟨rfl, hb⟩; have hc0 := hb.cell (p := ⟨w.heap.size, 0, none⟩) (by simp); have hc1 := hb.cell (p := ⟨w.heap.size, 1, none⟩) (by simp); have hf0 := hb.frozen (p := ⟨w.heap.size, 0, none⟩) (by simp); have hf1 := hb.frozen (p := ⟨w.heap.size, 1, none⟩) (by simp); simp [go_sem] at hc0 hc1 hf0 hf1)
  refine bodyPost_ret (v := .tuple #[.agg #[.int .u8 K, .int .i64 T], .int .i64 E]) (by simp [results, Try.results10, go_sem, hc0, hc1]) rfl ⟨rfl, ?_⟩
  exact (((((Below.refl _ _).alloc (Nat.le_refl _) _).trans (hb.mono (by simp))).setCell (Nat.le_refl _) _).setCell (Nat.le_refl _) _)

end Go.Proofs.Ytpfcacedpkaihaa
