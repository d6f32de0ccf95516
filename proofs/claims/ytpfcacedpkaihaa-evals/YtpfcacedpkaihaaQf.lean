/- What almanac.Eval answers at every text in every state. -/
import Derived.Test.YtpfcacedpkaihaaQe
namespace Go.Proofs.Ytpfcacedpkaihaa
open Go.RowKit

theorem qEval_any (s : ByteArray) (x : Nat → Int) (w : World) (hs : s.size ≤ maxLen) :
    Calls Try.prog 27 #[.string s, .agg #[.int .i32 (x 0), .int .i32 (x 1), .int .i32 (x 2), .int .i32 (x 3), .int .i32 (x 4), .int .i32 (x 5), .int .i32 (x 6), .int .i32 (x 7)]] w fun e w' =>
      e = .returned (.tuple #[.int .i32 (evalL x (Q.readL s.data.toList).2), .int .i64 (Q.readL s.data.toList).1]) ∧ Below w.heap.size w w' := by
  rcases Q.readL_cases s.data.toList with h | h | ⟨us, h, r⟩
  · rw [h]; exact qEval_bad s x w 3 hs h
  · rw [h]; exact qEval_bad s x w 4 hs h
  · rw [h]; exact qEval_good s x w us h

set_option maxHeartbeats 400000 in
theorem aEval_any (s : ByteArray) (x : Nat → Int) (w : World) (hs : s.size ≤ maxLen) :
    Calls Try.prog 12 #[.string s, .agg #[.int .i32 (x 0), .int .i32 (x 1), .int .i32 (x 2), .int .i32 (x 3), .int .i32 (x 4), .int .i32 (x 5), .int .i32 (x 6), .int .i32 (x 7)]] w fun e w' =>
      e = .returned (.tuple #[.int .i32 (evalL x (Q.readL s.data.toList).2), .int .i64 (Q.readL s.data.toList).1]) ∧ Below w.heap.size w w' := by
  go_enter Try.func12, Try.ntmps12
  go_wp2_with (go_at_call 27; refine (qEval_any s x _ hs).mono ?_; rintro e w1 ⟨rfl, hb⟩)
  go_ret2
  exact ⟨rfl, (((Below.refl _ _).alloc (Nat.le_refl _) _).trans (hb.mono (by simp)))⟩

end Go.Proofs.Ytpfcacedpkaihaa
