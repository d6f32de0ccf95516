/- The document's answering over a node that remembers nothing (package almanacref), walked. -/
import Derived.Test.YtkednbbjofeecaaGreatHd
namespace Go.Proofs.YtkednbbjofeecaaGreat
open Go.RowKit

set_option maxRecDepth 100000 in
set_option maxHeartbeats 2000000 in
/-- a node that remembers nothing answers nothing. -/
theorem ranswering_none (w : World) (up : Bool) (since hz : Nat) (fl wt nm : Value) (ao : Option Addr) (cap : Nat) (q : ByteArray) (lo hi : Nat) :
    Calls Tryz.prog 89 #[.agg #[.bool up, .int .u64 since, .int .u64 hz, fl, wt, .slice ao 0 cap, nm], .string q, .agg #[.int .u64 lo, .int .u64 hi]] w fun e w' =>
      e = .returned (.int .i64 (-1)) ∧ Below w.heap.size w w' := by
  go_enter Tryz.func89, Tryz.ntmps89
  go_wp2
  go_loopw [7, 8] (fun v i wr => v = .int .i64 (-1) ∧ i = .int .i64 0 ∧ wr = (w.alloc (.cells #[.bool up, .int .u64 since, .int .u64 hz, fl, wt, .slice ao 0 cap, nm] 135)).alloc (.cells #[.int .u64 lo, .int .u64 hi] 88)) (fun _ _ _ => 0)
  case atStart => exact ⟨rfl, rfl, rfl⟩
  case round =>
    obtain ⟨rfl, rfl, rfl⟩ := hrel
    go_wp2
    go_ret
    exact ⟨rfl, ((Below.refl _ _).alloc (Nat.le_refl _) _).alloc (by simp) _⟩

end Go.Proofs.YtkednbbjofeecaaGreat
