/- What package queries' apply and bit answer. -/
import Derived.Test.YtpfcacedpkaihaaQb
namespace Go.Proofs.Ytpfcacedpkaihaa
open Go.RowKit

/-- one sign, in int32. -/
def step32 (v : Int) (sg : Nat) (x : Int) : Int :=
  if sg = 0 then wrap32 (v + x) else if sg = 1 then wrap32 (v - x) else if sg = 2 then wrap32 (v * x) else if x = 0 then 0 else wrap32 (v.tdiv x)

theorem ret_int {k : IntKind} {a b : Int} (h : a = b) : Ending.returned (.int k a) = .returned (.int k b) := by rw [h]

set_option maxHeartbeats 400000 in
theorem apply_any (a b : Int) (sg : Nat) (w : World) (hs : sg ≤ 3) :
    Calls Try.prog 42 #[.int .i32 a, .int .i64 sg, .int .i32 b] w fun e w' => e = .returned (.int .i32 (step32 a sg b)) ∧ w = w' := by
  have hc : sg = 0 ∨ sg = 1 ∨ sg = 2 ∨ (sg = 3 ∧ b = 0) ∨ (sg = 3 ∧ b ≠ 0) := by omega
  rcases hc with rfl | rfl | rfl | ⟨rfl, hb⟩ | ⟨rfl, hb⟩
  · go_enter Try.func42, Try.ntmps42
    go_wp2
    go_ret
    exact ⟨ret_int (by simp [step32]), rfl⟩
  · go_enter Try.func42, Try.ntmps42
    go_wp2
    go_ret
    exact ⟨ret_int (by simp [step32]), rfl⟩
  · go_enter Try.func42, Try.ntmps42
    go_wp2
    go_ret
    exact ⟨ret_int (by simp [step32]), rfl⟩
  · have hz : (b == 0) = true := by simpa using hb
    subst hb
    go_enter Try.func42, Try.ntmps42
    go_wp2
    go_ret
    exact ⟨ret_int (by simp [step32]), rfl⟩
  · have hz : (b == 0) = false := by simpa using hb
    go_enter Try.func42, Try.ntmps42
    go_wp2
    go_ret
    exact ⟨ret_int (by simp [step32, hb]), rfl⟩

/-- the set of one key. -/
def bitN (k : Nat) : Int := if k = 0 then 1 else if k = 1 then 2 else if k = 2 then 4 else if k = 3 then 8 else if k = 4 then 16 else if k = 5 then 32 else if k = 6 then 64 else 128

set_option maxHeartbeats 1000000 in
theorem bit_any (k : Nat) (w : World) (hk : k ≤ 7) :
    Calls Try.prog 40 #[.int .i64 k] w fun e w' => e = .returned (.int .u8 (bitN k)) ∧ w = w' := by
  have hc : k = 0 ∨ k = 1 ∨ k = 2 ∨ k = 3 ∨ k = 4 ∨ k = 5 ∨ k = 6 ∨ k = 7 := by omega
  rcases hc with rfl | rfl | rfl | rfl | rfl | rfl | rfl | rfl
  all_goals
    go_enter Try.func40, Try.ntmps40
    go_wp2
    go_ret
    exact ⟨ret_int (by decide), rfl⟩

end Go.Proofs.Ytpfcacedpkaihaa
