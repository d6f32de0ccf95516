/- The nine queries of the law Words: what each is cut into, and what it is worth in every state. -/
import Derived.Test.YtpfcacedpkaihaaQf
namespace Go.Proofs.Ytpfcacedpkaihaa
open Go.RowKit

def qs : Nat → ByteArray
  | 0 => ⟨#[97]⟩
  | 1 => ⟨#[97, 43, 98]⟩
  | 2 => ⟨#[97, 45, 98]⟩
  | 3 => ⟨#[97, 195, 151, 98]⟩
  | 4 => ⟨#[97, 195, 183, 98]⟩
  | 5 => ⟨#[97, 43, 98, 195, 151, 99]⟩
  | 6 => ⟨#[97, 195, 183, 98, 45, 99]⟩
  | 7 => ⟨#[97, 45, 97]⟩
  | _ => ⟨#[104]⟩

def quot (x : Nat → Int) : Int := if x 1 = 0 then 0 else wrap32 ((x 0).tdiv (x 1))

def wants (x : Nat → Int) : Nat → Int
  | 0 => x 0
  | 1 => wrap32 (x 0 + x 1)
  | 2 => wrap32 (x 0 - x 1)
  | 3 => wrap32 (x 0 * x 1)
  | 4 => quot x
  | 5 => wrap32 (wrap32 (x 0 + x 1) * x 2)
  | 6 => wrap32 (quot x - x 2)
  | 7 => 0
  | _ => x 7

theorem first32 (a : Int) (h : -2147483648 ≤ a ∧ a < 2147483648) : step32 0 0 a = a := by
  simp only [step32, if_true, Int.zero_add, wrap32]; omega

theorem wrap_zero : wrap32 0 = 0 := by simp [wrap32]

theorem words_eval (x : Nat → Int) (h : ∀ k, -2147483648 ≤ x k ∧ x k < 2147483648) (j : Nat) (hj : j < 9) :
    (Q.readL (qs j).data.toList).1 = 0 ∧ evalL x (Q.readL (qs j).data.toList).2 = wants x j := by
  have hc : j = 0 ∨ j = 1 ∨ j = 2 ∨ j = 3 ∨ j = 4 ∨ j = 5 ∨ j = 6 ∨ j = 7 ∨ j = 8 := by omega
  have f0 := first32 (x 0) (h 0)
  have f7 := first32 (x 7) (h 7)
  rcases hc with rfl | rfl | rfl | rfl | rfl | rfl | rfl | rfl | rfl
  · exact ⟨by decide, f0⟩
  · refine ⟨by decide, ?_⟩
    show step32 (step32 0 0 (x 0)) 0 (x 1) = _
    rw [f0]; simp [step32, wants]
  · refine ⟨by decide, ?_⟩
    show step32 (step32 0 0 (x 0)) 1 (x 1) = _
    rw [f0]; simp [step32, wants]
  · refine ⟨by decide, ?_⟩
    show step32 (step32 0 0 (x 0)) 2 (x 1) = _
    rw [f0]; simp [step32, wants]
  · refine ⟨by decide, ?_⟩
    show step32 (step32 0 0 (x 0)) 3 (x 1) = _
    rw [f0]; simp [step32, wants, quot]
  · refine ⟨by decide, ?_⟩
    show step32 (step32 (step32 0 0 (x 0)) 0 (x 1)) 2 (x 2) = _
    rw [f0]; simp [step32, wants]
  · refine ⟨by decide, ?_⟩
    show step32 (step32 (step32 0 0 (x 0)) 3 (x 1)) 1 (x 2) = _
    rw [f0]; simp [step32, wants, quot]
  · refine ⟨by decide, ?_⟩
    show step32 (step32 0 0 (x 0)) 1 (x 0) = _
    rw [f0]; simp [step32, wants, wrap_zero]
  · exact ⟨by decide, f7⟩

theorem qs_size (j : Nat) : (qs j).size ≤ maxLen := by
  unfold qs maxLen
  split <;> decide

end Go.Proofs.Ytpfcacedpkaihaa
