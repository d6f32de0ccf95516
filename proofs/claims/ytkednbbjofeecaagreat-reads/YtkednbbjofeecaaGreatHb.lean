/- The document's both and without (package almanacref), walked. -/
import Derived.Test.YtkednbbjofeecaaGreatHa
import Derived.Laws.AppendOwnNone
namespace Go.Proofs.YtkednbbjofeecaaGreat
open Go.RowKit

set_option maxHeartbeats 1000000 in
theorem rboth (w : World) (a b c d : Nat) :
    Calls Tryz.prog 90 #[.agg #[.int .u64 a, .int .u64 b], .agg #[.int .u64 c, .int .u64 d]] w fun e w' =>
      e = .returned (.tuple #[.agg #[.int .u64 ((max a c : Nat) : Int), .int .u64 ((min b d : Nat) : Int)], .bool (decide (((max a c : Nat) : Int) ≤ ((min b d : Nat) : Int)))]) ∧ Below w.heap.size w w' := by
  obtain ⟨x, hx⟩ : ∃ x, x = max a c := ⟨_, rfl⟩
  obtain ⟨y, hy⟩ : ∃ y, y = min b d := ⟨_, rfl⟩
  rw [← hx, ← hy]
  by_cases h1 : a < c
  · by_cases h2 : d < b
    · obtain rfl : x = c := by omega
      obtain rfl : y = d := by omega
      clear hx hy
      go_enter Tryz.func90, Tryz.ntmps90
      go_wp2
      go_region
      all_goals
        go_wp2
        refine bodyPost_ret (v := .tuple #[.agg #[.int .u64 (x : Int), .int .u64 (y : Int)], .bool (decide ((x : Int) ≤ (y : Int)))]) (by simp [results, Tryz.results90, go_sem]) rfl ⟨rfl, ?_⟩
        exact ((((Below.refl _ _).alloc (Nat.le_refl _) _).alloc (by simp) _).alloc (by simp; omega) _).drew
    · obtain rfl : x = c := by omega
      obtain rfl : y = b := by omega
      clear hx hy
      go_enter Tryz.func90, Tryz.ntmps90
      go_wp2
      go_region
      all_goals
        go_wp2
        refine bodyPost_ret (v := .tuple #[.agg #[.int .u64 (x : Int), .int .u64 (y : Int)], .bool (decide ((x : Int) ≤ (y : Int)))]) (by simp [results, Tryz.results90, go_sem]) rfl ⟨rfl, ?_⟩
        exact ((((Below.refl _ _).alloc (Nat.le_refl _) _).alloc (by simp) _).alloc (by simp; omega) _).drew
  · by_cases h2 : d < b
    · obtain rfl : x = a := by omega
      obtain rfl : y = d := by omega
      clear hx hy
      go_enter Tryz.func90, Tryz.ntmps90
      go_wp2
      go_region
      all_goals
        go_wp2
        refine bodyPost_ret (v := .tuple #[.agg #[.int .u64 (x : Int), .int .u64 (y : Int)], .bool (decide ((x : Int) ≤ (y : Int)))]) (by simp [results, Tryz.results90, go_sem]) rfl ⟨rfl, ?_⟩
        exact ((((Below.refl _ _).alloc (Nat.le_refl _) _).alloc (by simp) _).alloc (by simp; omega) _).drew
    · obtain rfl : x = a := by omega
      obtain rfl : y = b := by omega
      clear hx hy
      go_enter Tryz.func90, Tryz.ntmps90
      go_wp2
      go_region
      all_goals
        go_wp2
        refine bodyPost_ret (v := .tuple #[.agg #[.int .u64 (x : Int), .int .u64 (y : Int)], .bool (decide ((x : Int) ≤ (y : Int)))]) (by simp [results, Tryz.results90, go_sem]) rfl ⟨rfl, ?_⟩
        exact ((((Below.refl _ _).alloc (Nat.le_refl _) _).alloc (by simp) _).alloc (by simp; omega) _).drew

end Go.Proofs.YtkednbbjofeecaaGreat
