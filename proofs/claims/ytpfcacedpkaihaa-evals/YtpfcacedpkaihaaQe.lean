/- What package queries' Eval answers at every text in every state. -/
import Derived.Test.YtpfcacedpkaihaaQd
import Derived.Deep.QuietTactic
import Derived.BigQuiet
namespace Go.Proofs.Ytpfcacedpkaihaa
open Go.RowKit

/-- what some terms are worth in a state. -/
def evalL (x : Nat → Int) (ts : List (Nat × Nat)) : Int := ts.foldl (fun v t => step32 v t.1 (x t.2)) 0
theorem evalL_snoc (x : Nat → Int) (ts : List (Nat × Nat)) (j : Nat) (h : j < ts.length) : evalL x (ts.take (j + 1)) = step32 (evalL x (ts.take j)) ts[j].1 (x ts[j].2) := by
  rw [evalL, List.take_succ_eq_append_getElem h, List.foldl_append]; rfl

theorem box8 (x : Nat → Int) (w : World) (E : TypeId) (k : Nat) (hk : k ≤ 7) :
    (w.alloc (.cells #[.int .i32 (x 0), .int .i32 (x 1), .int .i32 (x 2), .int .i32 (x 3), .int .i32 (x 4), .int .i32 (x 5), .int .i32 (x 6), .int .i32 (x 7)] E)).cell? ⟨w.heap.size, k, none⟩ = some (.int .i32 (x k)) := by
  have hc : k = 0 ∨ k = 1 ∨ k = 2 ∨ k = 3 ∨ k = 4 ∨ k = 5 ∨ k = 6 ∨ k = 7 := by omega
  rcases hc with rfl | rfl | rfl | rfl | rfl | rfl | rfl | rfl <;> simp

set_option maxHeartbeats 1000000 in
theorem qEval_bad (s : ByteArray) (x : Nat → Int) (w : World) (er : Int) (hs : s.size ≤ maxLen) (hr : Q.readL s.data.toList = (er, [])) :
    Calls Try.prog 27 #[.string s, .agg #[.int .i32 (x 0), .int .i32 (x 1), .int .i32 (x 2), .int .i32 (x 3), .int .i32 (x 4), .int .i32 (x 5), .int .i32 (x 6), .int .i32 (x 7)]] w fun e w' =>
      e = .returned (.tuple #[.int .i32 0, .int .i64 er]) ∧ Below w.heap.size w w' := by
  have HR : Hid (Q.readL s.data.toList = (er, [])) := hr
  clear hr
  go_enter Try.func27, Try.ntmps27
  go_wp2_with (go_at_call 39; refine (read_bad s _ er hs HR.out).mono ?_; rintro e w1 ⟨rfl, he, hb⟩)
  go_ret2
  exact ⟨rfl, (((Below.refl _ _).alloc (Nat.le_refl _) _).trans (hb.mono (by simp)))⟩

set_option maxHeartbeats 1000000 in
theorem qEval_good (s : ByteArray) (x : Nat → Int) (w : World) (ts : List (Nat × Nat)) (hr : Q.readL s.data.toList = (0, ts)) :
    Calls Try.prog 27 #[.string s, .agg #[.int .i32 (x 0), .int .i32 (x 1), .int .i32 (x 2), .int .i32 (x 3), .int .i32 (x 4), .int .i32 (x 5), .int .i32 (x 6), .int .i32 (x 7)]] w fun e w' =>
      e = .returned (.tuple #[.int .i32 (evalL x ts), .int .i64 0]) ∧ Below w.heap.size w w' := by
  have HR : Hid (Q.readL s.data.toList = (0, ts)) := hr
  obtain ⟨hne, h8, hks⟩ : ts ≠ [] ∧ ts.length ≤ 8 ∧ ∀ t ∈ ts, t.1 ≤ 3 ∧ t.2 ≤ 7 := by
    rcases Q.readL_cases s.data.toList with h | h | ⟨us, h, r⟩
    · rw [h] at hr; simp at hr
    · rw [h] at hr; simp at hr
    · rw [h] at hr; simp at hr; subst hr; exact r
  have HKS : Hid (∀ t ∈ ts, t.1 ≤ 3 ∧ t.2 ≤ 7) := hks
  clear hr hne hks
  go_enter Try.func27, Try.ntmps27
  go_wp2_with (go_at_call 39; refine (read_good s _ ts HR.out).mono ?_; rintro e w1 ⟨g, cap, rfl, hg, hl, hb⟩)
  have hsz : w.heap.size < w1.heap.size := by have := hb.size; simp at this; omega
  have HX : Hid (∀ k, k ≤ 7 → w1.cell? ⟨w.heap.size, k, none⟩ = some (.int .i32 (x k))) := fun k hk => (hb.cell (p := ⟨w.heap.size, k, none⟩) (by simp)).trans (box8 x w _ k hk)
  have hb1 : Below w.heap.size w w1 := (((Below.refl _ _).alloc (Nat.le_refl _) _).trans (hb.mono (by simp)))
  clear hb
  go_loopw [8, 21] (fun v i wr => ∃ k : Nat, k ≤ ts.length ∧ i = .int .i64 k ∧ v = .int .i32 (evalL x (ts.take k)) ∧ Below w1.heap.size w1 wr)
    (fun _ i _ => ts.length - (intOf i).toNat)
  case atStart => exact ⟨0, Nat.zero_le _, rfl, rfl, Below.refl _ _⟩
  case round =>
    obtain ⟨k, hk, rfl, rfl, hnx⟩ := hrel
    by_cases hlt : k < ts.length
    · have hl2 := hl.below hnx
      have hsg := hl2.sign k hlt
      have hky := hl2.key k hlt
      obtain ⟨hm3, hm7⟩ := HKS.out ts[k] (List.getElem_mem hlt)
      have hx : wr.cell? ⟨w.heap.size, ts[k].2, none⟩ = some (.int .i32 (x ts[k].2)) := (hnx.cell (p := ⟨w.heap.size, ts[k].2, none⟩) hsz).trans (HX.out _ hm7)
      have HE : Hid (evalL x (ts.take (k + 1)) = step32 (evalL x (ts.take k)) ts[k].1 (x ts[k].2)) := evalL_snoc x ts k hlt
      have hz : w.heap.size < wr.heap.size := by have := hnx.size; omega
      have hgz : g < wr.heap.size := hl2.lt
      go_wp2
      go_quiet ((go_at_call 42; exact Calls.quiet_of_same ((apply_any _ _ _ _ hm3).mono (fun _ _ h => ⟨h.1, h.2.symm⟩))))
      go_wp2
      go_roundw
      case rel => exact ⟨k + 1, by omega, by go_num, by rw [HE.out], below_drewN (hnx.alloc (by have := hnx.size; omega) _) _⟩
      case measure => simp [intOf]; omega
    · go_wp2
      go_ret2
      have hz : k = ts.length := by omega
      subst hz
      exact ⟨by simp, hb1.trans (hnx.mono (by omega))⟩

end Go.Proofs.Ytpfcacedpkaihaa
