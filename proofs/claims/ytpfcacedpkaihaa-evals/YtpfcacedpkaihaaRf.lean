/- What the document's own Eval answers (package almanacref), and the law Evals, walked. -/
import Derived.Test.YtpfcacedpkaihaaRe
import Derived.Test.YtpfcacedpkaihaaQf
namespace Go.Proofs.Ytpfcacedpkaihaa
open Go.RowKit

set_option maxHeartbeats 1000000 in
theorem rEval_bad (s : ByteArray) (x : Nat → Int) (w : World) (er : Int) (hs : s.size ≤ maxLen) (hr : Q.readL s.data.toList = (er, [])) :
    Calls Try.prog 13 #[.string s, .agg #[.int .i32 (x 0), .int .i32 (x 1), .int .i32 (x 2), .int .i32 (x 3), .int .i32 (x 4), .int .i32 (x 5), .int .i32 (x 6), .int .i32 (x 7)]] w fun e w' =>
      e = .returned (.tuple #[.int .i32 0, .int .i64 er]) ∧ Below w.heap.size w w' := by
  have HR : Hid (Q.readL s.data.toList = (er, [])) := hr
  clear hr
  go_enter Try.func13, Try.ntmps13
  go_wp2_with (go_at_call 25; refine (rread_bad s _ er hs HR.out).mono ?_; rintro e w1 ⟨rfl, he, hb⟩)
  go_ret2
  exact ⟨rfl, (((Below.refl _ _).alloc (Nat.le_refl _) _).trans (hb.mono (by simp)))⟩

set_option maxHeartbeats 1000000 in
theorem rEval_good (s : ByteArray) (x : Nat → Int) (w : World) (ts : List (Nat × Nat)) (hx : ∀ k, -2147483648 ≤ x k ∧ x k < 2147483648) (hr : Q.readL s.data.toList = (0, ts)) :
    Calls Try.prog 13 #[.string s, .agg #[.int .i32 (x 0), .int .i32 (x 1), .int .i32 (x 2), .int .i32 (x 3), .int .i32 (x 4), .int .i32 (x 5), .int .i32 (x 6), .int .i32 (x 7)]] w fun e w' =>
      e = .returned (.tuple #[.int .i32 (evalL x ts), .int .i64 0]) ∧ Below w.heap.size w w' := by
  have HR : Hid (Q.readL s.data.toList = (0, ts)) := hr
  obtain ⟨hne, h8, hks⟩ : ts ≠ [] ∧ ts.length ≤ 8 ∧ ∀ t ∈ ts, t.1 ≤ 3 ∧ t.2 ≤ 7 := by
    rcases Q.readL_cases s.data.toList with h | h | ⟨us, h, r⟩
    · rw [h] at hr; simp at hr
    · rw [h] at hr; simp at hr
    · rw [h] at hr; simp at hr; subst hr; exact r
  have HKS : Hid (∀ t ∈ ts, t.1 ≤ 3 ∧ t.2 ≤ 7) := hks
  have HX : Hid (∀ k, -2147483648 ≤ x k ∧ x k < 2147483648) := hx
  clear hr hne hks hx
  go_enter Try.func13, Try.ntmps13
  go_wp2_with (first
    | (go_at_call 25; refine (rread_good s _ ts HR.out).mono ?_; rintro e w1 ⟨g, cap, rfl, hg, hl, hb⟩; have HB : Hid (∀ k, k ≤ 7 → w1.cell? ⟨w.heap.size, k, none⟩ = some (.int .i32 (x k))) := fun k hk => (hb.cell (p := ⟨w.heap.size, k, none⟩) (by simp)).trans (box8 x w _ k hk); have c0 := HB.out 0 (by omega); have c1 := HB.out 1 (by omega); have c2 := HB.out 2 (by omega); have c3 := HB.out 3 (by omega); have c4 := HB.out 4 (by omega); have c5 := HB.out 5 (by omega); have c6 := HB.out 6 (by omega); have c7 := HB.out 7 (by omega))
    | (go_at_call 28; refine (work_any _ _ ts x _ (by assumption) h8 HKS.out HX.out).mono ?_; rintro e w2 ⟨rfl, hb2⟩))
  go_ret2
  have hb1 : Below w.heap.size w w1 := (((Below.refl _ _).alloc (Nat.le_refl _) _).trans (hb.mono (by simp)))
  exact ⟨rfl, hb1.trans (hb2.mono hb1.size)⟩

theorem rEval_any (s : ByteArray) (x : Nat → Int) (w : World) (hs : s.size ≤ maxLen) (hx : ∀ k, -2147483648 ≤ x k ∧ x k < 2147483648) :
    Calls Try.prog 13 #[.string s, .agg #[.int .i32 (x 0), .int .i32 (x 1), .int .i32 (x 2), .int .i32 (x 3), .int .i32 (x 4), .int .i32 (x 5), .int .i32 (x 6), .int .i32 (x 7)]] w fun e w' =>
      e = .returned (.tuple #[.int .i32 (evalL x (Q.readL s.data.toList).2), .int .i64 (Q.readL s.data.toList).1]) ∧ Below w.heap.size w w' := by
  rcases Q.readL_cases s.data.toList with h | h | ⟨us, h, r⟩
  · rw [h]; exact rEval_bad s x w 3 hs h
  · rw [h]; exact rEval_bad s x w 4 hs h
  · rw [h]; exact rEval_good s x w us hx h

set_option maxHeartbeats 1000000 in
theorem evals_any (s : ByteArray) (x : Nat → Int) (w : World) (hs : s.size ≤ maxLen) (hx : ∀ k, -2147483648 ≤ x k ∧ x k < 2147483648) :
    Calls Try.prog 4 #[.string s, .agg #[.int .i32 (x 0), .int .i32 (x 1), .int .i32 (x 2), .int .i32 (x 3), .int .i32 (x 4), .int .i32 (x 5), .int .i32 (x 6), .int .i32 (x 7)]] w fun e w' =>
      e = .returned (.bool true) ∧ Below w.heap.size w w' := by
  have hp := fun W => aEval_any s x W hs
  have hq := fun W => rEval_any s x W hs hx
  obtain ⟨K, E, hK⟩ : ∃ K E : Int, K = evalL x (Q.readL s.data.toList).2 ∧ E = (Q.readL s.data.toList).1 := ⟨_, _, rfl, rfl⟩
  rw [← hK.1, ← hK.2] at hp hq
  have HP : Hid (∀ W, Calls Try.prog 12 #[.string s, .agg #[.int .i32 (x 0), .int .i32 (x 1), .int .i32 (x 2), .int .i32 (x 3), .int .i32 (x 4), .int .i32 (x 5), .int .i32 (x 6), .int .i32 (x 7)]] W fun e w' => e = .returned (.tuple #[.int .i32 K, .int .i64 E]) ∧ Below W.heap.size W w') := hp
  have HQ : Hid (∀ W, Calls Try.prog 13 #[.string s, .agg #[.int .i32 (x 0), .int .i32 (x 1), .int .i32 (x 2), .int .i32 (x 3), .int .i32 (x 4), .int .i32 (x 5), .int .i32 (x 6), .int .i32 (x 7)]] W fun e w' => e = .returned (.tuple #[.int .i32 K, .int .i64 E]) ∧ Below W.heap.size W w') := hq
  clear hp hq hK hx
  go_enter Try.func4, Try.ntmps4
  go_wp2_with (first
    | (go_at_call 12; refine (HP.out _).mono ?_; rintro e w1 ⟨rfl, hb⟩; have HB : Hid (∀ k, k ≤ 7 → w1.cell? ⟨w.heap.size, k, none⟩ = some (.int .i32 (x k))) := fun k hk => (hb.cell (p := ⟨w.heap.size, k, none⟩) (by simp)).trans (box8 x w _ k hk); have c0 := HB.out 0 (by omega); have c1 := HB.out 1 (by omega); have c2 := HB.out 2 (by omega); have c3 := HB.out 3 (by omega); have c4 := HB.out 4 (by omega); have c5 := HB.out 5 (by omega); have c6 := HB.out 6 (by omega); have c7 := HB.out 7 (by omega))
    | (go_at_call 13; refine (HQ.out _).mono ?_; rintro e w2 ⟨rfl, hb2⟩))
  go_ret
  have hb1 : Below w.heap.size w w1 := (((Below.refl _ _).alloc (Nat.le_refl _) _).trans (hb.mono (by simp)))
  exact ⟨rfl, hb1.trans (hb2.mono hb1.size)⟩

end Go.Proofs.Ytpfcacedpkaihaa
