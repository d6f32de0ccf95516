/- What the document's own Parse answers (package almanacref). -/
import Derived.Test.YtpfcacedpkaihaaRc
import Derived.Test.YtpfcacedpkaihaaQh
namespace Go.Proofs.Ytpfcacedpkaihaa
open Go.RowKit

set_option maxHeartbeats 1000000 in
theorem rParse_bad (s : ByteArray) (w : World) (er : Int) (hs : s.size ≤ maxLen) (hr : Q.readL s.data.toList = (er, [])) :
    Calls Try.prog 11 #[.string s] w fun e w' => e = .returned (.tuple #[.agg #[.int .u8 0, .int .i64 0], .int .i64 er]) ∧ Below w.heap.size w w' := by
  have HR : Hid (Q.readL s.data.toList = (er, [])) := hr
  clear hr
  go_enter Try.func11, Try.ntmps11
  go_wp2_with (go_at_call 25; refine (rread_bad s _ er hs HR.out).mono ?_; rintro e w1 ⟨rfl, he, hb⟩; have hc0 := hb.cell (p := ⟨w.heap.size, 0, none⟩) (by simp); have hc1 := hb.cell (p := ⟨w.heap.size, 1, none⟩) (by simp); have hf0 := hb.frozen (p := ⟨w.heap.size, 0, none⟩) (by simp); have hf1 := hb.frozen (p := ⟨w.heap.size, 1, none⟩) (by simp); simp [go_sem] at hc0 hc1 hf0 hf1)
  refine bodyPost_ret (v := .tuple #[.agg #[.int .u8 0, .int .i64 0], .int .i64 er]) (by simp [results, Try.results11, go_sem, hc0, hc1]) rfl ⟨rfl, ?_⟩
  exact (((((Below.refl _ _).alloc (Nat.le_refl _) _).trans (hb.mono (by simp))).setCell (Nat.le_refl _) _).setCell (Nat.le_refl _) _)

set_option maxHeartbeats 1000000 in
theorem rParse_good (s : ByteArray) (w : World) (ts : List (Nat × Nat)) (hr : Q.readL s.data.toList = (0, ts)) :
    Calls Try.prog 11 #[.string s] w fun e w' => e = .returned (.tuple #[.agg #[.int .u8 (keysL ts), .int .i64 (ts.length : Int)], .int .i64 0]) ∧ Below w.heap.size w w' := by
  have HR : Hid (Q.readL s.data.toList = (0, ts)) := hr
  obtain ⟨hne, h8, hks⟩ : ts ≠ [] ∧ ts.length ≤ 8 ∧ ∀ t ∈ ts, t.1 ≤ 3 ∧ t.2 ≤ 7 := by
    rcases Q.readL_cases s.data.toList with h | h | ⟨us, h, r⟩
    · rw [h] at hr; simp at hr
    · rw [h] at hr; simp at hr
    · rw [h] at hr; simp at hr; subst hr; exact r
  have HKS : Hid (∀ t ∈ ts, t.1 ≤ 3 ∧ t.2 ≤ 7) := hks
  clear hr hne hks
  go_enter Try.func11, Try.ntmps11
  go_wp2_with (first
    | (go_at_call 25; refine (rread_good s _ ts HR.out).mono ?_; rintro e w1 ⟨g, cap, rfl, hg, hl, hb⟩; have hc0 := hb.cell (p := ⟨w.heap.size, 0, none⟩) (by simp); have hc1 := hb.cell (p := ⟨w.heap.size, 1, none⟩) (by simp); have hf0 := hb.frozen (p := ⟨w.heap.size, 0, none⟩) (by simp); have hf1 := hb.frozen (p := ⟨w.heap.size, 1, none⟩) (by simp); simp [go_sem] at hc0 hc1 hf0 hf1)
    | (go_at_call 26; refine (keysOf_any _ _ ts _ (by assumption) h8 HKS.out).mono ?_; rintro e w' ⟨rfl, rfl⟩))
  refine bodyPost_ret (v := .tuple #[.agg #[.int .u8 (keysL ts), .int .i64 (ts.length : Int)], .int .i64 0]) (by simp [results, Try.results11, go_sem, hc0, hc1]) rfl ⟨rfl, ?_⟩
  exact (((((Below.refl _ _).alloc (Nat.le_refl _) _).trans (hb.mono (by simp))).setCell (Nat.le_refl _) _).setCell (Nat.le_refl _) _)

theorem rParse_any (s : ByteArray) (w : World) (hs : s.size ≤ maxLen) :
    Calls Try.prog 11 #[.string s] w fun e w' =>
      e = .returned (.tuple #[.agg #[.int .u8 (keysL (Q.readL s.data.toList).2), .int .i64 ((Q.readL s.data.toList).2.length : Int)], .int .i64 (Q.readL s.data.toList).1]) ∧ Below w.heap.size w w' := by
  rcases Q.readL_cases s.data.toList with h | h | ⟨us, h, r⟩
  · rw [h]; exact rParse_bad s w 3 hs h
  · rw [h]; exact rParse_bad s w 4 hs h
  · rw [h]; exact rParse_good s w us h

set_option maxHeartbeats 1000000 in
theorem parses_any (s : ByteArray) (w : World) (hs : s.size ≤ maxLen) :
    Calls Try.prog 3 #[.string s] w fun e w' => e = .returned (.bool true) ∧ Below w.heap.size w w' := by
  have hp := fun W => aParse_any s W hs
  have hq := fun W => rParse_any s W hs
  obtain ⟨K, T, E, hK⟩ : ∃ K T E : Int, K = keysL (Q.readL s.data.toList).2 ∧ T = ((Q.readL s.data.toList).2.length : Int) ∧ E = (Q.readL s.data.toList).1 := ⟨_, _, _, rfl, rfl, rfl⟩
  rw [← hK.1, ← hK.2.1, ← hK.2.2] at hp hq
  have HP : Hid (∀ W, Calls Try.prog 10 #[.string s] W fun e w' => e = .returned (.tuple #[.agg #[.int .u8 K, .int .i64 T], .int .i64 E]) ∧ Below W.heap.size W w') := hp
  have HQ : Hid (∀ W, Calls Try.prog 11 #[.string s] W fun e w' => e = .returned (.tuple #[.agg #[.int .u8 K, .int .i64 T], .int .i64 E]) ∧ Below W.heap.size W w') := hq
  clear hp hq hK
  go_enter Try.func3, Try.ntmps3
  go_wp2_with (first
    | (go_at_call 10; refine (HP.out _).mono ?_; rintro e w1 ⟨rfl, hb⟩)
    | (go_at_call 11; refine (HQ.out _).mono ?_; rintro e w2 ⟨rfl, hb2⟩; have hz2 : w1.heap.size < w2.heap.size := (by have := hb2.size; simp at this; omega); have hc0 := hb2.cell (p := ⟨w1.heap.size, 0, none⟩) (by simp); have hc1 := hb2.cell (p := ⟨w1.heap.size, 1, none⟩) (by simp); simp [go_sem] at hc0 hc1))
  go_ret
  have hbw : Below w.heap.size w w2 := (hb.alloc hb.size _).trans (hb2.mono (by have := hb.size; simp; omega))
  exact ⟨rfl, hbw.alloc hbw.size _⟩

end Go.Proofs.Ytpfcacedpkaihaa
