/- The law's entryMark, and the great statement of book.entries (package almanaclaw): what is known within it. -/
import Derived.Test.YtkednbbjofeecaaGreatLp0
import Derived.Test.YtkednbbjofeecaaGreatLe
import Derived.Deep.DeepCutAuto
namespace Go.Proofs.YtkednbbjofeecaaGreat
open Go.RowKit

/-- the text of the marks. -/
def mq : ByteArray := ⟨#[40, 109, 105, 110, 101, 41]⟩
def markE (i : Nat) : Array Value := #[.string mq, .int .i32 0, .int .u64 0, .int .u64 (i : Int), .bool false, .int .u64 0]

set_option maxHeartbeats 1000000 in
theorem rentryMark (w : World) (i : Nat) (hi : i ≤ 4611686018427387904) :
    Calls Tryz.prog 19 #[.int .i64 (i : Int)] w fun e w' => e = .returned (.agg #[.string mq, .int .i32 0, .int .u64 0, .int .u64 (i : Int), .bool false, .int .u64 0]) ∧ Kept (fun _ => False) w w' := by
  go_enter Tryz.func19, Tryz.ntmps19
  go_wp2
  refine bodyPost_ret (v := .agg #[.string mq, .int .i32 0, .int .u64 0, .int .u64 (i : Int), .bool false, .int .u64 0]) (by simp [results, Tryz.results19, go_sem, mq]) rfl ⟨rfl, Kept.alloc _ _ _⟩

/-- k marks, one behind the other. -/
def marksL (i : Nat) : Nat → List Value
  | 0 => []
  | k + 1 => (markE i).toList ++ marksL i k

def IsB (w0 : World) (i k : Nat) (w : World) (x : Value) : Prop := ∃ gb, x = .slice (some ⟨gb, 0, none⟩) k k ∧ w0.heap.size ≤ gb ∧ Blk w gb 55 (marksL i k).toArray
def IsA (w0 : World) (lo : Option Addr) (m lc k : Nat) (w : World) (x : Value) : Prop :=
  ∃ g cap, x = .slice (some ⟨g, 0, none⟩) (m + k) cap ∧ ((lo = some ⟨g, 0, none⟩ ∧ m + k ≤ lc) ∨ (w0.heap.size ≤ g ∧ ∃ c, Blk w g 55 c ∧ (m + k) * 6 ≤ c.size))
def IsN (w0 : World) (lo : Option Addr) (m lc : Nat) (w : World) (x : Value) : Prop :=
  ∃ N a1 a2 a3, x = .slice (some ⟨N, 0, none⟩) 4 4 ∧ w0.heap.size ≤ N ∧ Blk w N 51 #[.slice lo m lc, a1, a2, a3] ∧ IsA w0 lo m lc 1 w a1 ∧ IsA w0 lo m lc 2 w a2 ∧ IsA w0 lo m lc 3 w a3

def VE (w0 : World) (lo : Option Addr) (m lc i : Nat) : Nat → World → Value → Prop
  | 0 => fun _ x => x = .slice lo m lc
  | 1 => fun _ x => x = .slice lo m lc
  | 2 => fun _ x => x = .agg (markE i)
  | 3 => IsB w0 i 1
  | 4 => IsA w0 lo m lc 1
  | 5 => fun _ x => x = .slice lo m lc
  | 6 => fun _ x => x = .agg (markE i)
  | 7 => fun _ x => x = .agg (markE i)
  | 8 => IsB w0 i 2
  | 9 => IsA w0 lo m lc 2
  | 10 => fun _ x => x = .slice lo m lc
  | 11 => fun _ x => x = .agg (markE i)
  | 12 => fun _ x => x = .agg (markE i)
  | 13 => fun _ x => x = .agg (markE i)
  | 14 => IsB w0 i 3
  | 15 => IsA w0 lo m lc 3
  | _ => IsN w0 lo m lc

def dstE (i : Nat) : Nat := if i = 17 then 5 else 14 + i

structure SE (w0 : World) (lo : Option Addr) (m lc i zb : Nat) (xs : List Value) (w : World) : Prop where
  kept : Kept (fun k => (Value.slice lo m lc).ownBlock = some k) w0 w
  row : Row w 55 6 (.slice lo m lc) m xs
  z : Blk w zb 55 (markE i)

theorem VE.mono {w0 w w' : World} {lo : Option Addr} {m lc i : Nat} (hl : ∀ k, (Value.slice lo m lc).ownBlock = some k → k < w0.heap.size) (k : Kept (fun k => (Value.slice lo m lc).ownBlock = some k) w w') : ∀ j x, VE w0 lo m lc i j w x → VE w0 lo m lc i j w' x := by
  have fb : ∀ q x, IsB w0 i q w x → IsB w0 i q w' x := by
    rintro q x ⟨gb, h1, h2, h3⟩
    exact ⟨gb, h1, h2, h3.kept k fun h => by have := hl _ h; omega⟩
  have fa : ∀ q x, IsA w0 lo m lc q w x → IsA w0 lo m lc q w' x := by
    rintro q x ⟨g, cap, h1, h2 | ⟨h2, c, h3, h4⟩⟩
    · exact ⟨g, cap, h1, .inl h2⟩
    · exact ⟨g, cap, h1, .inr ⟨h2, c, h3.kept k fun h => by have := hl _ h; omega, h4⟩⟩
  have fn : ∀ x, IsN w0 lo m lc w x → IsN w0 lo m lc w' x := by
    rintro x ⟨N, a1, a2, a3, h1, h2, h3, h4, h5, h6⟩
    exact ⟨N, a1, a2, a3, h1, h2, h3.kept k fun h => by have := hl _ h; omega, fa _ _ h4, fa _ _ h5, fa _ _ h6⟩
  intro j x h
  match j, h with
  | 0, h => exact h
  | 1, h => exact h
  | 2, h => exact h
  | 3, h => exact fb _ _ h
  | 4, h => exact fa _ _ h
  | 5, h => exact h
  | 6, h => exact h
  | 7, h => exact h
  | 8, h => exact fb _ _ h
  | 9, h => exact fa _ _ h
  | 10, h => exact h
  | 11, h => exact h
  | 12, h => exact h
  | 13, h => exact h
  | 14, h => exact fb _ _ h
  | 15, h => exact fa _ _ h
  | _ + 16, h => exact fn _ h

theorem SE.alloc {w0 w : World} {lo : Option Addr} {m lc i zb : Nat} {xs : List Value} (h : SE w0 lo m lc i zb xs w) (o : Obj) : SE w0 lo m lc i zb xs (w.alloc o) :=
  ⟨h.kept.trans (Kept.alloc w o (fun _ => False)) (fun _ => id) (fun _ _ => False.elim), h.row.kept (Kept.alloc w o (fun _ => False)) (fun _ _ => id), h.z.kept (Kept.alloc w o (fun _ => False)) id⟩

theorem SE.app {w0 w w' : World} {lo : Option Addr} {m lc i zb k : Nat} {xs : List Value} {v' : Value} (h : SE w0 lo m lc i zb xs w) (hz : (Value.slice lo m lc).ownBlock ≠ some zb) (hk : Lies' w (.slice lo m lc) m k v' w') (hr : Row w' 55 6 (.slice lo m lc) m xs) :
    SE w0 lo m lc i zb xs w' ∧ Kept (fun k => (Value.slice lo m lc).ownBlock = some k) w w' ∧ IsA w0 lo m lc k w' v' := by
  rcases hk with ⟨g, cap, e1, e2, e3, hk⟩ | ⟨g, cap, c, e1, hg, hb, hc, hk⟩
  · injection e1 with q1 _ q2
    subst q1 q2
    have hk' : Kept (fun k => (Value.slice (some ⟨g, 0, none⟩) m lc).ownBlock = some k) w w' := hk.mono fun x hx => by rw [hx]; rfl
    exact ⟨⟨h.kept.trans hk' (fun _ => id) (fun _ _ => id), hr, h.z.kept hk' hz⟩, hk', g, lc, e3, .inl ⟨rfl, e2⟩⟩
  · have hk' : Kept (fun k => (Value.slice lo m lc).ownBlock = some k) w w' := hk.mono fun _ => False.elim
    exact ⟨⟨h.kept.trans hk' (fun _ => id) (fun _ _ => id), hr, h.z.kept hk' hz⟩, hk', g, cap, e1, .inr ⟨Nat.le_trans h.kept.size hg, c, hb, hc⟩⟩

end Go.Proofs.YtkednbbjofeecaaGreat
