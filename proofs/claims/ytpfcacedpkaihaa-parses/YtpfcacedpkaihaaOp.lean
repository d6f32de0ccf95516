/- Opening a state (an array of eight int32) that comes in as an argument. -/
import Derived.Test.YtpfcacedpkaihaaRows
import Derived.WalkKit
import Derived.ProofKit
import Derived.OpenShut
import Derived.ShutString
import Derived.ChangeOld
import Derived.Below
namespace Go.Proofs.Ytpfcacedpkaihaa
open Go.ChangeShapes Go.WideShapes Go.ChangeAt Go.RowKit
set_option maxRecDepth 100000

theorem Try.own : ownKnob Try.prog.godebug = none := by kernel_rfl
theorem Try.laidOut : laidOutB Try.prog = true := by kernel_rfl
theorem Try.cellsState : Try.prog.cellsOf 29 = 8 := by kernel_rfl
theorem Try.cellsI32 : Try.prog.cellsOf 21 = 1 := by kernel_rfl

theorem array8 {cs : Array Value} (h : cs.size = 8) : ∃ a b c d e f g i, cs = #[a, b, c, d, e, f, g, i] := by
  rcases cs with ⟨l⟩
  match l, h with
  | [a, b, c, d, e, f, g, i], _ => exact ⟨a, b, c, d, e, f, g, i, rfl⟩

theorem open_state {H : Type} {enc : TypeId × Value → H} {w : World} {base b0 : Nat} {spare : Nat → Bool} {held : Bool} {v : Value} {d : DataW H} {p : List MemPlace}
    (hv : Value.okWide Try.prog w .any b0 29 v) (h : DataW.Trod enc Try.prog w base spare held 29 v d p) :
    ∃ x : Nat → Int, v = .agg #[.int .i32 (x 0), .int .i32 (x 1), .int .i32 (x 2), .int .i32 (x 3), .int .i32 (x 4), .int .i32 (x 5), .int .i32 (x 6), .int .i32 (x 7)] ∧ ∀ k, -2147483648 ≤ x k ∧ x k < 2147483648 := by
  have hU := Try.underlying29
  simp only [Value.okWide, hU] at hv
  obtain ⟨cs, rfl, hsz, _⟩ := hv
  obtain ⟨a, b, c, d, e, f, g, i, rfl⟩ := array8 (hsz.trans Try.cellsState)
  obtain ⟨fuel, hf⟩ := h
  obtain ⟨xs, m, _, _, _, hxl, hxs⟩ := DataW.trod_array hU hf
  have key : ∀ k : Nat, k < 8 → ∃ n, (([a, b, c, d, e, f, g, i].drop k).take 1) = [Value.int .i32 n] ∧ (Lit.int .i32 n).wf = true := by
    intro k hk
    have h1 := hxs k hk
    rw [Try.cellsI32, Nat.mul_one, List.getElem?_eq_getElem (by omega)] at h1
    obtain ⟨n, e1, _, e3⟩ := DataW.trod_int Try.underlying21 h1
    exact ⟨n, by simpa [Value.cells] using e1, e3⟩
  obtain ⟨n0, e0, w0⟩ := key 0 (by omega)
  obtain ⟨n1, e1, w1⟩ := key 1 (by omega)
  obtain ⟨n2, e2, w2⟩ := key 2 (by omega)
  obtain ⟨n3, e3, w3⟩ := key 3 (by omega)
  obtain ⟨n4, e4, w4⟩ := key 4 (by omega)
  obtain ⟨n5, e5, w5⟩ := key 5 (by omega)
  obtain ⟨n6, e6, w6⟩ := key 6 (by omega)
  obtain ⟨n7, e7, w7⟩ := key 7 (by omega)
  simp at e0 e1 e2 e3 e4 e5 e6 e7
  subst e0 e1 e2 e3 e4 e5 e6 e7
  refine ⟨fun k => if k = 0 then n0 else if k = 1 then n1 else if k = 2 then n2 else if k = 3 then n3 else if k = 4 then n4 else if k = 5 then n5 else if k = 6 then n6 else n7, by simp, fun k => ?_⟩
  have bd : ∀ n, (Lit.int .i32 n).wf = true → -2147483648 ≤ n ∧ n < 2147483648 := fun n hn => by have := bounds_i32 hn; omega
  dsimp only
  split
  · exact bd _ w0
  · split
    · exact bd _ w1
    · split
      · exact bd _ w2
      · split
        · exact bd _ w3
        · split
          · exact bd _ w4
          · split
            · exact bd _ w5
            · split
              · exact bd _ w6
              · exact bd _ w7

end Go.Proofs.Ytpfcacedpkaihaa
