/- The law's entryMark and marked (package almanaclaw), walked. -/
import Derived.Test.YtkednbbjofeecaaGreatGb
namespace Go.Proofs.YtkednbbjofeecaaGreat
open Go.RowKit

def mineQ : ByteArray := "(mine)".toUTF8
/-- the mark of list i. -/
def markA (q : ByteArray) (i : Nat) : Array Value := #[.string q, .int .i32 0, .int .u64 0, .int .u64 (i : Int), .bool false, .int .u64 0]

theorem below_drewN {n : Nat} {w w' : World} (h : Below n w w') (m : Nat) : Below n w (w'.drewN m) := ⟨h.os, h.tape, h.output, h.size, h.block⟩

set_option maxHeartbeats 2000000 in
theorem rmarked (w : World) (g n cap i : Nat) (q : ByteArray) (hn : n ≤ 1000000) (hc : ∀ j, j < n → w.cell? ⟨g, j * 6, none⟩ = some (.string q) ∧ w.cell? ⟨g, j * 6 + 1, none⟩ = some (.int .i32 0) ∧ w.cell? ⟨g, j * 6 + 2, none⟩ = some (.int .u64 0) ∧ w.cell? ⟨g, j * 6 + 3, none⟩ = some (.int .u64 (i : Int)) ∧ w.cell? ⟨g, j * 6 + 4, none⟩ = some (.bool false) ∧ w.cell? ⟨g, j * 6 + 5, none⟩ = some (.int .u64 0)) (hg : n = 0 ∨ g < w.heap.size) :
    Calls Tryz.prog 18 #[.slice (some ⟨g, 0, none⟩) n cap, .agg (markA q i)] w fun e w' => e = .returned (.bool true) ∧ Below w.heap.size w w' := by
  unfold markA
  have HC : Hid (∀ j, j < n → w.cell? ⟨g, j * 6, none⟩ = some (.string q) ∧ w.cell? ⟨g, j * 6 + 1, none⟩ = some (.int .i32 0) ∧ w.cell? ⟨g, j * 6 + 2, none⟩ = some (.int .u64 0) ∧ w.cell? ⟨g, j * 6 + 3, none⟩ = some (.int .u64 (i : Int)) ∧ w.cell? ⟨g, j * 6 + 4, none⟩ = some (.bool false) ∧ w.cell? ⟨g, j * 6 + 5, none⟩ = some (.int .u64 0)) := hc
  have HG : Hid (n = 0 ∨ g < w.heap.size) := hg
  clear hc hg
  go_enter Tryz.func18, Tryz.ntmps18
  go_wp2
  go_loopw [5] (fun k wr => ∃ j : Nat, j ≤ n ∧ k = .int .i64 j ∧ Hid (Below w.heap.size w wr ∧ Blk wr w.heap.size 55 (markA q i))) (fun k _ => n - (intOf k).toNat)
  case atStart => exact ⟨0, Nat.zero_le _, rfl, (Below.refl _ _).alloc (Nat.le_refl _) _, Blk.new _ _ _⟩
  case round =>
    obtain ⟨j, hj, rfl, HB⟩ := hrel
    have z0 : wr.cell? ⟨w.heap.size, 0, none⟩ = some (.string q) := HB.out.2.cell 0
    have z3 : wr.cell? ⟨w.heap.size, 3, none⟩ = some (.int .u64 (i : Int)) := HB.out.2.cell 3
    by_cases hlt : j < n
    · have hgz : g < w.heap.size := by have := HG.out; omega
      have hbb := HB.out.1.block g hgz
      obtain ⟨a0, a1, a2, a3, a4, a5⟩ := HC.out j hlt
      have c0 := (World.cell?_of_block (a := ⟨g, j * 6, none⟩) hbb).trans a0
      have c1 := (World.cell?_of_block (a := ⟨g, j * 6 + 1, none⟩) hbb).trans a1
      have c2 := (World.cell?_of_block (a := ⟨g, j * 6 + 2, none⟩) hbb).trans a2
      have c3 := (World.cell?_of_block (a := ⟨g, j * 6 + 3, none⟩) hbb).trans a3
      have c4 := (World.cell?_of_block (a := ⟨g, j * 6 + 4, none⟩) hbb).trans a4
      have c5 := (World.cell?_of_block (a := ⟨g, j * 6 + 5, none⟩) hbb).trans a5
      clear a0 a1 a2 a3 a4 a5 hbb
      have hj0 : (0 : Int) ≤ (j : Int) := by omega
      have hj1 : (j : Int) < (n : Int) := by omega
      go_wp2_with fail
      go_quiet (fail)
      go_wp2
      go_roundw
      case rel => exact ⟨j + 1, by omega, by go_num, below_drewN HB.out.1 _, HB.out.2.same rfl⟩
      case measure => simp [intOf]; omega
    · go_wp2
      go_ret
      exact ⟨rfl, HB.out.1⟩

end Go.Proofs.YtkednbbjofeecaaGreat
