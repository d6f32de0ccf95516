/- The law's own still (package almanaclaw), walked. -/
import Derived.Test.YtkednbbjofeecaaGreatLa
namespace Go.Proofs.YtkednbbjofeecaaGreat
open Go.RowKit

def StillPost (w : World) (g : Nat) (e : Ending) (w' : World) : Prop := e = .returned (.bool true) ∧ Kept (fun x => x = g) w w'

/-- what is left to be looked at. -/
structure Left (w wr : World) (g k : Nat) (xs : List (Int × Int)) : Prop where
  kept : Kept (fun x => x = g) w wr
  cell : ∀ j (h : j < xs.length), k ≤ j → wr.cell? ⟨g, j * 2, none⟩ = some (.int .i64 xs[j].1) ∧ wr.cell? ⟨g, j * 2 + 1, none⟩ = some (.int .i32 xs[j].2)
  free : ∀ o, wr.frozen? ⟨g, o, none⟩ = false
  lt : g < w.heap.size

theorem Left.next {w wr : World} {g k : Nat} {xs : List (Int × Int)} (h : Left w wr g k xs) (o : Obj) (a c : Value) (n : Nat) : Left w ((((wr.alloc o).drewN n).setCell ⟨g, k * 2, none⟩ a).setCell ⟨g, k * 2 + 1, none⟩ c) g (k + 1) xs := by
  have hlt : g < wr.heap.size := Nat.lt_of_lt_of_le h.lt h.kept.size
  refine ⟨((((h.kept.trans (Kept.alloc wr o (fun _ => False)) (fun _ => id) (fun _ _ => False.elim)).drewN n).trans (Kept.setCell _ ⟨g, k * 2, none⟩ a) (fun _ => id) (fun _ _ => id)).trans (Kept.setCell _ ⟨g, k * 2 + 1, none⟩ c) (fun _ => id) (fun _ _ => id)), fun j hj hk => ?_, fun q => ?_, h.lt⟩
  · obtain ⟨c0, c1⟩ := h.cell j hj (by omega)
    have e1 : (⟨g, k * 2, none⟩ : Addr) ≠ ⟨g, j * 2, none⟩ := by intro e; injection e with _ e _; omega
    have e2 : (⟨g, k * 2 + 1, none⟩ : Addr) ≠ ⟨g, j * 2, none⟩ := by intro e; injection e with _ e _; omega
    have e3 : (⟨g, k * 2, none⟩ : Addr) ≠ ⟨g, j * 2 + 1, none⟩ := by intro e; injection e with _ e _; omega
    have e4 : (⟨g, k * 2 + 1, none⟩ : Addr) ≠ ⟨g, j * 2 + 1, none⟩ := by intro e; injection e with _ e _; omega
    have d0 : ((wr.alloc o).drewN n).cell? ⟨g, j * 2, none⟩ = some (.int .i64 xs[j].1) := (World.cell?_alloc_past o g (j * 2) hlt).trans c0
    have d1 : ((wr.alloc o).drewN n).cell? ⟨g, j * 2 + 1, none⟩ = some (.int .i32 xs[j].2) := (World.cell?_alloc_past o g (j * 2 + 1) hlt).trans c1
    constructor
    · rw [World.cell?_setCell_other _ _ _ _ e2, World.cell?_setCell_other _ _ _ _ e1]; exact d0
    · rw [World.cell?_setCell_other _ _ _ _ e4, World.cell?_setCell_other _ _ _ _ e3]; exact d1
  · rw [World.frozen?_setCell, World.frozen?_setCell]
    exact (World.frozen?_alloc_past o g q hlt).trans (h.free q)

set_option maxRecDepth 100000 in
set_option maxHeartbeats 2000000 in
theorem still_any (w : World) (g n cap : Nat) (ao : Option Addr) (cl : Nat) (ws : List (Int × Int)) (hw : Wr w ao n ws) (hne : 0 < n → ∀ a, ao = some a → a.block ≠ g) (hc : n + 2 ≤ cap) (hcm : cap ≤ maxLen) (hL : Left w w g 0 (ws ++ [farW, farW])) :
    Calls Tryz.prog 30 #[.slice (some ⟨g, 0, none⟩) n cap, .slice ao n cl] w fun e w' => StillPost w g e w' := by
  unfold maxLen at hcm
  have HW : Hid (Wr w ao n ws) := hw
  have HNE : Hid (0 < n → ∀ a, ao = some a → a.block ≠ g) := hne
  have HL0 : Hid (Left w w g 0 (ws ++ [farW, farW])) := hL
  have hl := hw.len
  clear hw hne hL
  go_enter Tryz.func30, Tryz.ntmps30
  go_wp2
  go_loopw [6, 7] (fun ok i wr => ∃ k : Nat, k ≤ n + 2 ∧ i = .int .i64 k ∧ ok = .bool true ∧ Hid (Left w wr g k (ws ++ [farW, farW]))) (fun _ i _ => n + 2 - (intOf i).toNat)
  case atStart => exact ⟨0, Nat.zero_le _, rfl, rfl, HL0⟩
  case round =>
    obtain ⟨k, hk, rfl, rfl, HL⟩ := hrel
    by_cases hlt : k < n + 2
    · have hlx : k < (ws ++ [farW, farW]).length := by simp; omega
      obtain ⟨c0, c1⟩ := HL.out.cell k hlx (Nat.le_refl _)
      have f0 := HL.out.free (k * 2)
      have f1 := HL.out.free (k * 2 + 1)
      have hgz : g < wr.heap.size := Nat.lt_of_lt_of_le HL.out.lt HL.out.kept.size
      by_cases hin : k < n
      · have hlt' : k < ws.length := by omega
        obtain ⟨bl, off, hao, z0, z1⟩ := HW.out.cell k hlt'
        have hbl : bl < w.heap.size := World.block_lt_of_cell? w _ z0
        have hbg : bl ≠ g := HNE.out (by omega) _ hao
        have hbb := HL.out.kept.block bl hbl hbg
        have y0 := (World.cell?_of_block (a := ⟨bl, off + k * 2, none⟩) hbb).trans z0
        have y1 := (World.cell?_of_block (a := ⟨bl, off + k * 2 + 1, none⟩) hbb).trans z1
        have hbz : bl < wr.heap.size := Nat.lt_of_lt_of_le hbl HL.out.kept.size
        obtain ⟨x, hx⟩ : ∃ x, x = ws[k].1 := ⟨_, rfl⟩
        obtain ⟨y, hy⟩ : ∃ y, y = ws[k].2 := ⟨_, rfl⟩
        have e : (ws ++ [farW, farW])[k] = ws[k] := List.getElem_append_left hlt'
        rw [e, ← hx] at c0
        rw [e, ← hy] at c1
        rw [← hx] at y0
        rw [← hy] at y1
        clear hbb z0 z1 hx hy e
        subst hao
        go_wp2_with fail
        go_quiet (fail)
        go_wp2
        go_roundw
        case rel => exact ⟨k + 1, by omega, by go_num, rfl, HL.out.next _ _ _ _⟩
        case measure => simp [intOf]; omega
      · have e : (ws ++ [farW, farW])[k] = farW := by
          rw [List.getElem_append_right (by omega)]
          have hc2 : k - ws.length = 0 ∨ k - ws.length = 1 := by omega
          rcases hc2 with h | h <;> simp [h]
        rw [e] at c0 c1
        have c0' : wr.cell? ⟨g, k * 2, none⟩ = some (.int .i64 (-77)) := c0
        have c1' : wr.cell? ⟨g, k * 2 + 1, none⟩ = some (.int .i32 0) := c1
        clear c0 c1 e
        go_wp2_with fail
        go_quiet (fail)
        go_wp2
        go_roundw
        case rel => exact ⟨k + 1, by omega, by go_num, rfl, HL.out.next _ _ _ _⟩
        case measure => simp [intOf]; omega
    · go_wp2
      go_ret
      exact ⟨rfl, HL.out.kept⟩

end Go.Proofs.YtkednbbjofeecaaGreat
