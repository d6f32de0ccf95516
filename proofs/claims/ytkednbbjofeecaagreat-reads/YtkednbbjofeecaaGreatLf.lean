/- The law's sameEntries (package almanaclaw) over two lists that read the same, walked. -/
import Derived.Test.YtkednbbjofeecaaGreatLe
namespace Go.Proofs.YtkednbbjofeecaaGreat
open Go.RowKit

theorem ent_at (l : List EntE) (j : Nat) (hj : j < l.length) (f : Nat) (hf : f < 6) : (l.flatMap entC)[j * 6 + f]? = (entC l[j])[f]? := flat_at entC 6 (fun _ => rfl) l j hj f hf

/-- the cells of an entry of a list. -/
def EntAt (w : World) (g o : Nat) (e : EntE) : Prop :=
  w.cell? ⟨g, o, none⟩ = some (.string e.q) ∧ w.cell? ⟨g, o + 1, none⟩ = some (.int .i32 e.val) ∧ w.cell? ⟨g, o + 2, none⟩ = some (.int .u64 (e.fr : Int)) ∧ w.cell? ⟨g, o + 3, none⟩ = some (.int .u64 (e.till : Int)) ∧ w.cell? ⟨g, o + 4, none⟩ = some (.bool e.op) ∧ w.cell? ⟨g, o + 5, none⟩ = some (.int .u64 (e.kn : Int))
theorem Row.entAt {w : World} {v : Value} {l : List EntE} (h : Row w 55 6 v l.length (l.flatMap entC)) (j : Nat) (hj : j < l.length) : ∃ g cap, v = .slice (some ⟨g, 0, none⟩) l.length cap ∧ g < w.heap.size ∧ EntAt w g (j * 6) l[j] := by
  obtain ⟨g, cap, hv, ho, hg⟩ := h.block (by omega)
  have hc : ∀ f, f < 6 → ∀ u, (entC l[j])[f]? = some u → w.cell? ⟨g, j * 6 + f, none⟩ = some u := fun f hf u hu => h.cell ho _ u (by rw [ent_at l j hj f hf]; exact hu)
  exact ⟨g, cap, hv, hg, hc 0 (by omega) _ rfl, hc 1 (by omega) _ rfl, hc 2 (by omega) _ rfl, hc 3 (by omega) _ rfl, hc 4 (by omega) _ rfl, hc 5 (by omega) _ rfl⟩
theorem EntAt.same {w w' : World} {g o : Nat} {e : EntE} (h : EntAt w g o e) (hs : w'.heap[g]? = w.heap[g]?) : EntAt w' g o e := by
  obtain ⟨a0, a1, a2, a3, a4, a5⟩ := h
  exact ⟨(World.cell?_of_block (a := ⟨g, o, none⟩) hs).trans a0, (World.cell?_of_block (a := ⟨g, o + 1, none⟩) hs).trans a1, (World.cell?_of_block (a := ⟨g, o + 2, none⟩) hs).trans a2, (World.cell?_of_block (a := ⟨g, o + 3, none⟩) hs).trans a3, (World.cell?_of_block (a := ⟨g, o + 4, none⟩) hs).trans a4, (World.cell?_of_block (a := ⟨g, o + 5, none⟩) hs).trans a5⟩

theorem two_new {w wr : World} {o o' : Obj} (h : Below w.heap.size w wr) : Below w.heap.size w ((wr.alloc o).alloc o') :=
  (h.alloc h.size _).alloc (by have := h.size; simp; omega) _

set_option maxRecDepth 100000 in
set_option maxHeartbeats 4000000 in
theorem rsameEntries (w : World) (va vb : Value) (l : List EntE) (hl : l.length ≤ 1000000) (ha : Row w 55 6 va l.length (l.flatMap entC)) (hb : Row w 55 6 vb l.length (l.flatMap entC)) :
    Calls Tryz.prog 41 #[va, vb] w fun e w' => e = .returned (.bool true) ∧ Below w.heap.size w w' := by
  obtain ⟨aa, ca, hva, _⟩ := ha.form
  obtain ⟨ab, cb, hvb, _⟩ := hb.form
  subst hva
  subst hvb
  have HA : Hid (∀ j (hj : j < l.length), ∃ g, aa = some ⟨g, 0, none⟩ ∧ g < w.heap.size ∧ EntAt w g (j * 6) l[j]) := by
    intro j hj
    obtain ⟨g, cap, hv, hg, he⟩ := ha.entAt j hj
    injection hv with e1 _ _
    exact ⟨g, e1, hg, he⟩
  have HB : Hid (∀ j (hj : j < l.length), ∃ g, ab = some ⟨g, 0, none⟩ ∧ g < w.heap.size ∧ EntAt w g (j * 6) l[j]) := by
    intro j hj
    obtain ⟨g, cap, hv, hg, he⟩ := hb.entAt j hj
    injection hv with e1 _ _
    exact ⟨g, e1, hg, he⟩
  obtain ⟨n, hn⟩ : ∃ n, n = l.length := ⟨_, rfl⟩
  rw [← hn]
  have HN : Hid (n = l.length) := hn
  rw [← hn] at hl
  clear ha hb hn
  go_enter Tryz.func41, Tryz.ntmps41
  go_wp2
  go_loopw [5] (fun k wr => ∃ j : Nat, j ≤ n ∧ k = .int .i64 j ∧ Hid (Below w.heap.size w wr)) (fun k _ => n - (intOf k).toNat)
  case atStart => exact ⟨0, Nat.zero_le _, rfl, Below.refl _ _⟩
  case round =>
    obtain ⟨j, hj, rfl, HBl⟩ := hrel
    by_cases hlt : j < n
    · obtain ⟨ga, hga, hgl, hea⟩ := HA.out j (by rw [← HN.out]; exact hlt)
      obtain ⟨gb, hgb, hgl', heb⟩ := HB.out j (by rw [← HN.out]; exact hlt)
      obtain ⟨e, he⟩ : ∃ e, e = l[j]'(by rw [← HN.out]; exact hlt) := ⟨_, rfl⟩
      rw [← he] at hea heb
      clear he
      obtain ⟨a0, a1, a2, a3, a4, a5⟩ := hea.same (HBl.out.block ga hgl)
      obtain ⟨c0, c1, c2, c3, c4, c5⟩ := heb.same (HBl.out.block gb hgl')
      have hza : ga < wr.heap.size := Nat.lt_of_lt_of_le hgl (Kept.of_below HBl.out (fun _ => False)).size
      have hzb : gb < wr.heap.size := Nat.lt_of_lt_of_le hgl' (Kept.of_below HBl.out (fun _ => False)).size
      clear hea heb
      subst hga
      subst hgb
      have hj0 : (0 : Int) ≤ (j : Int) := by omega
      have hj1 : (j : Int) < (n : Int) := by omega
      go_wp2
      go_roundw
      case rel => exact ⟨j + 1, by omega, by go_num, two_new HBl.out⟩
      case measure => simp [intOf]; omega
    · go_wp2
      go_ret
      exact ⟨rfl, HBl.out⟩

end Go.Proofs.YtkednbbjofeecaaGreat
