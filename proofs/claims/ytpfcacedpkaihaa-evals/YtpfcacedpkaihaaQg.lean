/- What package queries' Parse answers at every text. -/
import Derived.Test.YtpfcacedpkaihaaQd
import Derived.Deep.RegionWith
import Derived.Deep.DeepCutAuto
namespace Go.Proofs.Ytpfcacedpkaihaa
open Go.RowKit

/-- the keys of some terms, as a set. -/
def keysL (ts : List (Nat × Nat)) : Int := ts.foldl (fun K t => bits .or .u8 K (bitN t.2)) 0
theorem keysL_snoc (ts : List (Nat × Nat)) (j : Nat) (h : j < ts.length) : keysL (ts.take (j + 1)) = bits .or .u8 (keysL (ts.take j)) (bitN ts[j].2) := by
  rw [keysL, List.take_succ_eq_append_getElem h, List.foldl_append]; rfl

set_option maxHeartbeats 1000000 in
theorem qParse_bad (s : ByteArray) (w : World) (er : Int) (hs : s.size ≤ maxLen) (hr : Q.readL s.data.toList = (er, [])) :
    Calls Try.prog 24 #[.string s] w fun e w' => e = .returned (.tuple #[.agg #[.int .u8 0, .int .i64 0], .int .i64 er]) ∧ Below w.heap.size w w' := by
  have HR : Hid (Q.readL s.data.toList = (er, [])) := hr
  clear hr
  go_enter Try.func24, Try.ntmps24
  go_wp2_with (go_at_call 39; refine (read_bad s _ er hs HR.out).mono ?_; rintro e w1 ⟨rfl, he, hb⟩; have hc0 := hb.cell (p := ⟨w.heap.size, 0, none⟩) (by simp); have hc1 := hb.cell (p := ⟨w.heap.size, 1, none⟩) (by simp); have hf0 := hb.frozen (p := ⟨w.heap.size, 0, none⟩) (by simp); have hf1 := hb.frozen (p := ⟨w.heap.size, 1, none⟩) (by simp); simp [go_sem] at hc0 hc1 hf0 hf1)
  refine bodyPost_ret (v := .tuple #[.agg #[.int .u8 0, .int .i64 0], .int .i64 er]) (by simp [results, Try.results24, go_sem, hc0, hc1]) rfl ⟨rfl, ?_⟩
  exact (((((Below.refl _ _).alloc (Nat.le_refl _) _).trans (hb.mono (by simp))).setCell (Nat.le_refl _) _).setCell (Nat.le_refl _) _)

theorem lies_cells {w : World} {g : Nat} {ts : List (Nat × Nat)} (h : Lies w g ts) (j : Nat) (hj : j < ts.length) :
    w.cell? ⟨g, j * 2, none⟩ = some (.int .i64 (ts[j].1 : Int)) ∧ w.cell? ⟨g, j * 2 + 1, none⟩ = some (.int .i64 (ts[j].2 : Int)) := ⟨h.sign j hj, h.key j hj⟩

/-- the block of a shape that is being filled. -/
structure Shp (w1 wr : World) (K n : Int) : Prop where
  keys : wr.cell? ⟨w1.heap.size, 0, none⟩ = some (.int .u8 K)
  terms : wr.cell? ⟨w1.heap.size, 1, none⟩ = some (.int .i64 n)
  free : wr.frozen? ⟨w1.heap.size, 0, none⟩ = false
  below : Below w1.heap.size w1 wr
  size : w1.heap.size < wr.heap.size

theorem Shp.step {w1 wr : World} {K n : Int} (h : Shp w1 wr K n) (K' : Int) (o : Obj) : Shp w1 ((wr.setCell ⟨w1.heap.size, 0, none⟩ (.int .u8 K')).alloc o).drew K' n := by
  have hz := h.size
  have hs : (wr.setCell ⟨w1.heap.size, 0, none⟩ (.int .u8 K')).heap.size = wr.heap.size := by simp
  refine ⟨?_, ?_, ?_, ?_, ?_⟩
  · show ((wr.setCell ⟨w1.heap.size, 0, none⟩ (.int .u8 K')).alloc o).cell? _ = _
    rw [World.cell?_alloc_past _ _ _ (by omega)]
    exact World.cell?_setCell_same _ _ _ h.keys
  · show ((wr.setCell ⟨w1.heap.size, 0, none⟩ (.int .u8 K')).alloc o).cell? _ = _
    rw [World.cell?_alloc_past _ _ _ (by omega), World.cell?_setCell_other _ _ _ _ (by simp)]
    exact h.terms
  · show ((wr.setCell ⟨w1.heap.size, 0, none⟩ (.int .u8 K')).alloc o).frozen? _ = _
    rw [World.frozen?_alloc_past _ _ _ (by omega), World.frozen?_setCell]
    exact h.free
  · exact (((h.below.setCell (Nat.le_refl _) _).alloc (by omega) o).drew)
  · show _ < ((wr.setCell ⟨w1.heap.size, 0, none⟩ (.int .u8 K')).alloc o).heap.size
    simp; omega

set_option maxHeartbeats 1000000 in
theorem qParse_good (s : ByteArray) (w : World) (ts : List (Nat × Nat)) (hr : Q.readL s.data.toList = (0, ts)) :
    Calls Try.prog 24 #[.string s] w fun e w' => e = .returned (.tuple #[.agg #[.int .u8 (keysL ts), .int .i64 (ts.length : Int)], .int .i64 0]) ∧ Below w.heap.size w w' := by
  have HR : Hid (Q.readL s.data.toList = (0, ts)) := hr
  obtain ⟨hne, h8, hks⟩ : ts ≠ [] ∧ ts.length ≤ 8 ∧ ∀ t ∈ ts, t.1 ≤ 3 ∧ t.2 ≤ 7 := by
    rcases Q.readL_cases s.data.toList with h | h | ⟨us, h, r⟩
    · rw [h] at hr; simp at hr
    · rw [h] at hr; simp at hr
    · rw [h] at hr; simp at hr; subst hr; exact r
  have HKS : Hid (∀ t ∈ ts, t.1 ≤ 3 ∧ t.2 ≤ 7) := hks
  clear hr hne hks
  go_enter Try.func24, Try.ntmps24
  go_wp2_with (go_at_call 39; refine (read_good s _ ts HR.out).mono ?_; rintro e w1 ⟨g, cap, rfl, hg, hl, hb⟩)
  have hsz : w.heap.size < w1.heap.size := by have := hb.size; simp at this; omega
  have hb1 : Below w.heap.size w w1 := (((Below.refl _ _).alloc (Nat.le_refl _) _).trans (hb.mono (by simp)))
  have HC : Hid (w1.cell? ⟨w.heap.size, 0, none⟩ = some (.int .u8 0) ∧ w1.cell? ⟨w.heap.size, 1, none⟩ = some (.int .i64 0) ∧ w1.frozen? ⟨w.heap.size, 0, none⟩ = false ∧ w1.frozen? ⟨w.heap.size, 1, none⟩ = false) := by
    have hc0 := hb.cell (p := ⟨w.heap.size, 0, none⟩) (by simp)
    have hc1 := hb.cell (p := ⟨w.heap.size, 1, none⟩) (by simp)
    have hf0 := hb.frozen (p := ⟨w.heap.size, 0, none⟩) (by simp)
    have hf1 := hb.frozen (p := ⟨w.heap.size, 1, none⟩) (by simp)
    simp [go_sem] at hc0 hc1 hf0 hf1
    exact ⟨hc0, hc1, hf0, hf1⟩
  clear hb
  go_loopw [23] (fun i wr => ∃ k : Nat, k ≤ ts.length ∧ i = .int .i64 k ∧ Shp w1 wr (keysL (ts.take k)) ts.length) (fun i _ => ts.length - (intOf i).toNat)
  case atStart => exact ⟨0, Nat.zero_le _, rfl, by simp [keysL, go_sem], by simp [go_sem], by simp [go_sem], (Below.refl _ _).alloc (Nat.le_refl _) _, by simp⟩
  case round =>
    obtain ⟨k, hk, rfl, hsh⟩ := hrel
    by_cases hlt : k < ts.length
    · have hl2 := hl.below hsh.below
      have hsg := hl2.sign k hlt
      have hky := hl2.key k hlt
      obtain ⟨hm3, hm7⟩ := HKS.out ts[k] (List.getElem_mem hlt)
      have HE : Hid (keysL (ts.take (k + 1)) = bits .or .u8 (keysL (ts.take k)) (bitN ts[k].2)) := keysL_snoc ts k hlt
      have hz : w1.heap.size < wr.heap.size := hsh.size
      have hgz : g < wr.heap.size := hl2.lt
      have hkeys := hsh.keys
      have hfree := hsh.free
      go_wp2
      go_region_with (go_at_call 40; refine (bit_any _ _ hm7).mono ?_; rintro e w' ⟨rfl, rfl⟩)
      all_goals
        have hst := hsh.step (bits .or .u8 (keysL (ts.take k)) (bitN ts[k].2)) (Obj.cells #[.int .i64 (ts[k].1 : Int), .int .i64 (ts[k].2 : Int)] 98)
        clear hsg hky hkeys hfree hl2 hsh
        go_wp2
        go_roundw
        case rel => first | exact ⟨k + 1, by omega, by go_num, by rw [HE.out]; exact hst⟩ | ((repeat apply Exists.intro); exact ⟨⟨k + 1, by omega, by go_num, by rw [HE.out]; exact hst⟩, rfl⟩)
        case measure => simp [intOf]; omega
    · have hz : k = ts.length := by omega
      subst hz
      have hkeys := hsh.keys
      have hterms := hsh.terms
      have hfree := hsh.free
      have hsize := hsh.size
      rw [List.take_length] at hkeys
      have hc0 := (hsh.below.cell (p := ⟨w.heap.size, 0, none⟩) hsz).trans HC.out.1
      have hc1 := (hsh.below.cell (p := ⟨w.heap.size, 1, none⟩) hsz).trans HC.out.2.1
      have hf0 := (hsh.below.frozen (p := ⟨w.heap.size, 0, none⟩) hsz).trans HC.out.2.2.1
      have hf1 := (hsh.below.frozen (p := ⟨w.heap.size, 1, none⟩) hsz).trans HC.out.2.2.2
      have hbl := hb1.trans (hsh.below.mono (Nat.le_of_lt hsz))
      clear hsh
      go_wp2
      refine bodyPost_ret (v := .tuple #[.agg #[.int .u8 (keysL ts), .int .i64 (ts.length : Int)], .int .i64 0]) (by simp [results, Try.results24, go_sem, hc0, hc1]) rfl ⟨rfl, ?_⟩
      exact (hbl.setCell (Nat.le_refl _) _).setCell (Nat.le_refl _) _

end Go.Proofs.Ytpfcacedpkaihaa
