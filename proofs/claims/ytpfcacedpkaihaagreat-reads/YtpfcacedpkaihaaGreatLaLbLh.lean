import Derived.Test.YtpfcacedpkaihaaGreatGj
import Derived.Laws.AppendOwnNone
import Derived.Test.YtpfcacedpkaihaaGreatLgLo
/- The law's own roomy (package almanaclaw), walked. -/
namespace Go.Proofs.YtpfcacedpkaihaaGreat
open Go.RowKit

def wrC (x : Int × Int) : List Value := [.int .i64 x.1, .int .i32 x.2]
def farW : Int × Int := (-77, 0)
theorem Tryz.infoWrite : (Tryz.prog.info? 152).map (fun i => (i.zero, i.size, i.bytes)) = some (some (.agg #[.int .i64 0, .int .i32 0]), 2, 16) := by kernel_rfl

theorem oneCell_wr (ws : List (Int × Int)) : ∀ u ∈ ws.flatMap wrC, u.oneCell' = true := by
  intro u hu
  simp [wrC] at hu
  obtain ⟨a, b, _, rfl | rfl⟩ := hu <;> rfl

/-- the cells of a list of writes, one behind the other. -/
theorem Wr.news {w : World} {a : Addr} {n : Nat} {ws : List (Int × Int)} (h : Wr w (some a) n ws) : ∀ j u, (ws.flatMap wrC)[j]? = some u → w.cell? (a.add j) = some u := by
  intro j u hj
  have hl : (ws.flatMap wrC).length = ws.length * 2 := flat_length wrC 2 (fun _ => rfl) ws
  have hlt : j < ws.length * 2 := by rw [← hl]; exact (List.getElem?_eq_some_iff.mp hj).1
  obtain ⟨q, f, rfl, hf⟩ : ∃ q f, j = q * 2 + f ∧ f < 2 := ⟨j / 2, j % 2, by omega, by omega⟩
  have hq : q < ws.length := by omega
  obtain ⟨bl, off, e, c0, c1⟩ := h.cell q hq
  injection e with e
  subst e
  rw [flat_at wrC 2 (fun _ => rfl) ws q hq f hf] at hj
  have ea : (⟨bl, off, none⟩ : Addr).add (q * 2 + f) = ⟨bl, off + (q * 2 + f), none⟩ := by
    cases hz : q * 2 + f <;> simp [Addr.add]
  rw [ea]
  have hc : f = 0 ∨ f = 1 := by omega
  rcases hc with rfl | rfl
  · simp [wrC] at hj; subst hj; simpa using c0
  · simp [wrC] at hj; subst hj
    have : off + (q * 2 + 1) = off + q * 2 + 1 := by omega
    rw [this]; exact c1

def RoomyPost (w : World) (n : Nat) (ws : List (Int × Int)) (e : Ending) (w' : World) : Prop :=
  ∃ g cap, e = .returned (.slice (some ⟨g, 0, none⟩) n cap) ∧ n + 2 ≤ cap ∧ w.heap.size ≤ g ∧ Row w' 152 2 (.slice (some ⟨g, 0, none⟩) (n + 2) cap) (n + 2) ((ws ++ [farW, farW]).flatMap wrC) ∧ Kept (fun _ => False) w w'

theorem cell_four_new (w : World) (a b c d : Value) (t : TypeId) : ∀ j u, [a, b, c, d][j]? = some u → (w.alloc (.cells #[a, b, c, d] t)).cell? ((⟨w.heap.size, 0, none⟩ : Addr).add j) = some u := by
  intro j u hj
  match j, hj with
  | 0, hj => simp at hj; subst hj; simp [Addr.add]
  | 1, hj => simp at hj; subst hj; simp [Addr.add]
  | 2, hj => simp at hj; subst hj; simp [Addr.add]
  | 3, hj => simp at hj; subst hj; simp [Addr.add]
  | j + 4, hj => simp at hj

/-- the end of roomy: two writes more. -/
theorem roomy_done {w w1 w2 : World} {n : Nat} {ws : List (Int × Int)} {v v2 : Value} {o : Obj} (hk : Kept (fun _ => False) w w1) (ho : ∀ x, v.ownBlock = some x → w.heap.size ≤ x)
    (hA : Appended (w1.alloc o) w2 152 2 v v2 n 2 (ws.flatMap wrC) [.int .i64 (-77), .int .i32 0, .int .i64 (-77), .int .i32 0]) :
    ∃ g cap, v2 = .slice (some ⟨g, 0, none⟩) (n + 2) cap ∧ n + 2 ≤ cap ∧ w.heap.size ≤ g ∧ Row w2 152 2 (.slice (some ⟨g, 0, none⟩) (n + 2) cap) (n + 2) ((ws ++ [farW, farW]).flatMap wrC) ∧ Kept (fun _ => False) w w2 := by
  have hA := hA.of_alloc
  have hrow := hA.row
  rcases hrow.shape with ⟨_, hn, _⟩ | ⟨g, cap, cur, hv, hb, hc, _⟩
  · omega
  · refine ⟨g, cap, hv, hc, ?_, ?_, hk.trans hA.kept (fun _ => id) (fun x hx he => ?_)⟩
    · have hg : v2.ownBlock = some g := by rw [hv]; rfl
      rcases hA.own with e | e
      · exact ho g (by rw [← e]; exact hg)
      · exact Nat.le_trans hk.size (e g hg)
    · rw [← hv]
      have e : (ws ++ [farW, farW]).flatMap wrC = ws.flatMap wrC ++ [.int .i64 (-77), .int .i32 0, .int .i64 (-77), .int .i32 0] := by simp [wrC, farW]
      rw [e]; exact hrow
    · have := ho x he; omega

set_option maxRecDepth 100000 in
set_option maxHeartbeats 1000000 in
theorem roomy_some (w : World) (a : Addr) (n cap : Nat) (ws : List (Int × Int)) (hw : Wr w (some a) n ws) (hreach : n * 16 ≤ 140737488351232) :
    Calls Tryz.prog 27 #[.slice (some a) n cap] w fun e w' => RoomyPost w n ws e w' := by
  have HW : Hid (Wr w (some a) n ws) := hw
  have hl := hw.len
  have hlc : (ws.flatMap wrC).length = n * 2 := by rw [flat_length wrC 2 (fun _ => rfl) ws, hl]
  obtain ⟨i0, hi, hz0, hz1, hz2⟩ := info_parts Tryz.infoWrite
  have HI : Hid (Tryz.prog.info? 152 = some i0 ∧ i0.zero = some (.agg #[.int .i64 0, .int .i32 0]) ∧ i0.size = 2 ∧ i0.bytes = 16) := ⟨hi, hz0, hz1, hz2⟩
  have HLC : Hid ((ws.flatMap wrC).length = n * 2) := hlc
  clear hi hz0 hz1 hz2 hw hlc
  have bm : n + 2 ≤ maxLen := by unfold maxLen; omega
  have bm0 : 0 + n ≤ maxLen := by unfold maxLen; omega
  have bb : (n + 2) * 16 ≤ 140737488355328 := by omega
  have bb0 : (0 + n) * 16 ≤ 140737488355328 := by omega
  go_enter Tryz.func27, Tryz.ntmps27
  go_wp2_with (first
    | (at_builtin; refine wpList_append_mine _ rfl (.tmp 4) (.tmp 5) 35 rfl 152 i0 (.agg #[.int .i64 0, .int .i32 0]) 2 16 Tryz.underlying35 HI.out.1 HI.out.2.1 HI.out.2.2.1 HI.out.2.2.2 rfl (by decide) (.slice none 0 0) 0 [] rfl (Row.nil _ _ _) a n cap (ws.flatMap wrC) rfl HLC.out HW.out.news (oneCell_wr ws) bm0 bb0 ?_; intro v1 w1 hA1; have H1 : Hid (Row w1 152 2 v1 n (ws.flatMap wrC) ∧ Kept (fun _ => False) w w1 ∧ (∀ x, v1.ownBlock = some x → w.heap.size ≤ x)) := ⟨by have := hA1.row; rw [Nat.zero_add, List.nil_append] at this; exact this, hA1.kept.mono (fun k hk => by simp [Value.ownBlock] at hk), fun x hx => hA1.own.elim (fun e => by rw [e] at hx; simp [Value.ownBlock] at hx) (fun e => e x hx)⟩; clear hA1)
    | (at_builtin; refine wpList_append_mine _ rfl (.tmp 7) (.tmp 10) 35 rfl 152 i0 (.agg #[.int .i64 0, .int .i32 0]) 2 16 Tryz.underlying35 HI.out.1 HI.out.2.1 HI.out.2.2.1 HI.out.2.2.2 rfl (by decide) _ n (ws.flatMap wrC) rfl (H1.out.1.kept (Kept.alloc _ _ (fun _ => False)) (fun _ _ => id)) ⟨w1.heap.size, 0, none⟩ 2 2 [.int .i64 (-77), .int .i32 0, .int .i64 (-77), .int .i32 0] rfl rfl (cell_four_new _ _ _ _ _ _) (oneCell_wr [farW, farW]) bm bb ?_; intro v2 w2 hA2; have H2 := roomy_done H1.out.2.1 H1.out.2.2 hA2; clear hA2; obtain ⟨g, cp, hv2, q1, q2, q3, q4⟩ := H2; have HQ : Hid (w.heap.size ≤ g ∧ Row w2 152 2 (.slice (some ⟨g, 0, none⟩) (n + 2) cp) (n + 2) ((ws ++ [farW, farW]).flatMap wrC) ∧ Kept (fun _ => False) w w2) := ⟨q2, q3, q4⟩; clear q2 q3 q4; subst hv2))
  go_ret
  exact ⟨g, cp, rfl, by omega, HQ.out.1, HQ.out.2.1, HQ.out.2.2⟩

set_option maxRecDepth 100000 in
set_option maxHeartbeats 1000000 in
theorem roomy_none (w : World) :
    Calls Tryz.prog 27 #[.slice none 0 0] w fun e w' => RoomyPost w 0 [] e w' := by
  obtain ⟨i0, hi, hz0, hz1, hz2⟩ := info_parts Tryz.infoWrite
  have HI : Hid (Tryz.prog.info? 152 = some i0 ∧ i0.zero = some (.agg #[.int .i64 0, .int .i32 0]) ∧ i0.size = 2 ∧ i0.bytes = 16) := ⟨hi, hz0, hz1, hz2⟩
  clear hi hz0 hz1 hz2
  go_enter Tryz.func27, Tryz.ntmps27
  go_wp2_with (first
    | (at_builtin; refine wpList_append_own_none rfl (.tmp 4) (.tmp 5) 35 rfl 0 152 i0 2 Tryz.underlying35 HI.out.1 (.slice none 0 0) 0 [] rfl (World.ownsRow_nil _ _ _ _) rfl ?_)
    | (at_builtin; refine wpList_append_mine _ rfl (.tmp 7) (.tmp 10) 35 rfl 152 i0 (.agg #[.int .i64 0, .int .i32 0]) 2 16 Tryz.underlying35 HI.out.1 HI.out.2.1 HI.out.2.2.1 HI.out.2.2.2 rfl (by decide) (.slice none 0 0) 0 [] rfl (Row.nil _ _ _) ⟨w.heap.size, 0, none⟩ 2 2 [.int .i64 (-77), .int .i32 0, .int .i64 (-77), .int .i32 0] rfl rfl (cell_four_new _ _ _ _ _ _) (oneCell_wr [farW, farW]) (by unfold maxLen; omega) (by omega) ?_; intro v2 w2 hA2; have H2 := roomy_done (w := w) (ws := []) (Kept.refl _ _) (fun x hx => by simp [Value.ownBlock] at hx) hA2; clear hA2; obtain ⟨g, cp, hv2, q1, q2, q3, q4⟩ := H2; have HQ : Hid (w.heap.size ≤ g ∧ Row w2 152 2 (.slice (some ⟨g, 0, none⟩) (0 + 2) cp) (0 + 2) (([] ++ [farW, farW]).flatMap wrC) ∧ Kept (fun _ => False) w w2) := ⟨q2, q3, q4⟩; clear q2 q3 q4; subst hv2))
  go_ret
  exact ⟨g, cp, rfl, by omega, HQ.out.1, HQ.out.2.1, HQ.out.2.2⟩

end Go.Proofs.YtpfcacedpkaihaaGreat

/- The law's own still (package almanaclaw), walked. -/
namespace Go.Proofs.YtpfcacedpkaihaaGreat
open Go.RowKit

def StillPost (w : World) (g : Nat) (e : Ending) (w' : World) : Prop := e = .returned (.bool true) ∧ Kept (fun x => x = g) w w'

/-- what is left to be looked at. -/
structure Left (w wr : World) (g k : Nat) (xs : List (Int × Int)) : Prop where
  kept : Kept (fun x => x = g) w wr
  cell : ∀ j (h : j < xs.length), k ≤ j → wr.cell? ⟨g, j * 2, none⟩ = some (.int .i64 xs[j].1) ∧ wr.cell? ⟨g, j * 2 + 1, none⟩ = some (.int .i32 xs[j].2)
  free : ∀ o, wr.frozen? ⟨g, o, none⟩ = false
  lt : g < w.heap.size

theorem Left.next {w wr : World} {g k : Nat} {xs : List (Int × Int)} (h : Left w wr g k xs) (o : Obj) (a c : Value) (n : Nat) : Left w ((((wr.alloc o).drewN n).setCell ⟨g, k * 2, none⟩ a).setCell ⟨g, k * 2 + 1, none⟩ c) g (k + 1) xs := by
  have hlt : g < wr.heap.size := Nat.lt_of_lt_of_le h.lt h.kept.size
  refine ⟨((((h.kept.trans (Kept.alloc wr o (fun _ => False)) (fun _ => id) (fun _ _ => False.elim)).drewN n).trans (Kept.setCell _ ⟨g, k * 2, none⟩ a) (fun _ => id) (fun _ _ => id)).trans (Kept.setCell _ ⟨g, k * 2 + 1, none⟩ c) (fun _ => id) (fun _ _ => id)), fun j hj hk => ?_, fun q => ?_, h.lt⟩
  · obtain ⟨c0, c1⟩ := h.cell j hj (by omega)
    have e1 : (⟨g, k * 2, none⟩ : Addr) ≠ ⟨g, j * 2, none⟩ := by intro e; injection e with _ e _; omega
    have e2 : (⟨g, k * 2 + 1, none⟩ : Addr) ≠ ⟨g, j * 2, none⟩ := by intro e; injection e with _ e _; omega
    have e3 : (⟨g, k * 2, none⟩ : Addr) ≠ ⟨g, j * 2 + 1, none⟩ := by intro e; injection e with _ e _; omega
    have e4 : (⟨g, k * 2 + 1, none⟩ : Addr) ≠ ⟨g, j * 2 + 1, none⟩ := by intro e; injection e with _ e _; omega
    have d0 : ((wr.alloc o).drewN n).cell? ⟨g, j * 2, none⟩ = some (.int .i64 xs[j].1) := (World.cell?_alloc_past o g (j * 2) hlt).trans c0
    have d1 : ((wr.alloc o).drewN n).cell? ⟨g, j * 2 + 1, none⟩ = some (.int .i32 xs[j].2) := (World.cell?_alloc_past o g (j * 2 + 1) hlt).trans c1
    constructor
    · rw [World.cell?_setCell_other _ _ _ _ e2, World.cell?_setCell_other _ _ _ _ e1]; exact d0
    · rw [World.cell?_setCell_other _ _ _ _ e4, World.cell?_setCell_other _ _ _ _ e3]; exact d1
  · rw [World.frozen?_setCell, World.frozen?_setCell]
    exact (World.frozen?_alloc_past o g q hlt).trans (h.free q)

set_option maxRecDepth 100000 in
set_option maxHeartbeats 2000000 in
theorem still_any (w : World) (g n cap : Nat) (ao : Option Addr) (cl : Nat) (ws : List (Int × Int)) (hw : Wr w ao n ws) (hne : 0 < n → ∀ a, ao = some a → a.block ≠ g) (hc : n + 2 ≤ cap) (hcm : cap ≤ maxLen) (hL : Left w w g 0 (ws ++ [farW, farW])) :
    Calls Tryz.prog 30 #[.slice (some ⟨g, 0, none⟩) n cap, .slice ao n cl] w fun e w' => StillPost w g e w' := by
  unfold maxLen at hcm
  have HW : Hid (Wr w ao n ws) := hw
  have HNE : Hid (0 < n → ∀ a, ao = some a → a.block ≠ g) := hne
  have HL0 : Hid (Left w w g 0 (ws ++ [farW, farW])) := hL
  have hl := hw.len
  clear hw hne hL
  go_enter Tryz.func30, Tryz.ntmps30
  go_wp2
  go_loopw [6, 7] (fun ok i wr => ∃ k : Nat, k ≤ n + 2 ∧ i = .int .i64 k ∧ ok = .bool true ∧ Hid (Left w wr g k (ws ++ [farW, farW]))) (fun _ i _ => n + 2 - (intOf i).toNat)
  case atStart => exact ⟨0, Nat.zero_le _, rfl, rfl, HL0⟩
  case round =>
    obtain ⟨k, hk, rfl, rfl, HL⟩ := hrel
    by_cases hlt : k < n + 2
    · have hlx : k < (ws ++ [farW, farW]).length := by simp; omega
      obtain ⟨c0, c1⟩ := HL.out.cell k hlx (Nat.le_refl _)
      have f0 := HL.out.free (k * 2)
      have f1 := HL.out.free (k * 2 + 1)
      have hgz : g < wr.heap.size := Nat.lt_of_lt_of_le HL.out.lt HL.out.kept.size
      by_cases hin : k < n
      · have hlt' : k < ws.length := by omega
        obtain ⟨bl, off, hao, z0, z1⟩ := HW.out.cell k hlt'
        have hbl : bl < w.heap.size := World.block_lt_of_cell? w _ z0
        have hbg : bl ≠ g := HNE.out (by omega) _ hao
        have hbb := HL.out.kept.block bl hbl hbg
        have y0 := (World.cell?_of_block (a := ⟨bl, off + k * 2, none⟩) hbb).trans z0
        have y1 := (World.cell?_of_block (a := ⟨bl, off + k * 2 + 1, none⟩) hbb).trans z1
        have hbz : bl < wr.heap.size := Nat.lt_of_lt_of_le hbl HL.out.kept.size
        obtain ⟨x, hx⟩ : ∃ x, x = ws[k].1 := ⟨_, rfl⟩
        obtain ⟨y, hy⟩ : ∃ y, y = ws[k].2 := ⟨_, rfl⟩
        have e : (ws ++ [farW, farW])[k] = ws[k] := List.getElem_append_left hlt'
        rw [e, ← hx] at c0
        rw [e, ← hy] at c1
        rw [← hx] at y0
        rw [← hy] at y1
        clear hbb z0 z1 hx hy e
        subst hao
        go_wp2_with fail
        go_quiet (fail)
        go_wp2
        go_roundw
        case rel => exact ⟨k + 1, by omega, by go_num, rfl, HL.out.next _ _ _ _⟩
        case measure => simp [intOf]; omega
      · have e : (ws ++ [farW, farW])[k] = farW := by
          rw [List.getElem_append_right (by omega)]
          have hc2 : k - ws.length = 0 ∨ k - ws.length = 1 := by omega
          rcases hc2 with h | h <;> simp [h]
        rw [e] at c0 c1
        have c0' : wr.cell? ⟨g, k * 2, none⟩ = some (.int .i64 (-77)) := c0
        have c1' : wr.cell? ⟨g, k * 2 + 1, none⟩ = some (.int .i32 0) := c1
        clear c0 c1 e
        go_wp2_with fail
        go_quiet (fail)
        go_wp2
        go_roundw
        case rel => exact ⟨k + 1, by omega, by go_num, rfl, HL.out.next _ _ _ _⟩
        case measure => simp [intOf]; omega
    · go_wp2
      go_ret
      exact ⟨rfl, HL.out.kept⟩

end Go.Proofs.YtpfcacedpkaihaaGreat

/- The law's commit (package almanaclaw), walked. -/
namespace Go.Proofs.YtpfcacedpkaihaaGreat
open Go.RowKit

theorem roomy_use {w1 : World} {g cap n : Nat} {ws : List (Int × Int)} (hl : ws.length = n) (h : Row w1 152 2 (.slice (some ⟨g, 0, none⟩) (n + 2) cap) (n + 2) ((ws ++ [farW, farW]).flatMap wrC)) :
    Wr w1 (some ⟨g, 0, none⟩) n ws ∧ Left w1 w1 g 0 (ws ++ [farW, farW]) ∧ cap ≤ maxLen := by
  have hcell : ∀ j (hj : j < (ws ++ [farW, farW]).length), w1.cell? ⟨g, j * 2, none⟩ = some (.int .i64 (ws ++ [farW, farW])[j].1) ∧ w1.cell? ⟨g, j * 2 + 1, none⟩ = some (.int .i32 (ws ++ [farW, farW])[j].2) := by
    intro j hj
    refine ⟨h.cell rfl (j * 2) _ ?_, h.cell rfl (j * 2 + 1) _ ?_⟩
    · have := flat_at wrC 2 (fun _ => rfl) (ws ++ [farW, farW]) j hj 0 (by omega)
      rw [Nat.add_zero] at this
      rw [this]; rfl
    · rw [flat_at wrC 2 (fun _ => rfl) (ws ++ [farW, farW]) j hj 1 (by omega)]; rfl
  have hblk : ∃ cur, Blk w1 g 152 cur ∧ cap ≤ maxLen := by
    rcases h.shape with ⟨e, _⟩ | ⟨g', cap', cur, e, hb, _, hm, _⟩
    · cases e
    · injection e with e1 _ e2
      injection e1 with e1
      injection e1 with e1 _ _
      subst e1 e2
      exact ⟨cur, hb, hm⟩
  obtain ⟨cur, hb, hm⟩ := hblk
  refine ⟨⟨hl, fun j hj => ⟨g, 0, rfl, ?_⟩⟩, ⟨Kept.refl _ _, fun j hj _ => hcell j hj, fun o => hb.free o, hb.lt⟩, hm⟩
  have hj' : j < (ws ++ [farW, farW]).length := by simp; omega
  have e : (ws ++ [farW, farW])[j] = ws[j] := List.getElem_append_left hj
  have := hcell j hj'
  rw [e] at this
  simpa using this

theorem Left.kept' {w1 w3 : World} {g : Nat} {xs : List (Int × Int)} {F : Nat → Prop} (h : Left w1 w1 g 0 xs) (k : Kept F w1 w3) (hF : ¬ F g) : Left w3 w3 g 0 xs := by
  have hb := k.block g h.lt hF
  refine ⟨Kept.refl _ _, fun j hj _ => ?_, fun o => ?_, Nat.lt_of_lt_of_le h.lt k.size⟩
  · obtain ⟨c0, c1⟩ := h.cell j hj (Nat.zero_le _)
    exact ⟨(World.cell?_of_block (a := ⟨g, j * 2, none⟩) hb).trans c0, (World.cell?_of_block (a := ⟨g, j * 2 + 1, none⟩) hb).trans c1⟩
  · exact (World.frozen?_of_block (a := ⟨g, o, none⟩) hb).trans (h.free o)

theorem roomy_any (w : World) (ao : Option Addr) (n cap : Nat) (ws : List (Int × Int)) (hw : Wr w ao n ws) (hreach : n * 16 ≤ 140737488351232) (hno : ao = none → n = 0 ∧ cap = 0) :
    Calls Tryz.prog 27 #[.slice ao n cap] w fun e w' => RoomyPost w n ws e w' := by
  cases ao with
  | some a => exact roomy_some w a n cap ws hw hreach
  | none =>
    obtain ⟨rfl, rfl⟩ := hno rfl
    have : ws = [] := List.eq_nil_of_length_eq_zero hw.len
    subst this
    exact roomy_none w

/-- the play's own block. -/
def playC (vps : Value) (a b c : Value) (commits most : Int) : Array Value := #[vps, a, b, c, .int .i64 commits, .int .i64 most]

/-- what a commit of the law leaves. -/
def LCommitPost (w : World) (pb xb cb : Nat) (D : DevS) (R : RefS) (vps b0 b1 b2 : Value) (commits most : Int) (e : Ending) (w' : World) : Prop :=
  e = .returned (.bool true) ∧ Blk w' pb 34 (playC vps b0 b1 b2 (commits + 1) most) ∧
    ∃ D' R', Pair w' xb cb D' R' ∧ Kept (fun k => k = pb ∨ pfp xb cb D R k) w w' ∧ (∀ k, pfp xb cb D' R' k → pfp xb cb D R k ∨ w.heap.size ≤ k) ∧ R'.uses.length ≤ R.uses.length + 1

/-- the play's block has turned, then both worlds. -/
theorem LCommitPost.mk' {w wc w' : World} {pb xb cb : Nat} {D : DevS} {R : RefS} {vps b0 b1 b2 : Value} {commits most : Int} (hpb : ¬ pfp xb cb D R pb)
    (k0 : Kept (fun k => k = pb) w wc) (hb : Blk wc pb 34 (playC vps b0 b1 b2 (commits + 1) most)) (h : Turned wc w' xb cb D R) :
    LCommitPost w pb xb cb D R vps b0 b1 b2 commits most (.returned (.bool true)) w' := by
  obtain ⟨D', R', hp, hk, hf, hu⟩ := h
  exact ⟨rfl, hb.kept hk hpb, D', R', hp, k0.trans hk (fun _ => .inl) (fun _ _ => .inr), fun k hk => (hf k hk).imp id fun x => Nat.le_trans k0.size x, hu⟩

end Go.Proofs.YtpfcacedpkaihaaGreat
