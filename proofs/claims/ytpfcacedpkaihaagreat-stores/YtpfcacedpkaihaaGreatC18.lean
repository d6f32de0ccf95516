import Derived.Test.YtpfcacedpkaihaaGreatC8
import Derived.Deep.QuietTactic
import Derived.BigQuiet
import Derived.Test.YtpfcacedpkaihaaGreatC5
import Derived.Test.YtpfcacedpkaihaaGreatC17
import Derived.Test.YtpfcacedpkaihaaGreatC16
namespace Go.Proofs.YtpfcacedpkaihaaGreat
open Go.RowKit
set_option maxRecDepth 100000
set_option maxHeartbeats 16000000
def DSpanPost (w : World) (D : DevS) (m : Int) (e : Ending) (w' : World) : Prop :=
 Kept (fun _ => False) w w' ∧ (((∀ i, i < 6 → (D.seats i).reads = true → (D.seats i).num ≠ m) ∧ e = .returned (.tuple #[.agg #[.int .u64 0, .int .u64 0], .int .i64 8])) ∨
  (∃ j, j < 6 ∧ (D.seats j).reads = true ∧ (D.seats j).num = m ∧ e = .returned (.tuple #[.agg #[.int .u64 ((D.seats j).lo : Int), .int .u64 ((D.seats j).hi : Int)], .int .i64 0])))
theorem dspan (w : World) (b : Nat) (D : DevS) (m : Int) (h : Dev w b D) :
  Calls Tryz.prog 87 #[.pointer (some ⟨b, 2, none⟩), .int .i64 m] w fun e w' => DSpanPost w D m e w' := by
 have HD : Hid (Dev w b D) := h
 have hbl := h.blk.lt
 have HD1 : Hid (∀ o, Dev (w.alloc o) b D) := fun o => h.kept (Kept.alloc w o (fun _ => False)) (fun _ _ => id)
 by_cases hall : ∀ i, i < 6 → (D.seats i).reads = true → (D.seats i).num ≠ m
 · have HALL : Hid (∀ i, i < 6 → (D.seats i).reads = true → (D.seats i).num ≠ m) := hall
  have HFR : Hid (∀ o, Calls Tryz.prog 133 #[.pointer (some ⟨b, 2, none⟩), .int .i64 m] (w.alloc o) fun e w' => e = .returned (.tuple #[.int .i64 0, .bool false]) ∧ Kept (fun _ => False) w w' ∧ w'.heap[w.heap.size]? = (w.alloc o).heap[w.heap.size]?) :=
   fun o => (dseat (w.alloc o) b D m (HD1.out o)).mono fun e w' hp => by
    obtain ⟨k, ⟨j, hj, hr, hn, _⟩ | ⟨_, e2⟩⟩ := hp
    · exact absurd hn (hall j hj hr)
    · exact ⟨e2, (Kept.alloc w o (fun _ => False)).trans k (fun _ => id) (fun _ _ => id), k.block _ (by simp) id⟩
  clear h hall
  go_enter Tryz.func87, Tryz.ntmps87
  go_wp2_with (go_at_call 133; refine (HFR.out _).mono ?_; rintro e w1 ⟨rfl, hk1, hb1⟩; have p0 : w1.cell? ⟨w.heap.size, 0, none⟩ = some (.int .u64 0) := (World.cell?_of_block (a := ⟨w.heap.size, 0, none⟩) hb1).trans (by simp); have p1 : w1.cell? ⟨w.heap.size, 1, none⟩ = some (.int .u64 0) := (World.cell?_of_block (a := ⟨w.heap.size, 1, none⟩) hb1).trans (by simp); have g0 : w1.frozen? ⟨w.heap.size, 0, none⟩ = false := (World.frozen?_of_block (a := ⟨w.heap.size, 0, none⟩) hb1).trans (by simp); have g1 : w1.frozen? ⟨w.heap.size, 1, none⟩ = false := (World.frozen?_of_block (a := ⟨w.heap.size, 1, none⟩) hb1).trans (by simp))
  refine bodyPost_ret (v := .tuple #[.agg #[.int .u64 0, .int .u64 0], .int .i64 8]) (by simp [results, Tryz.results87, go_sem, *]) rfl ⟨?_, .inl ⟨HALL.out, rfl⟩⟩
  exact (hk1.setNew _ 0 _ (Nat.le_refl _)).setNew _ 1 _ (Nat.le_refl _)
 · have HFR : Hid (∀ o, Calls Tryz.prog 133 #[.pointer (some ⟨b, 2, none⟩), .int .i64 m] (w.alloc o) fun e w' => ∃ j, j < 6 ∧ Hid ((D.seats j).reads = true ∧ (D.seats j).num = m) ∧ e = .returned (.tuple #[.int .i64 (j : Int), .bool true]) ∧ Kept (fun _ => False) w w' ∧ w'.heap[w.heap.size]? = (w.alloc o).heap[w.heap.size]? ∧ w.heap.size < w'.heap.size) :=
   fun o => (dseat (w.alloc o) b D m (HD1.out o)).mono fun e w' hp => by
    obtain ⟨k, ⟨j, hj, hr, hn, e2⟩ | ⟨ha, _⟩⟩ := hp
    · exact ⟨j, hj, ⟨hr, hn⟩, e2, (Kept.alloc w o (fun _ => False)).trans k (fun _ => id) (fun _ _ => id), k.block _ (by simp) id, by have := k.size; simp at this; omega⟩
    · exact absurd ha hall
  clear h hall
  go_enter Tryz.func87, Tryz.ntmps87
  go_wp2_with (go_at_call 133; refine (HFR.out _).mono ?_; rintro e w1 ⟨j, hj, hr, rfl, hk1, hb1, hsz1⟩; have p0 : w1.cell? ⟨w.heap.size, 0, none⟩ = some (.int .u64 0) := (World.cell?_of_block (a := ⟨w.heap.size, 0, none⟩) hb1).trans (by simp); have p1 : w1.cell? ⟨w.heap.size, 1, none⟩ = some (.int .u64 0) := (World.cell?_of_block (a := ⟨w.heap.size, 1, none⟩) hb1).trans (by simp); have g0 : w1.frozen? ⟨w.heap.size, 0, none⟩ = false := (World.frozen?_of_block (a := ⟨w.heap.size, 0, none⟩) hb1).trans (by simp); have g1 : w1.frozen? ⟨w.heap.size, 1, none⟩ = false := (World.frozen?_of_block (a := ⟨w.heap.size, 1, none⟩) hb1).trans (by simp); have hD1 : Dev w1 b D := HD.out.kept hk1 (fun _ _ => id); obtain ⟨s0, s1, s2, s3⟩ := hD1.seat j hj; clear hD1 hb1; have hbs : b ≠ w.heap.size := Nat.ne_of_lt hbl; have hbw : b < w1.heap.size := Nat.lt_trans hbl hsz1)
  refine bodyPost_ret (v := .tuple #[.agg #[.int .u64 ((D.seats j).lo : Int), .int .u64 ((D.seats j).hi : Int)], .int .i64 0]) (by simp [results, Tryz.results87, go_sem, *]) rfl ⟨?_, .inr ⟨j, hj, hr.out.1, hr.out.2, rfl⟩⟩
  exact (hk1.setNew _ 0 _ (Nat.le_refl _)).setNew _ 1 _ (Nat.le_refl _)
def SeatE.cut (s : SeatE) (f t : Nat) : SeatE := { s with lo := max s.lo f, hi := min s.hi t }
theorem seat_cells2 (D : DevS) (j : Nat) (hj : j < 6) (lo hi : Nat) :
  ((D.cells.setIfInBounds (3 + j * 4 + 2) (.int .u64 (lo : Int))).setIfInBounds (3 + j * 4 + 3) (.int .u64 (hi : Int))) = (D.seatP j { D.seats j with lo := lo, hi := hi } D.begun).cells := by
 rcases six hj with rfl | rfl | rfl | rfl | rfl | rfl <;> simp [DevS.cells, DevS.seatP, putSeat]
theorem Dev.seatSpan {w w1 : World} {b : Nat} {D : DevS} (h : Dev w1 b D) (k : Kept (fun _ => False) w w1) (j : Nat) (hj : j < 6) (lo hi : Nat) (W : World)
  (hW : W.heap = ((w1.setCell ⟨b, 3 + j * 4 + 2, none⟩ (.int .u64 (lo : Int))).setCell ⟨b, 3 + j * 4 + 3, none⟩ (.int .u64 (hi : Int))).heap) (h1 : W.os = w1.os) (h2 : W.tape = w1.tape) (h3 : W.output = w1.output) :
  Dev W b (D.seatP j { D.seats j with lo := lo, hi := hi } D.begun) ∧ Kept (D.fp b) w W := by
 have kk := (Kept.setCell w1 ⟨b, 3 + j * 4 + 2, none⟩ (.int .u64 (lo : Int))).trans (Kept.setCell _ ⟨b, 3 + j * 4 + 3, none⟩ (.int .u64 (hi : Int))) (H := fun k => k = b) (fun _ => id) (fun _ _ => id)
 have kW : Kept (fun k => k = b) w1 W := ⟨h1, h2, h3, by rw [hW]; exact kk.size, fun i hi hn => by rw [hW]; exact kk.block i hi hn⟩
 have bb := (h.blk.set (3 + j * 4 + 2) (.int .u64 (lo : Int))).set (3 + j * 4 + 3) (.int .u64 (hi : Int))
 rw [seat_cells2 D j hj lo hi] at bb
 exact ⟨h.own kW rfl (bb.same (by rw [hW])), k.trans kW (fun _ => False.elim) (fun i _ he => .inl he)⟩
def DNarrowPost (w : World) (b : Nat) (D : DevS) (j f t : Nat) (e : Ending) (w' : World) : Prop := e = .returned (.tuple #[]) ∧ Dev w' b (D.seatP j ((D.seats j).cut f t) D.begun) ∧ Kept (D.fp b) w w'
theorem dnarrow (w : World) (b : Nat) (D : DevS) (m : Int) (j f t : Nat) (h : Dev w b D) (hj : j < 6) (hr : (D.seats j).reads = true) (hn : (D.seats j).num = m) (hone : ∀ i, i < 6 → (D.seats i).reads = true → (D.seats i).num = m → i = j) :
  Calls Tryz.prog 90 #[.pointer (some ⟨b, 2, none⟩), .int .i64 m, .agg #[.int .u64 (f : Int), .int .u64 (t : Int)]] w fun e w' => DNarrowPost w b D j f t e w' := by
 have HD : Hid (Dev w b D) := h
 have hbl := h.blk.lt
 have HFR : Hid (∀ o, Calls Tryz.prog 133 #[.pointer (some ⟨b, 2, none⟩), .int .i64 m] (w.alloc o) fun e w' => e = .returned (.tuple #[.int .i64 (j : Int), .bool true]) ∧ Kept (fun _ => False) w w' ∧ w'.heap[w.heap.size]? = (w.alloc o).heap[w.heap.size]? ∧ w.heap.size < w'.heap.size) :=
  fun o => (dseat (w.alloc o) b D m (h.kept (Kept.alloc w o (fun _ => False)) (fun _ _ => id))).mono fun e w' hp => by
   obtain ⟨k, ⟨i, hi, hri, hni, e2⟩ | ⟨ha, _⟩⟩ := hp
   · have := hone i hi hri hni
    subst this
    exact ⟨e2, (Kept.alloc w o (fun _ => False)).trans k (fun _ => id) (fun _ _ => id), k.block _ (by simp) id, by have := k.size; simp at this; omega⟩
   · exact absurd hn (ha j hj hr)
 have HLO : Hid (∀ W, Dev W b (D.seatP j { D.seats j with lo := max (D.seats j).lo f, hi := min (D.seats j).hi t } D.begun) ∧ Kept (D.fp b) w W → DNarrowPost w b D j f t (.returned (.tuple #[])) W) := fun W hW => ⟨rfl, hW⟩
 obtain ⟨lo, hlo⟩ : ∃ lo, lo = (D.seats j).lo := ⟨_, rfl⟩
 obtain ⟨hi, hhi⟩ : ∃ hi, hi = (D.seats j).hi := ⟨_, rfl⟩
 have HS : Hid (∀ W, Kept (fun _ => False) w W → Dev W b D ∧ W.cell? ⟨b, 3 + j * 4 + 2, none⟩ = some (.int .u64 (lo : Int)) ∧ W.cell? ⟨b, 3 + j * 4 + 3, none⟩ = some (.int .u64 (hi : Int)) ∧ W.frozen? ⟨b, 3 + j * 4 + 2, none⟩ = false ∧ W.frozen? ⟨b, 3 + j * 4 + 3, none⟩ = false) := fun W hW => by
  have hd := h.kept hW (fun _ _ => id)
  exact ⟨hd, by rw [hlo]; exact (hd.seat j hj).2.2.1, by rw [hhi]; exact (hd.seat j hj).2.2.2, hd.blk.free _, hd.blk.free _⟩
 rw [← hlo, ← hhi] at HLO
 have hj0 : (0 : Int) ≤ (j : Int) := by omega
 have hj6 : (j : Int) < 6 := by omega
 clear h hr hn hone hlo hhi
 have hcase : (lo < f ∧ t < hi) ∨ (lo < f ∧ hi ≤ t) ∨ (f ≤ lo ∧ t < hi) ∨ (f ≤ lo ∧ hi ≤ t) := by omega
 rcases hcase with ⟨q1, q2⟩ | ⟨q1, q2⟩ | ⟨q1, q2⟩ | ⟨q1, q2⟩
 · have em : max lo f = f := by omega
  have en : min hi t = t := by omega
  rw [em, en] at HLO
  clear em en
  go_enter Tryz.func90, Tryz.ntmps90
  go_wp2_with (go_at_call 133; refine (HFR.out _).mono ?_; rintro e w1 ⟨rfl, hk1, hb1, hsz1⟩; obtain ⟨hd1, s2, s3, f2, f3⟩ := HS.out _ hk1; have HD1 : Hid (Dev w1 b D) := hd1; clear hd1; have p0 : w1.cell? ⟨w.heap.size, 0, none⟩ = some (.int .u64 (f : Int)) := (World.cell?_of_block (a := ⟨w.heap.size, 0, none⟩) hb1).trans (by simp); have p1 : w1.cell? ⟨w.heap.size, 1, none⟩ = some (.int .u64 (t : Int)) := (World.cell?_of_block (a := ⟨w.heap.size, 1, none⟩) hb1).trans (by simp); clear hb1; have hbs : b ≠ w.heap.size := Nat.ne_of_lt hbl; have hbw : b < w1.heap.size := Nat.lt_trans hbl hsz1)
  go_region
  all_goals
   go_wp2
   go_end0
   exact HLO.out _ (Dev.besides (HD1.out.seatSpan hk1 j hj f t _ rfl rfl rfl rfl) ((Kept.alloc _ _ (fun _ => False)).drew) (fun _ => False.elim) (fun i hi => HD.out.lt i hi))
 · have em : max lo f = f := by omega
  have en : min hi t = hi := by omega
  rw [em, en] at HLO
  clear em en
  go_enter Tryz.func90, Tryz.ntmps90
  go_wp2_with (go_at_call 133; refine (HFR.out _).mono ?_; rintro e w1 ⟨rfl, hk1, hb1, hsz1⟩; obtain ⟨hd1, s2, s3, f2, f3⟩ := HS.out _ hk1; have HD1 : Hid (Dev w1 b D) := hd1; clear hd1; have p0 : w1.cell? ⟨w.heap.size, 0, none⟩ = some (.int .u64 (f : Int)) := (World.cell?_of_block (a := ⟨w.heap.size, 0, none⟩) hb1).trans (by simp); have p1 : w1.cell? ⟨w.heap.size, 1, none⟩ = some (.int .u64 (t : Int)) := (World.cell?_of_block (a := ⟨w.heap.size, 1, none⟩) hb1).trans (by simp); clear hb1; have hbs : b ≠ w.heap.size := Nat.ne_of_lt hbl; have hbw : b < w1.heap.size := Nat.lt_trans hbl hsz1)
  go_region
  all_goals
   go_wp2
   go_end0
   exact HLO.out _ (Dev.besides (HD1.out.seatSpan hk1 j hj f hi _ rfl rfl rfl rfl) ((Kept.alloc _ _ (fun _ => False)).drew) (fun _ => False.elim) (fun i hi => HD.out.lt i hi))
 · have em : max lo f = lo := by omega
  have en : min hi t = t := by omega
  rw [em, en] at HLO
  clear em en
  go_enter Tryz.func90, Tryz.ntmps90
  go_wp2_with (go_at_call 133; refine (HFR.out _).mono ?_; rintro e w1 ⟨rfl, hk1, hb1, hsz1⟩; obtain ⟨hd1, s2, s3, f2, f3⟩ := HS.out _ hk1; have HD1 : Hid (Dev w1 b D) := hd1; clear hd1; have p0 : w1.cell? ⟨w.heap.size, 0, none⟩ = some (.int .u64 (f : Int)) := (World.cell?_of_block (a := ⟨w.heap.size, 0, none⟩) hb1).trans (by simp); have p1 : w1.cell? ⟨w.heap.size, 1, none⟩ = some (.int .u64 (t : Int)) := (World.cell?_of_block (a := ⟨w.heap.size, 1, none⟩) hb1).trans (by simp); clear hb1; have hbs : b ≠ w.heap.size := Nat.ne_of_lt hbl; have hbw : b < w1.heap.size := Nat.lt_trans hbl hsz1)
  go_region
  all_goals
   go_wp2
   go_end0
   exact HLO.out _ (Dev.besides (HD1.out.seatSpan hk1 j hj lo t _ rfl rfl rfl rfl) ((Kept.alloc _ _ (fun _ => False)).drew) (fun _ => False.elim) (fun i hi => HD.out.lt i hi))
 · have em : max lo f = lo := by omega
  have en : min hi t = hi := by omega
  rw [em, en] at HLO
  clear em en
  go_enter Tryz.func90, Tryz.ntmps90
  go_wp2_with (go_at_call 133; refine (HFR.out _).mono ?_; rintro e w1 ⟨rfl, hk1, hb1, hsz1⟩; obtain ⟨hd1, s2, s3, f2, f3⟩ := HS.out _ hk1; have HD1 : Hid (Dev w1 b D) := hd1; clear hd1; have p0 : w1.cell? ⟨w.heap.size, 0, none⟩ = some (.int .u64 (f : Int)) := (World.cell?_of_block (a := ⟨w.heap.size, 0, none⟩) hb1).trans (by simp); have p1 : w1.cell? ⟨w.heap.size, 1, none⟩ = some (.int .u64 (t : Int)) := (World.cell?_of_block (a := ⟨w.heap.size, 1, none⟩) hb1).trans (by simp); clear hb1; have hbs : b ≠ w.heap.size := Nat.ne_of_lt hbl; have hbw : b < w1.heap.size := Nat.lt_trans hbl hsz1)
  go_region
  all_goals
   go_wp2
   go_end0
   exact HLO.out _ (Dev.besides (HD1.out.seatSpan hk1 j hj lo hi _ rfl rfl rfl rfl) ((Kept.alloc _ _ (fun _ => False)).drew) (fun _ => False.elim) (fun i hi => HD.out.lt i hi))
def evalL (x : Nat → Int) (ts : List (Nat × Nat)) : Int := ts.foldl (fun v t => step32 v t.1 (x t.2)) 0
theorem evalL_snoc (x : Nat → Int) (ts : List (Nat × Nat)) (j : Nat) (h : j < ts.length) : evalL x (ts.take (j + 1)) = step32 (evalL x (ts.take j)) ts[j].1 (x ts[j].2) := by
 rw [evalL, List.take_succ_eq_append_getElem h, List.foldl_append]; rfl
theorem box8 (x : Nat → Int) (w : World) (E : TypeId) (k : Nat) (hk : k ≤ 7) :
  (w.alloc (.cells #[.int .i32 (x 0), .int .i32 (x 1), .int .i32 (x 2), .int .i32 (x 3), .int .i32 (x 4), .int .i32 (x 5), .int .i32 (x 6), .int .i32 (x 7)] E)).cell? ⟨w.heap.size, k, none⟩ = some (.int .i32 (x k)) := by
 have hc : k = 0 ∨ k = 1 ∨ k = 2 ∨ k = 3 ∨ k = 4 ∨ k = 5 ∨ k = 6 ∨ k = 7 := by omega
 rcases hc with rfl | rfl | rfl | rfl | rfl | rfl | rfl | rfl <;> simp
theorem qEval_good (s : ByteArray) (x : Nat → Int) (w : World) (ts : List (Nat × Nat)) (hr : Q.readL s.data.toList = (0, ts)) :
  Calls Tryz.prog 138 #[.string s, .agg #[.int .i32 (x 0), .int .i32 (x 1), .int .i32 (x 2), .int .i32 (x 3), .int .i32 (x 4), .int .i32 (x 5), .int .i32 (x 6), .int .i32 (x 7)]] w fun e w' =>
   e = .returned (.tuple #[.int .i32 (evalL x ts), .int .i64 0]) ∧ Below w.heap.size w w' := by
 have HR : Hid (Q.readL s.data.toList = (0, ts)) := hr
 obtain ⟨hne, h8, hks⟩ : ts ≠ [] ∧ ts.length ≤ 8 ∧ ∀ t ∈ ts, t.1 ≤ 3 ∧ t.2 ≤ 7 := by
  rcases Q.readL_cases s.data.toList with h | h | ⟨us, h, r⟩
  · rw [h] at hr; simp at hr
  · rw [h] at hr; simp at hr
  · rw [h] at hr; simp at hr; subst hr; exact r
 have HKS : Hid (∀ t ∈ ts, t.1 ≤ 3 ∧ t.2 ≤ 7) := hks
 clear hr hne hks
 go_enter Tryz.func138, Tryz.ntmps138
 go_wp2_with (go_at_call 124; refine (read_good s _ ts HR.out).mono ?_; rintro e w1 ⟨g, cap, rfl, hg, hl, hb⟩)
 have hsz : w.heap.size < w1.heap.size := by have := hb.size; simp at this; omega
 have HX : Hid (∀ k, k ≤ 7 → w1.cell? ⟨w.heap.size, k, none⟩ = some (.int .i32 (x k))) := fun k hk => (hb.cell (p := ⟨w.heap.size, k, none⟩) (by simp)).trans (box8 x w _ k hk)
 have hb1 : Below w.heap.size w w1 := (((Below.refl _ _).alloc (Nat.le_refl _) _).trans (hb.mono (by simp)))
 clear hb
 go_loopw [8, 21] (fun v i wr => ∃ k : Nat, k ≤ ts.length ∧ i = .int .i64 k ∧ v = .int .i32 (evalL x (ts.take k)) ∧ Below w1.heap.size w1 wr)
  (fun _ i _ => ts.length - (intOf i).toNat)
 case atStart => exact ⟨0, Nat.zero_le _, rfl, rfl, Below.refl _ _⟩
 case round =>
  obtain ⟨k, hk, rfl, rfl, hnx⟩ := hrel
  by_cases hlt : k < ts.length
  · have hl2 := hl.below hnx
   have hsg := hl2.sign k hlt
   have hky := hl2.key k hlt
   obtain ⟨hm3, hm7⟩ := HKS.out ts[k] (List.getElem_mem hlt)
   have hx : wr.cell? ⟨w.heap.size, ts[k].2, none⟩ = some (.int .i32 (x ts[k].2)) := (hnx.cell (p := ⟨w.heap.size, ts[k].2, none⟩) hsz).trans (HX.out _ hm7)
   have HE : Hid (evalL x (ts.take (k + 1)) = step32 (evalL x (ts.take k)) ts[k].1 (x ts[k].2)) := evalL_snoc x ts k hlt
   have hz : w.heap.size < wr.heap.size := by have := hnx.size; omega
   have hgz : g < wr.heap.size := hl2.lt
   go_wp2
   go_quiet ((go_at_call 159; exact Calls.quiet_of_same ((apply_any _ _ _ _ hm3).mono (fun _ _ h => ⟨h.1, h.2.symm⟩))))
   go_wp2
   go_roundw
   case rel => exact ⟨k + 1, by omega, by go_num, by rw [HE.out], below_drewN (hnx.alloc (by have := hnx.size; omega) _) _⟩
   case measure => simp [intOf]; omega
  · go_wp2
   go_ret2
   have hz : k = ts.length := by omega
   subst hz
   exact ⟨by simp, hb1.trans (hnx.mono (by omega))⟩
theorem till_pos {l : List PastE} {K : Int} {s : Nat} : ∀ n, n ≤ l.length - 1 → tillN l K n = some s → l.length - 1 - n < s
 | 0, _, h => by simp [tillN] at h
 | n + 1, hn, h => by
  simp only [tillN] at h
  split at h
  · injection h with h; omega
  · have := till_pos n (by omega) h; omega
def answerE (D : DevS) (q : ByteArray) (ts : List (Nat × Nat)) (t : Nat) : EntE := rightE (zeroP :: D.past) q (keysL ts) (evalL (stAt D.past t) ts) t
theorem answer_open (D : DevS) (q : ByteArray) (ts : List (Nat × Nat)) (t : Nat) : ((((answerE D q ts t).till : Nat) : Int) == 0) = (answerE D q ts t).op := by
 show (((((tillN (zeroP :: D.past) (keysL ts) ((zeroP :: D.past).length - 1 - t)).getD 0 : Nat) : Int)) == 0) = (tillN (zeroP :: D.past) (keysL ts) ((zeroP :: D.past).length - 1 - t)).isNone
 cases h : tillN (zeroP :: D.past) (keysL ts) ((zeroP :: D.past).length - 1 - t) with
 | none => rfl
 | some s =>
  have := till_pos _ (by omega) h
  have h0 : ¬ ((s : Int) = 0) := by omega
  simpa using h0
def AnswerPost (w : World) (en : EntE) (e : Ending) (w' : World) : Prop :=
 e = .returned (.agg #[.string en.q, .int .i32 en.val, .int .u64 (en.fr : Int), .int .u64 (en.till : Int), .bool en.op, .int .u64 (en.kn : Int)]) ∧ Kept (fun _ => False) w w'
theorem danswer (w : World) (b : Nat) (D : DevS) (q : ByteArray) (ts : List (Nat × Nat)) (t : Nat) (h : Dev w b D) (hf : D.Fit) (ht : t ≤ D.past.length) (hr : Q.readL q.data.toList = (0, ts)) :
  Calls Tryz.prog 91 #[.pointer (some ⟨b, 0, none⟩), .string q, .int .u8 (keysL ts), .int .u64 (t : Int)] w fun e w' => AnswerPost w (answerE D q ts t) e w' := by
 obtain ⟨en, hen⟩ : ∃ en, en = answerE D q ts t := ⟨_, rfl⟩
 obtain ⟨x, hx⟩ : ∃ x, x = stAt D.past t := ⟨_, rfl⟩
 have hbl := h.blk.lt
 have H0 : Hid (∀ W, Kept (fun _ => False) w W → Calls Tryz.prog 128 #[.pointer (some ⟨b, 0, none⟩), .int .u64 (t : Int)] W fun e w' => e = .returned (.agg #[.int .i32 (x 0), .int .i32 (x 1), .int .i32 (x 2), .int .i32 (x 3), .int .i32 (x 4), .int .i32 (x 5), .int .i32 (x 6), .int .i32 (x 7)]) ∧ Kept (fun _ => False) W w') := fun W hW => by
  have := dat W b D t (h.kept hW (fun _ _ => id)) hf ht
  rw [← hx] at this
  exact this
 have H1 : Hid (∀ W, Calls Tryz.prog 138 #[.string q, .agg #[.int .i32 (x 0), .int .i32 (x 1), .int .i32 (x 2), .int .i32 (x 3), .int .i32 (x 4), .int .i32 (x 5), .int .i32 (x 6), .int .i32 (x 7)]] W fun e w' => e = .returned (.tuple #[.int .i32 en.val, .int .i64 0]) ∧ Kept (fun _ => False) W w') := fun W => (qEval_good q x W ts hr).mono fun e w' hp => ⟨by rw [hp.1, hen, hx]; rfl, Kept.of_below hp.2 _⟩
 have H2 : Hid (∀ W, Kept (fun _ => False) w W → Calls Tryz.prog 139 #[.pointer (some ⟨b, 0, none⟩), .int .u8 (keysL ts), .int .u64 (t : Int)] W fun e w' => e = .returned (.tuple #[.int .u64 (en.fr : Int), .int .u64 (en.till : Int)]) ∧ Kept (fun _ => False) W w') := fun W hW => (dright W b D (keysL ts) t (h.kept hW (fun _ _ => id)) hf ht).mono fun e w' hp => ⟨by rw [hp.1, hen]; rfl, hp.2⟩
 have H3 : Hid (∀ W, Kept (fun _ => False) w W → Calls Tryz.prog 80 #[.pointer (some ⟨b, 0, none⟩)] W fun e w' => e = .returned (.int .u64 (en.kn : Int)) ∧ W = w') := fun W hW => (dnewest W b D (h.kept hW (fun _ _ => id)) hf).mono fun e w' hp => ⟨by rw [hp.1, hen]; rfl, hp.2⟩
 have hop : (((en.till : Nat) : Int) == 0) = en.op := by rw [hen]; exact answer_open D q ts t
 have hq : q = en.q := by rw [hen]; rfl
 have HRES : Hid (∀ w1, Kept (fun _ => False) (w.alloc (.cells #[.string ⟨#[]⟩, .int .i32 0, .int .u64 0, .int .u64 0, .bool false, .int .u64 0] 55)) w1 → Blk w1 w.heap.size 55 #[.string ⟨#[]⟩, .int .i32 0, .int .u64 0, .int .u64 0, .bool false, .int .u64 0]) := fun w1 hk => (Blk.new w _ _).kept hk id
 rw [← hen]
 generalize keysL ts = K at *
 clear h hf hr hen hx
 subst hq
 go_enter Tryz.func91, Tryz.ntmps91
 go_wp2_with first
  | (go_at_call 128; refine (H0.out _ (Kept.alloc _ _ _)).mono ?_; rintro e w1 ⟨rfl, hk1⟩; have hs1 := hk1.size)
  | (go_at_call 138; refine (H1.out _).mono ?_; rintro e w2 ⟨rfl, hk2⟩; have HK2 := (hk1.allocNew _).trans hk2 (H := fun _ => False) (fun _ => id) (fun _ _ => id))
  | (go_at_call 139; refine (H2.out _ ((Kept.alloc _ _ _).trans HK2 (fun _ => id) (fun _ _ => id))).mono ?_; rintro e w3 ⟨rfl, hk3⟩; have HK3 := HK2.trans hk3 (H := fun _ => False) (fun _ => id) (fun _ _ => id))
  | (go_at_call 80; refine (H3.out _ ((Kept.alloc _ _ _).trans HK3 (fun _ => id) (fun _ _ => id))).mono ?_; rintro e w4 ⟨rfl, rfl⟩; have hbb := HRES.out _ HK3; have y0 : w3.cell? ⟨w.heap.size, 0, none⟩ = some (.string ⟨#[]⟩) := hbb.cell 0; have y1 : w3.cell? ⟨w.heap.size, 1, none⟩ = some (.int .i32 0) := hbb.cell 1; have y2 : w3.cell? ⟨w.heap.size, 2, none⟩ = some (.int .u64 0) := hbb.cell 2; have y3 : w3.cell? ⟨w.heap.size, 3, none⟩ = some (.int .u64 0) := hbb.cell 3; have y4 : w3.cell? ⟨w.heap.size, 4, none⟩ = some (.bool false) := hbb.cell 4; have y5 : w3.cell? ⟨w.heap.size, 5, none⟩ = some (.int .u64 0) := hbb.cell 5; have g0 := hbb.free 0; have g1 := hbb.free 1; have g2 := hbb.free 2; have g3 := hbb.free 3; have g4 := hbb.free 4; have g5 := hbb.free 5; clear hbb)
 refine bodyPost_ret (v := .agg #[.string en.q, .int .i32 en.val, .int .u64 (en.fr : Int), .int .u64 (en.till : Int), .bool en.op, .int .u64 (en.kn : Int)]) (by simp [results, Tryz.results91, go_sem, *]) rfl ⟨rfl, ?_⟩
 exact ((Kept.alloc _ _ (fun _ => False)).trans HK3 (fun _ => id) (fun _ _ => id)).trans (kept_six _ _ _ _ _ _ _ _) (fun _ => id) (fun i hi he => by omega)
end Go.Proofs.YtpfcacedpkaihaaGreat
