import Derived.Test.YtpfcacedpkaihaaGreatDbDc
import Derived.Deep.MidRow
import Derived.Deep.RegionHeld3
import Derived.Test.YtpfcacedpkaihaaGreatDdDe
/- The program's readers (package readers): freeSeat, seatOf, walked. -/
namespace Go.Proofs.YtpfcacedpkaihaaGreat
open Go.RowKit

theorem six {j : Nat} (h : j < 6) : j = 0 ∨ j = 1 ∨ j = 2 ∨ j = 3 ∨ j = 4 ∨ j = 5 := by omega

/-- the cells of six seats. -/
def seatsA (s : Nat → SeatE) : Array Value := #[.bool (s 0).reads, .int .i64 (s 0).num, .int .u64 ((s 0).lo : Int), .int .u64 ((s 0).hi : Int), .bool (s 1).reads, .int .i64 (s 1).num, .int .u64 ((s 1).lo : Int), .int .u64 ((s 1).hi : Int), .bool (s 2).reads, .int .i64 (s 2).num, .int .u64 ((s 2).lo : Int), .int .u64 ((s 2).hi : Int), .bool (s 3).reads, .int .i64 (s 3).num, .int .u64 ((s 3).lo : Int), .int .u64 ((s 3).hi : Int), .bool (s 4).reads, .int .i64 (s 4).num, .int .u64 ((s 4).lo : Int), .int .u64 ((s 4).hi : Int), .bool (s 5).reads, .int .i64 (s 5).num, .int .u64 ((s 5).lo : Int), .int .u64 ((s 5).hi : Int)]
theorem Tryz.seatAt0 (x0 x1 x2 x3 x4 x5 x6 x7 x8 x9 x10 x11 x12 x13 x14 x15 x16 x17 x18 x19 x20 x21 x22 x23 : Value) (w : World) : (Instr.index 122 (.agg #[x0, x1, x2, x3, x4, x5, x6, x7, x8, x9, x10, x11, x12, x13, x14, x15, x16, x17, x18, x19, x20, x21, x22, x23]) (.int .i64 0)).run Tryz.prog w = .ok (.agg #[x0, x1, x2, x3]) w := by kernel_rfl
theorem Tryz.seatAt1 (x0 x1 x2 x3 x4 x5 x6 x7 x8 x9 x10 x11 x12 x13 x14 x15 x16 x17 x18 x19 x20 x21 x22 x23 : Value) (w : World) : (Instr.index 122 (.agg #[x0, x1, x2, x3, x4, x5, x6, x7, x8, x9, x10, x11, x12, x13, x14, x15, x16, x17, x18, x19, x20, x21, x22, x23]) (.int .i64 1)).run Tryz.prog w = .ok (.agg #[x4, x5, x6, x7]) w := by kernel_rfl
theorem Tryz.seatAt2 (x0 x1 x2 x3 x4 x5 x6 x7 x8 x9 x10 x11 x12 x13 x14 x15 x16 x17 x18 x19 x20 x21 x22 x23 : Value) (w : World) : (Instr.index 122 (.agg #[x0, x1, x2, x3, x4, x5, x6, x7, x8, x9, x10, x11, x12, x13, x14, x15, x16, x17, x18, x19, x20, x21, x22, x23]) (.int .i64 2)).run Tryz.prog w = .ok (.agg #[x8, x9, x10, x11]) w := by kernel_rfl
theorem Tryz.seatAt3 (x0 x1 x2 x3 x4 x5 x6 x7 x8 x9 x10 x11 x12 x13 x14 x15 x16 x17 x18 x19 x20 x21 x22 x23 : Value) (w : World) : (Instr.index 122 (.agg #[x0, x1, x2, x3, x4, x5, x6, x7, x8, x9, x10, x11, x12, x13, x14, x15, x16, x17, x18, x19, x20, x21, x22, x23]) (.int .i64 3)).run Tryz.prog w = .ok (.agg #[x12, x13, x14, x15]) w := by kernel_rfl
theorem Tryz.seatAt4 (x0 x1 x2 x3 x4 x5 x6 x7 x8 x9 x10 x11 x12 x13 x14 x15 x16 x17 x18 x19 x20 x21 x22 x23 : Value) (w : World) : (Instr.index 122 (.agg #[x0, x1, x2, x3, x4, x5, x6, x7, x8, x9, x10, x11, x12, x13, x14, x15, x16, x17, x18, x19, x20, x21, x22, x23]) (.int .i64 4)).run Tryz.prog w = .ok (.agg #[x16, x17, x18, x19]) w := by kernel_rfl
theorem Tryz.seatAt5 (x0 x1 x2 x3 x4 x5 x6 x7 x8 x9 x10 x11 x12 x13 x14 x15 x16 x17 x18 x19 x20 x21 x22 x23 : Value) (w : World) : (Instr.index 122 (.agg #[x0, x1, x2, x3, x4, x5, x6, x7, x8, x9, x10, x11, x12, x13, x14, x15, x16, x17, x18, x19, x20, x21, x22, x23]) (.int .i64 5)).run Tryz.prog w = .ok (.agg #[x20, x21, x22, x23]) w := by kernel_rfl

theorem seat_at (s : Nat → SeatE) (k : Nat) (hk : k < 6) (w : World) : (Instr.index 122 (.agg (seatsA s)) (.int .i64 (k : Int))).run Tryz.prog w = .ok (.agg #[.bool (s k).reads, .int .i64 (s k).num, .int .u64 ((s k).lo : Int), .int .u64 ((s k).hi : Int)]) w := by
  rcases six hk with rfl | rfl | rfl | rfl | rfl | rfl
  · exact Tryz.seatAt0 _ _ _ _ _ _ _ _ _ _ _ _ _ _ _ _ _ _ _ _ _ _ _ _ w
  · exact Tryz.seatAt1 _ _ _ _ _ _ _ _ _ _ _ _ _ _ _ _ _ _ _ _ _ _ _ _ w
  · exact Tryz.seatAt2 _ _ _ _ _ _ _ _ _ _ _ _ _ _ _ _ _ _ _ _ _ _ _ _ w
  · exact Tryz.seatAt3 _ _ _ _ _ _ _ _ _ _ _ _ _ _ _ _ _ _ _ _ _ _ _ _ w
  · exact Tryz.seatAt4 _ _ _ _ _ _ _ _ _ _ _ _ _ _ _ _ _ _ _ _ _ _ _ _ w
  · exact Tryz.seatAt5 _ _ _ _ _ _ _ _ _ _ _ _ _ _ _ _ _ _ _ _ _ _ _ _ w

theorem Tryz.sizeSeats : (Tryz.prog.info? 122).map (·.size) = some 24 := by kernel_rfl
theorem Dev.seats {w : World} {b : Nat} {D : DevS} (h : Dev w b D) : w.rangeAt b 3 (seatsA D.seats).toList := by
  intro j v hj
  rw [h.blk.cell, ← Array.getElem?_toList]
  have e : D.cells.toList = [.int .i64 D.clock, D.vc, .int .i64 (D.begun : Int)] ++ ((seatsA D.seats).toList ++ [D.vq, D.vn]) := rfl
  rw [e, List.getElem?_append_right (by simp), List.getElem?_append_left (by have := (List.getElem?_eq_some_iff.mp hj).1; simpa using this)]
  simpa using hj

def FreePost (w : World) (s : Nat → SeatE) (e : Ending) (w' : World) : Prop :=
  Kept (fun _ => False) w w' ∧ ((∃ j, j < 6 ∧ (s j).reads = false ∧ e = .returned (.tuple #[.int .i64 (j : Int), .bool true])) ∨ ((∀ i, i < 6 → (s i).reads = true) ∧ e = .returned (.tuple #[.int .i64 0, .bool false])))

set_option maxRecDepth 100000 in
set_option maxHeartbeats 2000000 in
theorem dfree (w : World) (b : Nat) (D : DevS) (h : Dev w b D) :
    Calls Tryz.prog 132 #[.pointer (some ⟨b, 2, none⟩)] w fun e w' => FreePost w D.seats e w' := by
  obtain ⟨cs, hcs⟩ : ∃ cs, cs = (seatsA D.seats).toList := ⟨_, rfl⟩
  have hr : w.rangeAt b 3 cs := by rw [hcs]; exact h.seats
  have HLEN : Hid ((Tryz.prog.info? 122).map (·.size) = some cs.length) := by rw [hcs]; exact Tryz.sizeSeats
  generalize hs : D.seats = s at *
  have HIX : Hid (∀ (k : Nat) (hk : k < 6) (w : World), (Instr.index 122 (.agg cs.toArray) (.int .i64 (k : Int))).run Tryz.prog w = .ok (.agg #[.bool (s k).reads, .int .i64 (s k).num, .int .u64 ((s k).lo : Int), .int .u64 ((s k).hi : Int)]) w) := by rw [hcs]; exact seat_at s
  clear h hcs hs
  go_enter Tryz.func132, Tryz.ntmps132
  go_wp2_with (refine wpList_load_mid rfl 122 _ rfl b 3 rfl cs _ hr Tryz.underlying122 rfl HLEN.out ?_)
  go_loopw [10] (fun i wr => ∃ k : Nat, k ≤ 6 ∧ i = .int .i64 k ∧ Hid (∀ i, i < k → (s i).reads = true) ∧ Hid (Kept (fun _ => False) w wr)) (fun i _ => 6 - (intOf i).toNat)
  case atStart => exact ⟨0, by omega, rfl, fun i hi => absurd hi (Nat.not_lt_zero _), Kept.refl _ _⟩
  case round =>
    obtain ⟨k, hk, rfl, HA, HK⟩ := hrel
    by_cases hlt : k < 6
    · have ix := HIX.out k hlt
      generalize hsk : s k = sk at ix
      have HSK : Hid (s k = sk) := hsk
      clear hsk
      obtain ⟨rd, nm, lo, hi⟩ := sk
      simp only at ix
      cases rd with
      | false =>
        go_wp2
        go_ret2
        exact ⟨HK.out.allocNew _, .inl ⟨k, hlt, by rw [HSK.out], rfl⟩⟩
      | true =>
        go_wp2
        go_roundw
        case rel => exact ⟨k + 1, by omega, by go_num, fun i hi => (Nat.lt_succ_iff_lt_or_eq.mp hi).elim (HA.out i) (fun e => by rw [e, HSK.out]), HK.out.allocNew _⟩
        case measure => simp [intOf]; omega
    · have hk' : k = 6 := by omega
      subst hk'
      go_wp2
      go_ret2
      exact ⟨HK.out, .inr ⟨HA.out, rfl⟩⟩

def SeatPost (w : World) (s : Nat → SeatE) (m : Int) (e : Ending) (w' : World) : Prop :=
  Kept (fun _ => False) w w' ∧ ((∃ j, j < 6 ∧ (s j).reads = true ∧ (s j).num = m ∧ e = .returned (.tuple #[.int .i64 (j : Int), .bool true])) ∨ ((∀ i, i < 6 → (s i).reads = true → (s i).num ≠ m) ∧ e = .returned (.tuple #[.int .i64 0, .bool false])))

set_option maxRecDepth 100000 in
set_option maxHeartbeats 2000000 in
theorem dseat (w : World) (b : Nat) (D : DevS) (m : Int) (h : Dev w b D) :
    Calls Tryz.prog 133 #[.pointer (some ⟨b, 2, none⟩), .int .i64 m] w fun e w' => SeatPost w D.seats m e w' := by
  obtain ⟨cs, hcs⟩ : ∃ cs, cs = (seatsA D.seats).toList := ⟨_, rfl⟩
  have hr : w.rangeAt b 3 cs := by rw [hcs]; exact h.seats
  have HLEN : Hid ((Tryz.prog.info? 122).map (·.size) = some cs.length) := by rw [hcs]; exact Tryz.sizeSeats
  generalize hs : D.seats = s at *
  have HIX : Hid (∀ (k : Nat) (hk : k < 6) (w : World), (Instr.index 122 (.agg cs.toArray) (.int .i64 (k : Int))).run Tryz.prog w = .ok (.agg #[.bool (s k).reads, .int .i64 (s k).num, .int .u64 ((s k).lo : Int), .int .u64 ((s k).hi : Int)]) w) := by rw [hcs]; exact seat_at s
  clear h hcs hs
  go_enter Tryz.func133, Tryz.ntmps133
  go_wp2_with (refine wpList_load_mid rfl 122 _ rfl b 3 rfl cs _ hr Tryz.underlying122 rfl HLEN.out ?_)
  go_loopw [12] (fun i wr => ∃ k : Nat, k ≤ 6 ∧ i = .int .i64 k ∧ Hid (∀ i, i < k → (s i).reads = true → (s i).num ≠ m) ∧ Hid (Kept (fun _ => False) w wr)) (fun i _ => 6 - (intOf i).toNat)
  case atStart => exact ⟨0, by omega, rfl, fun i hi => absurd hi (Nat.not_lt_zero _), Kept.refl _ _⟩
  case round =>
    obtain ⟨k, hk, rfl, HA, HK⟩ := hrel
    by_cases hlt : k < 6
    · have ix := HIX.out k hlt
      generalize hsk : s k = sk at ix
      have HSK : Hid (s k = sk) := hsk
      clear hsk
      obtain ⟨rd, nm, lo, hi⟩ := sk
      simp only at ix
      cases rd with
      | false =>
        go_wp2
        go_roundw
        case rel => exact ⟨k + 1, by omega, by go_num, fun i hi => (Nat.lt_succ_iff_lt_or_eq.mp hi).elim (HA.out i) (fun e => by rw [e, HSK.out]; intro h; cases h), HK.out.allocNew _⟩
        case measure => simp [intOf]; omega
      | true =>
        by_cases hm : nm = m
        · have hb : (nm == m) = true := beq_iff_eq.mpr hm
          have HM : Hid (nm = m) := hm
          clear hm
          go_wp2
          go_ret2
          exact ⟨HK.out.allocNew _, .inl ⟨k, hlt, by rw [HSK.out], by rw [HSK.out]; exact HM.out, rfl⟩⟩
        · have hb : (nm == m) = false := beq_eq_false_iff_ne.mpr hm
          have HM : Hid (¬ nm = m) := hm
          clear hm
          go_wp2
          go_roundw
          case rel => exact ⟨k + 1, by omega, by go_num, fun i hi => (Nat.lt_succ_iff_lt_or_eq.mp hi).elim (HA.out i) (fun e => by rw [e, HSK.out]; intro _; exact HM.out), HK.out.allocNew _⟩
          case measure => simp [intOf]; omega
    · have hk' : k = 6 := by omega
      subst hk'
      go_wp2
      go_ret2
      exact ⟨HK.out, .inr ⟨HA.out, rfl⟩⟩

end Go.Proofs.YtpfcacedpkaihaaGreat

/- The program's readers (package readers): Begin and End, walked. -/
namespace Go.Proofs.YtpfcacedpkaihaaGreat
open Go.RowKit

def putSeat (s : Nat → SeatE) (j : Nat) (x : SeatE) : Nat → SeatE := fun i => if i = j then x else s i
def DevS.seatP (D : DevS) (j : Nat) (x : SeatE) (n : Nat) : DevS := { D with begun := n, seats := putSeat D.seats j x }

theorem Dev.own {w w' : World} {b : Nat} {D D' : DevS} (h : Dev w b D) (k : Kept (fun k => k = b) w w') (hrows : D'.rows = D.rows) (hb : Blk w' b 129 D'.cells) : Dev w' b D' :=
  ⟨hb, by rw [hrows]; exact h.all.kept k (by rintro j ⟨r, hr, hj⟩ rfl; exact h.ne r hr hj)⟩

theorem seat_cells (D : DevS) (j : Nat) (hj : j < 6) (x : SeatE) (n : Nat) :
    (((((D.cells.setIfInBounds (3 + j * 4) (.bool x.reads)).setIfInBounds (3 + j * 4 + 1) (.int .i64 x.num)).setIfInBounds (3 + j * 4 + 2) (.int .u64 (x.lo : Int))).setIfInBounds (3 + j * 4 + 3) (.int .u64 (x.hi : Int))).setIfInBounds 2 (.int .i64 (n : Int))) = (D.seatP j x n).cells := by
  rcases six hj with rfl | rfl | rfl | rfl | rfl | rfl <;> simp [DevS.cells, DevS.seatP, putSeat]

theorem Dev.seat {w : World} {b : Nat} {D : DevS} (h : Dev w b D) (j : Nat) (hj : j < 6) : w.cell? ⟨b, 3 + j * 4, none⟩ = some (.bool (D.seats j).reads) ∧ w.cell? ⟨b, 3 + j * 4 + 1, none⟩ = some (.int .i64 (D.seats j).num) ∧ w.cell? ⟨b, 3 + j * 4 + 2, none⟩ = some (.int .u64 ((D.seats j).lo : Int)) ∧ w.cell? ⟨b, 3 + j * 4 + 3, none⟩ = some (.int .u64 ((D.seats j).hi : Int)) := by
  rw [h.blk.cell, h.blk.cell, h.blk.cell, h.blk.cell]
  rcases six hj with rfl | rfl | rfl | rfl | rfl | rfl <;> exact ⟨rfl, rfl, rfl, rfl⟩

theorem Dev.seatNew {w w1 : World} {b : Nat} {D : DevS} (h : Dev w1 b D) (k : Kept (fun _ => False) w w1) (j : Nat) (hj : j < 6) (x : SeatE) (n : Nat) (W : World)
    (hW : W.heap = (((((w1.setCell ⟨b, 3 + j * 4, none⟩ (.bool x.reads)).setCell ⟨b, 3 + j * 4 + 1, none⟩ (.int .i64 x.num)).setCell ⟨b, 3 + j * 4 + 2, none⟩ (.int .u64 (x.lo : Int))).setCell ⟨b, 3 + j * 4 + 3, none⟩ (.int .u64 (x.hi : Int))).setCell ⟨b, 2, none⟩ (.int .i64 (n : Int))).heap)
    (h1 : W.os = w1.os) (h2 : W.tape = w1.tape) (h3 : W.output = w1.output) :
    Dev W b (D.seatP j x n) ∧ Kept (D.fp b) w W := by
  have kk := ((((Kept.setCell w1 ⟨b, 3 + j * 4, none⟩ (.bool x.reads)).trans (Kept.setCell _ ⟨b, 3 + j * 4 + 1, none⟩ (.int .i64 x.num)) (fun _ => id) (fun _ _ => id)).trans (Kept.setCell _ ⟨b, 3 + j * 4 + 2, none⟩ (.int .u64 (x.lo : Int))) (fun _ => id) (fun _ _ => id)).trans (Kept.setCell _ ⟨b, 3 + j * 4 + 3, none⟩ (.int .u64 (x.hi : Int))) (fun _ => id) (fun _ _ => id)).trans (Kept.setCell _ ⟨b, 2, none⟩ (.int .i64 (n : Int))) (H := fun k => k = b) (fun _ => id) (fun _ _ => id)
  have kW : Kept (fun k => k = b) w1 W := ⟨h1, h2, h3, by rw [hW]; exact kk.size, fun i hi hn => by rw [hW]; exact kk.block i hi hn⟩
  have bb := ((((h.blk.set (3 + j * 4) (.bool x.reads)).set (3 + j * 4 + 1) (.int .i64 x.num)).set (3 + j * 4 + 2) (.int .u64 (x.lo : Int))).set (3 + j * 4 + 3) (.int .u64 (x.hi : Int))).set 2 (.int .i64 (n : Int))
  rw [seat_cells D j hj x n] at bb
  refine ⟨h.own kW rfl (bb.same (by rw [hW])), k.trans kW (fun _ => False.elim) (fun i _ he => .inl he)⟩

def DBeginPost (w : World) (b : Nat) (D : DevS) (lo hi : Nat) (e : Ending) (w' : World) : Prop :=
  ((∀ i, i < 6 → (D.seats i).reads = true) ∧ e = .returned (.tuple #[.int .i64 0, .int .i64 7]) ∧ Kept (fun _ => False) w w') ∨
  (∃ j, j < 6 ∧ (D.seats j).reads = false ∧ 200 ≤ D.begun ∧ e = .returned (.tuple #[.int .i64 0, .int .i64 6]) ∧ Kept (fun _ => False) w w') ∨
  (∃ j, j < 6 ∧ (D.seats j).reads = false ∧ D.begun < 200 ∧ e = .returned (.tuple #[.int .i64 (D.begun : Int), .int .i64 0]) ∧ Dev w' b (D.seatP j ⟨true, D.begun, lo, hi⟩ (D.begun + 1)) ∧ Kept (D.fp b) w w')

set_option maxRecDepth 100000 in
set_option maxHeartbeats 2000000 in
theorem dbegin0 (w : World) (b : Nat) (D : DevS) (lo hi : Nat) (h : Dev w b D) (hf : D.Fit) :
    Calls Tryz.prog 83 #[.pointer (some ⟨b, 2, none⟩), .agg #[.int .u64 (lo : Int), .int .u64 (hi : Int)]] w fun e w' => DBeginPost w b D lo hi e w' := by
  have hbm := hf.bmax
  have HD : Hid (Dev w b D) := h
  have hbl := h.blk.lt
  have HD1 : Hid (∀ o, Dev (w.alloc o) b D) := fun o => h.kept (Kept.alloc w o (fun _ => False)) (fun _ _ => id)
  by_cases hall : ∀ i, i < 6 → (D.seats i).reads = true
  · have HALL : Hid (∀ i, i < 6 → (D.seats i).reads = true) := hall
    have HFR : Hid (∀ o, Calls Tryz.prog 132 #[.pointer (some ⟨b, 2, none⟩)] (w.alloc o) fun e w' => e = .returned (.tuple #[.int .i64 0, .bool false]) ∧ Kept (fun _ => False) w w') :=
      fun o => (dfree (w.alloc o) b D (HD1.out o)).mono fun e w' hp => by
        obtain ⟨k, ⟨j, hj, hr, _⟩ | ⟨_, e2⟩⟩ := hp
        · rw [hall j hj] at hr; cases hr
        · exact ⟨e2, (Kept.alloc w o (fun _ => False)).trans k (fun _ => id) (fun _ _ => id)⟩
    clear h hf hall
    go_enter Tryz.func83, Tryz.ntmps83
    go_wp2_with (go_at_call 132; refine (HFR.out _).mono ?_; rintro e w1 ⟨rfl, hk1⟩)
    go_ret2
    exact .inl ⟨HALL.out, rfl, hk1⟩
  · have HFR : Hid (∀ o, Calls Tryz.prog 132 #[.pointer (some ⟨b, 2, none⟩)] (w.alloc o) fun e w' => ∃ j, j < 6 ∧ Hid ((D.seats j).reads = false) ∧ e = .returned (.tuple #[.int .i64 (j : Int), .bool true]) ∧ Kept (fun _ => False) w w' ∧ w'.heap[w.heap.size]? = (w.alloc o).heap[w.heap.size]?) :=
      fun o => (dfree (w.alloc o) b D (HD1.out o)).mono fun e w' hp => by
        obtain ⟨k, ⟨j, hj, hr, e2⟩ | ⟨ha, _⟩⟩ := hp
        · exact ⟨j, hj, hr, e2, (Kept.alloc w o (fun _ => False)).trans k (fun _ => id) (fun _ _ => id), k.block _ (by simp) id⟩
        · exact absurd ha hall
    by_cases h200 : 200 ≤ D.begun
    · have HC : Hid (w.cell? ⟨b, 2, none⟩ = some (.int .i64 (D.begun : Int))) := h.c2
      clear h hf hall
      go_enter Tryz.func83, Tryz.ntmps83
      go_wp2_with (go_at_call 132; refine (HFR.out _).mono ?_; rintro e w1 ⟨j, hj, hr, rfl, hk1, _⟩; have c2 := hk1.keep id HC.out)
      go_ret2
      exact .inr (.inl ⟨j, hj, hr.out, h200, rfl, hk1⟩)
    · have HC : Hid (w.cell? ⟨b, 2, none⟩ = some (.int .i64 (D.begun : Int))) := h.c2
      clear h hf hall
      go_enter Tryz.func83, Tryz.ntmps83
      go_wp2_with (go_at_call 132; refine (HFR.out _).mono ?_; rintro e w1 ⟨j, hj, hr, rfl, hk1, hb1⟩; have c2 := hk1.keep id HC.out)
      have hD1 : Dev w1 b D := HD.out.kept hk1 (fun _ _ => id)
      have hsz1 := hk1.size
      obtain ⟨s0, s1, s2, s3⟩ := hD1.seat j hj
      have f0 := hD1.blk.free (3 + j * 4)
      have f1 := hD1.blk.free (3 + j * 4 + 1)
      have f2 := hD1.blk.free (3 + j * 4 + 2)
      have f3 := hD1.blk.free (3 + j * 4 + 3)
      have f4 := hD1.blk.free 2
      have hbs : b ≠ w.heap.size := by omega
      have p0 : w1.cell? ⟨w.heap.size, 0, none⟩ = some (.int .u64 (lo : Int)) := (World.cell?_of_block (a := ⟨w.heap.size, 0, none⟩) hb1).trans (by simp)
      have p1 : w1.cell? ⟨w.heap.size, 1, none⟩ = some (.int .u64 (hi : Int)) := (World.cell?_of_block (a := ⟨w.heap.size, 1, none⟩) hb1).trans (by simp)
      have HD1' : Hid (Dev w1 b D) := hD1
      clear hD1 hb1
      go_region
      all_goals
        go_wp2
        go_ret2
        refine .inr (.inr ⟨j, hj, hr.out, by omega, rfl, ?_⟩)
        exact HD1'.out.seatNew hk1 j hj ⟨true, D.begun, lo, hi⟩ (D.begun + 1) _ rfl rfl rfl rfl

theorem seat_cells4 (D : DevS) (j : Nat) (hj : j < 6) (x : SeatE) :
    ((((D.cells.setIfInBounds (3 + j * 4) (.bool x.reads)).setIfInBounds (3 + j * 4 + 1) (.int .i64 x.num)).setIfInBounds (3 + j * 4 + 2) (.int .u64 (x.lo : Int))).setIfInBounds (3 + j * 4 + 3) (.int .u64 (x.hi : Int))) = (D.seatP j x D.begun).cells := by
  rcases six hj with rfl | rfl | rfl | rfl | rfl | rfl <;> simp [DevS.cells, DevS.seatP, putSeat]
theorem Dev.seatSet {w w1 : World} {b : Nat} {D : DevS} (h : Dev w1 b D) (k : Kept (fun _ => False) w w1) (j : Nat) (hj : j < 6) (x : SeatE) (W : World)
    (hW : W = ((((w1.setCell ⟨b, 3 + j * 4, none⟩ (.bool x.reads)).setCell ⟨b, 3 + j * 4 + 1, none⟩ (.int .i64 x.num)).setCell ⟨b, 3 + j * 4 + 2, none⟩ (.int .u64 (x.lo : Int))).setCell ⟨b, 3 + j * 4 + 3, none⟩ (.int .u64 (x.hi : Int)))) :
    Dev W b (D.seatP j x D.begun) ∧ Kept (D.fp b) w W := by
  have kW := (((Kept.setCell w1 ⟨b, 3 + j * 4, none⟩ (.bool x.reads)).trans (Kept.setCell _ ⟨b, 3 + j * 4 + 1, none⟩ (.int .i64 x.num)) (fun _ => id) (fun _ _ => id)).trans (Kept.setCell _ ⟨b, 3 + j * 4 + 2, none⟩ (.int .u64 (x.lo : Int))) (fun _ => id) (fun _ _ => id)).trans (Kept.setCell _ ⟨b, 3 + j * 4 + 3, none⟩ (.int .u64 (x.hi : Int))) (H := fun k => k = b) (fun _ => id) (fun _ _ => id)
  have bb := (((h.blk.set (3 + j * 4) (.bool x.reads)).set (3 + j * 4 + 1) (.int .i64 x.num)).set (3 + j * 4 + 2) (.int .u64 (x.lo : Int))).set (3 + j * 4 + 3) (.int .u64 (x.hi : Int))
  rw [seat_cells4 D j hj x] at bb
  subst hW
  refine ⟨h.own kW rfl bb, k.trans kW (fun _ => False.elim) (fun i _ he => .inl he)⟩
/-- what lies in new blocks beside a world. -/
theorem Dev.besides {w W W' : World} {b : Nat} {D D' : DevS} {F : Nat → Prop} (h : Dev W b D' ∧ Kept (D.fp b) w W) (k : Kept F W W') (hF : ∀ i, F i → w.heap.size ≤ i) (hD : ∀ i, D'.fp b i → i < w.heap.size) : Dev W' b D' ∧ Kept (D.fp b) w W' :=
  ⟨h.1.kept k fun i hi hf => by have := hF i hf; have := hD i hi; omega, h.2.trans k (fun _ => id) (fun i hi hf => by have := hF i hf; omega)⟩

def DEndPost (w : World) (b : Nat) (D : DevS) (m : Int) (e : Ending) (w' : World) : Prop :=
  ((∀ i, i < 6 → (D.seats i).reads = true → (D.seats i).num ≠ m) ∧ e = .returned (.tuple #[.agg #[.int .u64 0, .int .u64 0], .int .i64 8]) ∧ Kept (fun _ => False) w w') ∨
  (∃ j, j < 6 ∧ (D.seats j).reads = true ∧ (D.seats j).num = m ∧ e = .returned (.tuple #[.agg #[.int .u64 ((D.seats j).lo : Int), .int .u64 ((D.seats j).hi : Int)], .int .i64 0]) ∧ Dev w' b (D.seatP j ⟨false, 0, 0, 0⟩ D.begun) ∧ Kept (D.fp b) w w')

set_option maxRecDepth 100000 in
set_option maxHeartbeats 2000000 in
theorem dend0 (w : World) (b : Nat) (D : DevS) (m : Int) (h : Dev w b D) :
    Calls Tryz.prog 85 #[.pointer (some ⟨b, 2, none⟩), .int .i64 m] w fun e w' => DEndPost w b D m e w' := by
  have HD : Hid (Dev w b D) := h
  have hbl := h.blk.lt
  have HD1 : Hid (∀ o, Dev (w.alloc o) b D) := fun o => h.kept (Kept.alloc w o (fun _ => False)) (fun _ _ => id)
  by_cases hall : ∀ i, i < 6 → (D.seats i).reads = true → (D.seats i).num ≠ m
  · have HALL : Hid (∀ i, i < 6 → (D.seats i).reads = true → (D.seats i).num ≠ m) := hall
    have HFR : Hid (∀ o, Calls Tryz.prog 133 #[.pointer (some ⟨b, 2, none⟩), .int .i64 m] (w.alloc o) fun e w' => e = .returned (.tuple #[.int .i64 0, .bool false]) ∧ Kept (fun _ => False) w w' ∧ w'.heap[w.heap.size]? = (w.alloc o).heap[w.heap.size]?) :=
      fun o => (dseat (w.alloc o) b D m (HD1.out o)).mono fun e w' hp => by
        obtain ⟨k, ⟨j, hj, hr, hn, _⟩ | ⟨_, e2⟩⟩ := hp
        · exact absurd hn (hall j hj hr)
        · exact ⟨e2, (Kept.alloc w o (fun _ => False)).trans k (fun _ => id) (fun _ _ => id), k.block _ (by simp) id⟩
    clear h hall
    go_enter Tryz.func85, Tryz.ntmps85
    go_wp2_with (go_at_call 133; refine (HFR.out _).mono ?_; rintro e w1 ⟨rfl, hk1, hb1⟩; have p0 : w1.cell? ⟨w.heap.size, 0, none⟩ = some (.int .u64 0) := (World.cell?_of_block (a := ⟨w.heap.size, 0, none⟩) hb1).trans (by simp); have p1 : w1.cell? ⟨w.heap.size, 1, none⟩ = some (.int .u64 0) := (World.cell?_of_block (a := ⟨w.heap.size, 1, none⟩) hb1).trans (by simp); have g0 : w1.frozen? ⟨w.heap.size, 0, none⟩ = false := (World.frozen?_of_block (a := ⟨w.heap.size, 0, none⟩) hb1).trans (by simp); have g1 : w1.frozen? ⟨w.heap.size, 1, none⟩ = false := (World.frozen?_of_block (a := ⟨w.heap.size, 1, none⟩) hb1).trans (by simp))
    refine bodyPost_ret (v := .tuple #[.agg #[.int .u64 0, .int .u64 0], .int .i64 8]) (by simp [results, Tryz.results85, go_sem, *]) rfl (.inl ⟨HALL.out, rfl, ?_⟩)
    exact (hk1.setNew _ 0 _ (Nat.le_refl _)).setNew _ 1 _ (Nat.le_refl _)
  · have HFR : Hid (∀ o, Calls Tryz.prog 133 #[.pointer (some ⟨b, 2, none⟩), .int .i64 m] (w.alloc o) fun e w' => ∃ j, j < 6 ∧ Hid ((D.seats j).reads = true ∧ (D.seats j).num = m) ∧ e = .returned (.tuple #[.int .i64 (j : Int), .bool true]) ∧ Kept (fun _ => False) w w' ∧ w'.heap[w.heap.size]? = (w.alloc o).heap[w.heap.size]? ∧ w.heap.size < w'.heap.size) :=
      fun o => (dseat (w.alloc o) b D m (HD1.out o)).mono fun e w' hp => by
        obtain ⟨k, ⟨j, hj, hr, hn, e2⟩ | ⟨ha, _⟩⟩ := hp
        · exact ⟨j, hj, ⟨hr, hn⟩, e2, (Kept.alloc w o (fun _ => False)).trans k (fun _ => id) (fun _ _ => id), k.block _ (by simp) id, by have := k.size; simp at this; omega⟩
        · exact absurd ha hall
    have HC : Hid (w.cell? ⟨b, 2, none⟩ = some (.int .i64 (D.begun : Int))) := h.c2
    clear h hall
    go_enter Tryz.func85, Tryz.ntmps85
    go_wp2_with (go_at_call 133; refine (HFR.out _).mono ?_; rintro e w1 ⟨j, hj, hr, rfl, hk1, hb1, hsz1⟩; have p0 : w1.cell? ⟨w.heap.size, 0, none⟩ = some (.int .u64 0) := (World.cell?_of_block (a := ⟨w.heap.size, 0, none⟩) hb1).trans (by simp); have p1 : w1.cell? ⟨w.heap.size, 1, none⟩ = some (.int .u64 0) := (World.cell?_of_block (a := ⟨w.heap.size, 1, none⟩) hb1).trans (by simp); have g0 : w1.frozen? ⟨w.heap.size, 0, none⟩ = false := (World.frozen?_of_block (a := ⟨w.heap.size, 0, none⟩) hb1).trans (by simp); have g1 : w1.frozen? ⟨w.heap.size, 1, none⟩ = false := (World.frozen?_of_block (a := ⟨w.heap.size, 1, none⟩) hb1).trans (by simp); have hD1 : Dev w1 b D := HD.out.kept hk1 (fun _ _ => id); obtain ⟨s0, s1, s2, s3⟩ := hD1.seat j hj; have f0 := hD1.blk.free (3 + j * 4); have f1 := hD1.blk.free (3 + j * 4 + 1); have f2 := hD1.blk.free (3 + j * 4 + 2); have f3 := hD1.blk.free (3 + j * 4 + 3); have HD1' : Hid (Dev w1 b D) := hD1; clear hD1 hb1; have hbs : b ≠ w.heap.size := Nat.ne_of_lt hbl; have hbw : b < w1.heap.size := Nat.lt_trans hbl hsz1)
    refine bodyPost_ret (v := .tuple #[.agg #[.int .u64 ((D.seats j).lo : Int), .int .u64 ((D.seats j).hi : Int)], .int .i64 0]) (by simp [results, Tryz.results85, go_sem, *]) rfl (.inr ⟨j, hj, hr.out.1, hr.out.2, rfl, ?_⟩)
    have z := HD1'.out.seatSet hk1 j hj ⟨false, 0, 0, 0⟩ _ rfl
    exact Dev.besides z (((Kept.setCell _ ⟨w.heap.size, 0, none⟩ (.int .u64 ((D.seats j).lo : Int))).trans (Kept.setCell _ ⟨w.heap.size, 1, none⟩ (.int .u64 ((D.seats j).hi : Int))) (H := fun k => k = w.heap.size) (fun _ => id) (fun _ _ => id)).allocNew _) (fun i hi => Nat.le_of_eq hi.symm) (fun i hi => HD.out.lt i hi)

end Go.Proofs.YtpfcacedpkaihaaGreat

/- The program's calls (package almanac): New, Commit, Tick, Now, Begin, End, walked. -/
namespace Go.Proofs.YtpfcacedpkaihaaGreat
open Go.RowKit

set_option maxHeartbeats 400000 in
theorem dnew_nodes (n r : Int) (w : World) (h : n < 1 ∨ 3 < n) :
    Calls Tryz.prog 23 #[.int .i64 n, .int .i64 r] w fun e w' => e = .returned (.tuple #[.pointer none, .int .i64 1]) ∧ w = w' := by
  by_cases h0 : n < 1
  · have hd : decide (n < 1) = true := by simpa using h0
    go_enter Tryz.func23, Tryz.ntmps23
    go_wp2
    go_ret2
    exact ⟨rfl, rfl⟩
  · have hd : decide (n < 1) = false := by simpa using h0
    have h1 : 3 < n := by omega
    go_enter Tryz.func23, Tryz.ntmps23
    go_wp2
    go_ret2
    exact ⟨rfl, rfl⟩

set_option maxHeartbeats 400000 in
theorem dnew_room (n r : Int) (w : World) (h1 : 1 ≤ n) (h2 : n ≤ 3) (h : r < 1 ∨ 6 < r) :
    Calls Tryz.prog 23 #[.int .i64 n, .int .i64 r] w fun e w' => e = .returned (.tuple #[.pointer none, .int .i64 2]) ∧ w = w' := by
  have hd0 : decide (n < 1) = false := by simp; omega
  by_cases h0 : r < 1
  · have hd : decide (r < 1) = true := by simpa using h0
    go_enter Tryz.func23, Tryz.ntmps23
    go_wp2
    go_ret2
    exact ⟨rfl, rfl⟩
  · have hd : decide (r < 1) = false := by simpa using h0
    have h3 : 6 < r := by omega
    go_enter Tryz.func23, Tryz.ntmps23
    go_wp2
    go_ret2
    exact ⟨rfl, rfl⟩

set_option maxHeartbeats 400000 in
theorem dtick (w : World) (b : Nat) (D : DevS) (h : Dev w b D) (hf : D.Fit) :
    Calls Tryz.prog 31 #[.pointer (some ⟨b, 0, none⟩)] w fun e w' => DTickPost w b D e w' := by
  have H0 : Hid (Calls Tryz.prog 79 #[.pointer (some ⟨b, 0, none⟩)] w fun e w' => DTickPost w b D e w') := dtick0 w b D h hf
  by_cases hc : D.clock < 100000
  · have H1 : Hid (Calls Tryz.prog 79 #[.pointer (some ⟨b, 0, none⟩)] w fun e w' => e = .returned (.int .i64 0) ∧ Hid (Dev w' b { D with clock := D.clock + 1 } ∧ Kept (D.fp b) w w')) := H0.out.mono fun e w' hp => by
      rcases hp with ⟨a, _⟩ | ⟨_, e2, r⟩
      · omega
      · exact ⟨e2, r⟩
    clear H0 h hf
    go_enter Tryz.func31, Tryz.ntmps31
    go_wp2_with (go_at_call 79; refine H1.out.mono ?_; rintro e w1 ⟨rfl, hr⟩)
    go_ret
    exact .inr ⟨hc, rfl, hr.out⟩
  · have H1 : Hid (Calls Tryz.prog 79 #[.pointer (some ⟨b, 0, none⟩)] w fun e w' => e = .returned (.int .i64 6) ∧ w = w') := H0.out.mono fun e w' hp => by
      rcases hp with ⟨_, e2, r⟩ | ⟨a, _⟩
      · exact ⟨e2, r⟩
      · omega
    have hc1 := hf.clk1
    clear H0 h hf
    go_enter Tryz.func31, Tryz.ntmps31
    go_wp2_with (go_at_call 79; refine H1.out.mono ?_; rintro e w1 ⟨rfl, rfl⟩)
    go_ret
    exact .inl ⟨by omega, rfl, rfl⟩

set_option maxHeartbeats 400000 in
theorem dnow (w : World) (b : Nat) (D : DevS) (h : Dev w b D) (hf : D.Fit) :
    Calls Tryz.prog 33 #[.pointer (some ⟨b, 0, none⟩)] w fun e w' => e = .returned (.tuple #[.int .u64 (D.past.length : Int), .int .i64 D.clock]) ∧ w = w' := by
  have H0 : Hid (Calls Tryz.prog 80 #[.pointer (some ⟨b, 0, none⟩)] w fun e w' => e = .returned (.int .u64 (D.past.length : Int)) ∧ w = w') := dnewest w b D h hf
  have H1 : Hid (Calls Tryz.prog 81 #[.pointer (some ⟨b, 0, none⟩)] w fun e w' => e = .returned (.int .i64 D.clock) ∧ w = w') := dclock_c w b D.clock h.c0
  clear h hf
  go_enter Tryz.func33, Tryz.ntmps33
  go_wp2_with first
    | (go_at_call 80; refine H0.out.mono ?_; rintro e w1 ⟨rfl, rfl⟩)
    | (go_at_call 81; refine H1.out.mono ?_; rintro e w1 ⟨rfl, rfl⟩)
  go_ret2
  exact ⟨rfl, rfl⟩

/-- what Commit leaves. -/
def DCPost (w : World) (b : Nat) (D : DevS) (n : Nat) (ws : List (Int × Int)) (e : Ending) (w' : World) : Prop :=
  (8 < n ∧ e = .returned (.tuple #[.int .u64 0, .int .i64 3]) ∧ w = w') ∨ (n ≤ 8 ∧ DCommitPost w b D ws e w')
theorem DCPost.form {w w' : World} {b n : Nat} {D : DevS} {ws : List (Int × Int)} {e : Ending} (h : DCPost w b D n ws e w') : ∃ x y : Int, e = .returned (.tuple #[.int .u64 x, .int .i64 y]) := by
  rcases h with ⟨_, e1, _⟩ | ⟨_, ⟨_, e1, _⟩ | ⟨_, _, e1, _⟩ | ⟨_, _, e1, _⟩⟩ <;> exact ⟨_, _, e1⟩
theorem dcommit1 (w : World) (b : Nat) (D : DevS) (ao : Option Addr) (n cap : Nat) (ws : List (Int × Int)) (h : Dev w b D) (hf : D.Fit) (hw : Wr w ao n ws) (hm : n ≤ maxLen) :
    Calls Tryz.prog 74 #[.pointer (some ⟨b, 0, none⟩), .slice ao n cap] w fun e w' => DCPost w b D n ws e w' := by
  by_cases hn : n ≤ 8
  · exact (dcommit0 w b D ao n cap ws h hf hw hn).mono fun e w' hp => .inr ⟨hn, hp⟩
  · exact (dcommit_long w b ao n cap (by omega) hm).mono fun e w' hp => .inl ⟨by omega, hp⟩

/-- what Begin leaves, with a limit that may be. -/
def DBegPost (w : World) (b : Nat) (D : DevS) (limit : Int) (e : Ending) (w' : World) : Prop := ∃ lo, First D.past (D.clock - limit) lo ∧ DBeginPost w b D lo D.past.length e w'

theorem DBeginPost.form {w w' : World} {b lo hi : Nat} {D : DevS} {e : Ending} (h : DBeginPost w b D lo hi e w') : ∃ x y : Int, e = .returned (.tuple #[.int .i64 x, .int .i64 y]) := by
  rcases h with ⟨_, e1, _⟩ | ⟨_, _, _, _, e1, _⟩ | ⟨_, _, _, _, e1, _⟩
  · exact ⟨_, _, e1⟩
  · exact ⟨_, _, e1⟩
  · exact ⟨_, _, e1⟩
theorem DBeginPost.from {w w1 w' : World} {b lo hi : Nat} {D : DevS} {e : Ending} (h : DBeginPost w1 b D lo hi e w') (k : Kept (fun _ => False) w w1) : DBeginPost w b D lo hi e w' := by
  rcases h with ⟨a, e1, r⟩ | ⟨j, hj, hr, hb, e1, r⟩ | ⟨j, hj, hr, hb, e1, r1, r2⟩
  · exact .inl ⟨a, e1, k.trans r (fun _ => id) (fun _ _ => id)⟩
  · exact .inr (.inl ⟨j, hj, hr, hb, e1, k.trans r (fun _ => id) (fun _ _ => id)⟩)
  · exact .inr (.inr ⟨j, hj, hr, hb, e1, r1, k.trans r2 (fun _ => False.elim) (fun _ _ => id)⟩)

set_option maxHeartbeats 400000 in
theorem dbegin_bad (w : World) (b : Nat) (limit : Int) (hl : limit < 0 ∨ 100000 < limit) :
    Calls Tryz.prog 34 #[.pointer (some ⟨b, 0, none⟩), .int .i64 limit] w fun e w' => e = .returned (.tuple #[.int .i64 0, .int .i64 10]) ∧ w = w' := by
  by_cases h0 : limit < 0
  · have hd : decide (limit < 0) = true := by simpa using h0
    go_enter Tryz.func34, Tryz.ntmps34
    go_wp2
    go_ret2
    exact ⟨rfl, rfl⟩
  · have hd : decide (limit < 0) = false := by simpa using h0
    have h1 : 100000 < limit := by omega
    go_enter Tryz.func34, Tryz.ntmps34
    go_wp2
    go_ret2
    exact ⟨rfl, rfl⟩

set_option maxHeartbeats 1000000 in
theorem dbegin (w : World) (b : Nat) (D : DevS) (limit : Int) (h : Dev w b D) (hf : D.Fit) (hl0 : 0 ≤ limit) (hl1 : limit ≤ 100000) :
    Calls Tryz.prog 34 #[.pointer (some ⟨b, 0, none⟩), .int .i64 limit] w fun e w' => DBegPost w b D limit e w' := by
  have hc0 := hf.clk0
  have hc1 := hf.clk1
  have hd : decide (limit < 0) = false := by simp; omega
  have H0 : Hid (∀ w1, Dev w1 b D → Calls Tryz.prog 80 #[.pointer (some ⟨b, 0, none⟩)] w1 fun e w' => e = .returned (.int .u64 (D.past.length : Int)) ∧ w1 = w') := fun w1 h1 => dnewest w1 b D h1 hf
  have H1 : Hid (Calls Tryz.prog 81 #[.pointer (some ⟨b, 0, none⟩)] w fun e w' => e = .returned (.int .i64 D.clock) ∧ w = w') := dclock_c w b D.clock h.c0
  have H2 : Hid (Calls Tryz.prog 82 #[.pointer (some ⟨b, 0, none⟩), .int .i64 (D.clock - limit)] w fun e w' => ∃ j : Nat, e = .returned (.int .u64 (j : Int)) ∧ Hid (First D.past (D.clock - limit) j) ∧ Hid (Kept (fun _ => False) w w' ∧ Dev w' b D)) := (dsince w b D (D.clock - limit) h hf).mono fun e w' hp => by
    obtain ⟨j, h1, h2, h3⟩ := hp
    exact ⟨j, h2, h1, h3, h.kept h3 (fun _ _ => id)⟩
  have H3 : Hid (∀ w1 (lo : Nat), Dev w1 b D → Calls Tryz.prog 83 #[.pointer (some ⟨b, 2, none⟩), .agg #[.int .u64 (lo : Int), .int .u64 (D.past.length : Int)]] w1 fun e w' => ∃ x y : Int, e = .returned (.tuple #[.int .i64 x, .int .i64 y]) ∧ Hid (DBeginPost w1 b D lo D.past.length (.returned (.tuple #[.int .i64 x, .int .i64 y])) w')) := fun w1 lo h1 => (dbegin0 w1 b D lo D.past.length h1 hf).mono fun e w' hp => by
    obtain ⟨x, y, rfl⟩ := hp.form
    exact ⟨x, y, rfl, hp⟩
  clear h hf
  go_enter Tryz.func34, Tryz.ntmps34
  go_wp2_with first
    | (go_at_call 80; refine (H0.out _ hz.out.2).mono ?_; rintro e w2 ⟨rfl, rfl⟩)
    | (go_at_call 81; refine H1.out.mono ?_; rintro e w2 ⟨rfl, rfl⟩)
    | (go_at_call 82; refine H2.out.mono ?_; rintro e w1 ⟨j, rfl, hj, hz⟩)
    | (go_at_call 83; refine (H3.out _ _ hz.out.2).mono ?_; rintro e w3 ⟨x, y, rfl, hr⟩)
  go_ret2
  exact ⟨j, hj.out, hr.out.from hz.out.1⟩

theorem DEndPost.form {w w' : World} {b : Nat} {D : DevS} {m : Int} {e : Ending} (h : DEndPost w b D m e w') : ∃ x y z : Int, e = .returned (.tuple #[.agg #[.int .u64 x, .int .u64 y], .int .i64 z]) := by
  rcases h with ⟨_, e1, _⟩ | ⟨_, _, _, _, e1, _⟩
  · exact ⟨_, _, _, e1⟩
  · exact ⟨_, _, _, e1⟩
theorem DEndPost.from {w w1 w' w2 : World} {b : Nat} {D : DevS} {m : Int} {e : Ending} (h : DEndPost w1 b D m e w') (hD : ∀ i, D.fp b i → i < w.heap.size) (k : Kept (fun _ => False) w w1) {F : Nat → Prop} (k2 : Kept F w' w2) (hF : ∀ i, F i → w.heap.size ≤ i) : DEndPost w b D m e w2 := by
  rcases h with ⟨a, e1, r⟩ | ⟨j, hj, hr, hb, e1, r1, r2⟩
  · exact .inl ⟨a, e1, (k.trans r (fun _ => id) (fun _ _ => id)).trans k2 (fun _ => id) (fun i hi hf => by have := hF i hf; omega)⟩
  · exact .inr ⟨j, hj, hr, hb, e1, Dev.besides ⟨r1, k.trans r2 (fun _ => False.elim) (fun _ _ => id)⟩ k2 hF hD⟩

set_option maxHeartbeats 1000000 in
theorem dend (w : World) (b : Nat) (D : DevS) (m : Int) (h : Dev w b D) :
    Calls Tryz.prog 36 #[.pointer (some ⟨b, 0, none⟩), .int .i64 m] w fun e w' => DEndPost w b D m e w' := by
  have HLT : Hid (∀ i, D.fp b i → i < w.heap.size) := h.lt
  have H3 : Hid (∀ o, Calls Tryz.prog 85 #[.pointer (some ⟨b, 2, none⟩), .int .i64 m] (w.alloc o) fun e w' => ∃ x y z : Int, e = .returned (.tuple #[.agg #[.int .u64 x, .int .u64 y], .int .i64 z]) ∧ Hid (DEndPost (w.alloc o) b D m (.returned (.tuple #[.agg #[.int .u64 x, .int .u64 y], .int .i64 z])) w') ∧ w'.heap[w.heap.size]? = (w.alloc o).heap[w.heap.size]?) := fun o => (dend0 (w.alloc o) b D m (h.kept (Kept.alloc w o (fun _ => False)) (fun _ _ => id))).mono fun e w' hp => by
    obtain ⟨x, y, z, rfl⟩ := hp.form
    refine ⟨x, y, z, rfl, hp, ?_⟩
    rcases hp with ⟨_, _, r⟩ | ⟨_, _, _, _, _, _, r⟩
    · exact r.block _ (by simp) id
    · exact r.block _ (by simp) fun hh => by have := h.lt _ hh; omega
  clear h
  go_enter Tryz.func36, Tryz.ntmps36
  go_wp2_with (go_at_call 85; refine (H3.out _).mono ?_; rintro e w1 ⟨x, y, z, rfl, hr, hb1⟩; have p0 : w1.cell? ⟨w.heap.size, 0, none⟩ = some (.int .u64 0) := (World.cell?_of_block (a := ⟨w.heap.size, 0, none⟩) hb1).trans (by simp); have p1 : w1.cell? ⟨w.heap.size, 1, none⟩ = some (.int .u64 0) := (World.cell?_of_block (a := ⟨w.heap.size, 1, none⟩) hb1).trans (by simp); have g0 : w1.frozen? ⟨w.heap.size, 0, none⟩ = false := (World.frozen?_of_block (a := ⟨w.heap.size, 0, none⟩) hb1).trans (by simp); have g1 : w1.frozen? ⟨w.heap.size, 1, none⟩ = false := (World.frozen?_of_block (a := ⟨w.heap.size, 1, none⟩) hb1).trans (by simp))
  refine bodyPost_ret (v := .tuple #[.agg #[.int .u64 x, .int .u64 y], .int .i64 z]) (by simp [results, Tryz.results36, go_sem, *]) rfl ?_
  exact hr.out.from HLT.out (Kept.alloc _ _ _) ((Kept.setCell _ ⟨w.heap.size, 0, none⟩ (.int .u64 x)).trans (Kept.setCell _ ⟨w.heap.size, 1, none⟩ (.int .u64 y)) (H := fun k => k = w.heap.size) (fun _ => id) (fun _ _ => id)) (fun i hi => Nat.le_of_eq hi.symm)

end Go.Proofs.YtpfcacedpkaihaaGreat
