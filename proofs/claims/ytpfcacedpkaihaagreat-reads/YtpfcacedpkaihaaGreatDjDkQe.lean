import Derived.Test.YtpfcacedpkaihaaGreatDbDc
import Derived.Test.YtpfcacedpkaihaaGreatDfDgDh
import Derived.Test.YtpfcacedpkaihaaGreatQbQcQd
import Derived.Deep.QuietTactic
import Derived.BigQuiet
/- The program's Right (package store), walked. -/
namespace Go.Proofs.YtpfcacedpkaihaaGreat
open Go.RowKit
def RightPost (w : World) (l : List PastE) (K : Int) (t : Nat) (e : Ending) (w' : World) : Prop :=
  e = .returned (.tuple #[.int .u64 (fromN (zeroP :: l) K t : Int), .int .u64 (((tillN (zeroP :: l) K (l.length - t)).getD 0 : Nat) : Int)]) ∧ Kept (fun _ => False) w w'

set_option maxRecDepth 100000 in
set_option maxHeartbeats 1000000 in
theorem dright (w : World) (b : Nat) (D : DevS) (K : Int) (t : Nat) (h : Dev w b D) (hf : D.Fit) (ht : t ≤ D.past.length) :
    Calls Tryz.prog 139 #[.pointer (some ⟨b, 0, none⟩), .int .u8 K, .int .u64 t] w fun e w' => RightPost w D.past K t e w' := by
  have hm := hf.pmax
  obtain ⟨ao, cap, hv, hno⟩ := h.past.form
  have c1 := h.c1
  rw [hv] at c1
  have HCELL : Hid (∀ k (hk : k < D.past.length), ∃ g, ao = some ⟨g, 0, none⟩ ∧ ∀ f, f < 10 → w.cell? ⟨g, k * 10 + f, none⟩ = (pastC D.past[k])[f]?) := by
    intro k hk
    obtain ⟨g, cap', hv', ho, _⟩ := h.past.block (by omega)
    rw [hv] at hv'
    injection hv' with e1 _ _
    refine ⟨g, e1, fun f hf => ?_⟩
    have e := past_at D.past k hk f hf
    obtain ⟨u, hu⟩ : ∃ u, (pastC D.past[k])[f]? = some u := ⟨(pastC D.past[k])[f]'(by simpa [pastC] using hf), List.getElem?_eq_getElem _⟩
    rw [hu]
    exact h.past.cell ho _ u (e.trans hu)
  obtain ⟨L, hL⟩ : ∃ L, L = zeroP :: D.past := ⟨_, rfl⟩
  have hll : L.length = D.past.length + 1 := by rw [hL]; rfl
  have HT : Hid (∀ k (hk : k < D.past.length), touchB L K (k + 1) = (bits .and .u8 D.past[k].keys K != 0)) := fun k hk => touchB_some K (by rw [hL, List.getElem?_cons_succ]; exact List.getElem?_eq_getElem hk)
  have HPO : Hid (∀ (e : Ending) (w' : World), e = .returned (.tuple #[.int .u64 (fromN L K t : Int), .int .u64 (((tillN L K (D.past.length - t)).getD 0 : Nat) : Int)]) → Kept (fun _ => False) w w' → RightPost w D.past K t e w') := fun e w' h1 h2 => ⟨by rw [← hL]; exact h1, h2⟩
  clear h hf hv hno hL
  go_enter Tryz.func139, Tryz.ntmps139
  go_wp2
  go_loopw [8, 17] (fun fr i wr => ∃ k : Nat, k ≤ D.past.length ∧ i = .int .i64 k ∧ fr = .int .u64 (fromN L K (min k t) : Int) ∧ Hid (∀ s, t < s → s ≤ k → touchB L K s = false) ∧ Hid (Kept (fun _ => False) w wr)) (fun _ i _ => D.past.length - (intOf i).toNat)
  case atStart => exact ⟨0, Nat.zero_le _, rfl, by simp [fromN], fun s h1 h2 => by omega, Kept.refl _ _⟩
  case round =>
    obtain ⟨k, hk, rfl, rfl, HB, HK⟩ := hrel
    have hfl := fromN_le L K (min k t)
    by_cases hlt : k < D.past.length
    · obtain ⟨g, hg, hcell⟩ := HCELL.out k hlt
      have HTK := HT.out k hlt
      obtain ⟨p, hp⟩ : ∃ p, p = D.past[k] := ⟨_, rfl⟩
      rw [← hp] at hcell HTK
      have s0 : wr.cell? ⟨g, k * 10, none⟩ = some (.int .i32 (p.st 0)) := HK.out.keep id (hcell 0 (by omega))
      have s1 : wr.cell? ⟨g, k * 10 + 1, none⟩ = some (.int .i32 (p.st 1)) := HK.out.keep id (hcell 1 (by omega))
      have s2 : wr.cell? ⟨g, k * 10 + 2, none⟩ = some (.int .i32 (p.st 2)) := HK.out.keep id (hcell 2 (by omega))
      have s3 : wr.cell? ⟨g, k * 10 + 3, none⟩ = some (.int .i32 (p.st 3)) := HK.out.keep id (hcell 3 (by omega))
      have s4 : wr.cell? ⟨g, k * 10 + 4, none⟩ = some (.int .i32 (p.st 4)) := HK.out.keep id (hcell 4 (by omega))
      have s5 : wr.cell? ⟨g, k * 10 + 5, none⟩ = some (.int .i32 (p.st 5)) := HK.out.keep id (hcell 5 (by omega))
      have s6 : wr.cell? ⟨g, k * 10 + 6, none⟩ = some (.int .i32 (p.st 6)) := HK.out.keep id (hcell 6 (by omega))
      have s7 : wr.cell? ⟨g, k * 10 + 7, none⟩ = some (.int .i32 (p.st 7)) := HK.out.keep id (hcell 7 (by omega))
      have s8 : wr.cell? ⟨g, k * 10 + 8, none⟩ = some (.int .u8 p.keys) := HK.out.keep id (hcell 8 (by omega))
      have s9 : wr.cell? ⟨g, k * 10 + 9, none⟩ = some (.int .i64 p.tick) := HK.out.keep id (hcell 9 (by omega))
      clear hcell hp c1
      subst hg
      obtain ⟨fr, hfr⟩ : ∃ fr, fr = fromN L K (min k t) := ⟨_, rfl⟩
      rw [← hfr] at hfl ⊢
      have HFR : Hid (fr = fromN L K (min k t)) := hfr
      clear hfr
      cases hbz : (bits .and .u8 p.keys K == 0) with
      | true =>
        have HTB : Hid (touchB L K (k + 1) = false) := by show _ = _; rw [HTK]; simp [bne, hbz]
        have HNX : Hid (fromN L K (min (k + 1) t) = fr) := by
          show _ = _
          by_cases hkt : k + 1 ≤ t
          · rw [fromN_step hkt, HTB.out, HFR.out]; rfl
          · rw [fromN_past (by omega), HFR.out]
        clear HTK
        go_wp2
        go_roundw
        case rel =>
          refine ⟨k + 1, by omega, by go_num, by rw [HNX.out], fun s h1 h2 => ?_, HK.out.allocNew _⟩
          by_cases e : s = k + 1
          · subst e; exact HTB.out
          · exact HB.out s h1 (by omega)
        case measure => simp [intOf]; omega
      | false =>
        have HTB : Hid (touchB L K (k + 1) = true) := by show _ = _; rw [HTK]; simp [bne, hbz]
        clear HTK
        by_cases hkt : k + 1 ≤ t
        · have HNX : Hid (fromN L K (min (k + 1) t) = k + 1) := by show _ = _; rw [fromN_step hkt, HTB.out]; rfl
          go_wp2
          go_roundw
          case rel => exact ⟨k + 1, by omega, by go_num, by rw [HNX.out]; go_num, fun s h1 h2 => by omega, HK.out.allocNew _⟩
          case measure => simp [intOf]; omega
        · have HNX : Hid (fromN L K t = fr ∧ tillN L K (D.past.length - t) = some (k + 1)) := by
            refine ⟨by rw [HFR.out]; congr 1; omega, ?_⟩
            exact till_some _ (by omega) (by omega) (by omega) HTB.out fun r h1 h2 => HB.out r (by omega) (by omega)
          go_wp2
          go_ret2
          refine HPO.out _ _ ?_ (HK.out.allocNew _)
          rw [HNX.out.1, HNX.out.2]
          rfl
    · have hkk : k = D.past.length := by omega
      subst hkk
      have HNX : Hid (fromN L K (min D.past.length t) = fromN L K t ∧ tillN L K (D.past.length - t) = none) := by
        refine ⟨by congr 1; omega, till_none _ (by omega) fun s h1 h2 => HB.out s (by omega) (by omega)⟩
      go_wp2
      go_ret2
      refine HPO.out _ _ ?_ HK.out
      rw [HNX.out.2, ← HNX.out.1]
      rfl

end Go.Proofs.YtpfcacedpkaihaaGreat

/- The program's readers (package readers): Span and Narrow, walked. -/
namespace Go.Proofs.YtpfcacedpkaihaaGreat
open Go.RowKit

def DSpanPost (w : World) (D : DevS) (m : Int) (e : Ending) (w' : World) : Prop :=
  Kept (fun _ => False) w w' ∧ (((∀ i, i < 6 → (D.seats i).reads = true → (D.seats i).num ≠ m) ∧ e = .returned (.tuple #[.agg #[.int .u64 0, .int .u64 0], .int .i64 8])) ∨
    (∃ j, j < 6 ∧ (D.seats j).reads = true ∧ (D.seats j).num = m ∧ e = .returned (.tuple #[.agg #[.int .u64 ((D.seats j).lo : Int), .int .u64 ((D.seats j).hi : Int)], .int .i64 0])))

set_option maxRecDepth 100000 in
set_option maxHeartbeats 2000000 in
theorem dspan (w : World) (b : Nat) (D : DevS) (m : Int) (h : Dev w b D) :
    Calls Tryz.prog 87 #[.pointer (some ⟨b, 2, none⟩), .int .i64 m] w fun e w' => DSpanPost w D m e w' := by
  have HD : Hid (Dev w b D) := h
  have hbl := h.blk.lt
  have HD1 : Hid (∀ o, Dev (w.alloc o) b D) := fun o => h.kept (Kept.alloc w o (fun _ => False)) (fun _ _ => id)
  by_cases hall : ∀ i, i < 6 → (D.seats i).reads = true → (D.seats i).num ≠ m
  · have HALL : Hid (∀ i, i < 6 → (D.seats i).reads = true → (D.seats i).num ≠ m) := hall
    have HFR : Hid (∀ o, Calls Tryz.prog 133 #[.pointer (some ⟨b, 2, none⟩), .int .i64 m] (w.alloc o) fun e w' => e = .returned (.tuple #[.int .i64 0, .bool false]) ∧ Kept (fun _ => False) w w' ∧ w'.heap[w.heap.size]? = (w.alloc o).heap[w.heap.size]?) :=
      fun o => (dseat (w.alloc o) b D m (HD1.out o)).mono fun e w' hp => by
        obtain ⟨k, ⟨j, hj, hr, hn, _⟩ | ⟨_, e2⟩⟩ := hp
        · exact absurd hn (hall j hj hr)
        · exact ⟨e2, (Kept.alloc w o (fun _ => False)).trans k (fun _ => id) (fun _ _ => id), k.block _ (by simp) id⟩
    clear h hall
    go_enter Tryz.func87, Tryz.ntmps87
    go_wp2_with (go_at_call 133; refine (HFR.out _).mono ?_; rintro e w1 ⟨rfl, hk1, hb1⟩; have p0 : w1.cell? ⟨w.heap.size, 0, none⟩ = some (.int .u64 0) := (World.cell?_of_block (a := ⟨w.heap.size, 0, none⟩) hb1).trans (by simp); have p1 : w1.cell? ⟨w.heap.size, 1, none⟩ = some (.int .u64 0) := (World.cell?_of_block (a := ⟨w.heap.size, 1, none⟩) hb1).trans (by simp); have g0 : w1.frozen? ⟨w.heap.size, 0, none⟩ = false := (World.frozen?_of_block (a := ⟨w.heap.size, 0, none⟩) hb1).trans (by simp); have g1 : w1.frozen? ⟨w.heap.size, 1, none⟩ = false := (World.frozen?_of_block (a := ⟨w.heap.size, 1, none⟩) hb1).trans (by simp))
    refine bodyPost_ret (v := .tuple #[.agg #[.int .u64 0, .int .u64 0], .int .i64 8]) (by simp [results, Tryz.results87, go_sem, *]) rfl ⟨?_, .inl ⟨HALL.out, rfl⟩⟩
    exact (hk1.setNew _ 0 _ (Nat.le_refl _)).setNew _ 1 _ (Nat.le_refl _)
  · have HFR : Hid (∀ o, Calls Tryz.prog 133 #[.pointer (some ⟨b, 2, none⟩), .int .i64 m] (w.alloc o) fun e w' => ∃ j, j < 6 ∧ Hid ((D.seats j).reads = true ∧ (D.seats j).num = m) ∧ e = .returned (.tuple #[.int .i64 (j : Int), .bool true]) ∧ Kept (fun _ => False) w w' ∧ w'.heap[w.heap.size]? = (w.alloc o).heap[w.heap.size]? ∧ w.heap.size < w'.heap.size) :=
      fun o => (dseat (w.alloc o) b D m (HD1.out o)).mono fun e w' hp => by
        obtain ⟨k, ⟨j, hj, hr, hn, e2⟩ | ⟨ha, _⟩⟩ := hp
        · exact ⟨j, hj, ⟨hr, hn⟩, e2, (Kept.alloc w o (fun _ => False)).trans k (fun _ => id) (fun _ _ => id), k.block _ (by simp) id, by have := k.size; simp at this; omega⟩
        · exact absurd ha hall
    clear h hall
    go_enter Tryz.func87, Tryz.ntmps87
    go_wp2_with (go_at_call 133; refine (HFR.out _).mono ?_; rintro e w1 ⟨j, hj, hr, rfl, hk1, hb1, hsz1⟩; have p0 : w1.cell? ⟨w.heap.size, 0, none⟩ = some (.int .u64 0) := (World.cell?_of_block (a := ⟨w.heap.size, 0, none⟩) hb1).trans (by simp); have p1 : w1.cell? ⟨w.heap.size, 1, none⟩ = some (.int .u64 0) := (World.cell?_of_block (a := ⟨w.heap.size, 1, none⟩) hb1).trans (by simp); have g0 : w1.frozen? ⟨w.heap.size, 0, none⟩ = false := (World.frozen?_of_block (a := ⟨w.heap.size, 0, none⟩) hb1).trans (by simp); have g1 : w1.frozen? ⟨w.heap.size, 1, none⟩ = false := (World.frozen?_of_block (a := ⟨w.heap.size, 1, none⟩) hb1).trans (by simp); have hD1 : Dev w1 b D := HD.out.kept hk1 (fun _ _ => id); obtain ⟨s0, s1, s2, s3⟩ := hD1.seat j hj; clear hD1 hb1; have hbs : b ≠ w.heap.size := Nat.ne_of_lt hbl; have hbw : b < w1.heap.size := Nat.lt_trans hbl hsz1)
    refine bodyPost_ret (v := .tuple #[.agg #[.int .u64 ((D.seats j).lo : Int), .int .u64 ((D.seats j).hi : Int)], .int .i64 0]) (by simp [results, Tryz.results87, go_sem, *]) rfl ⟨?_, .inr ⟨j, hj, hr.out.1, hr.out.2, rfl⟩⟩
    exact (hk1.setNew _ 0 _ (Nat.le_refl _)).setNew _ 1 _ (Nat.le_refl _)

/-- the part of a seat's span that lies in another. -/
def SeatE.cut (s : SeatE) (f t : Nat) : SeatE := { s with lo := max s.lo f, hi := min s.hi t }

theorem seat_cells2 (D : DevS) (j : Nat) (hj : j < 6) (lo hi : Nat) :
    ((D.cells.setIfInBounds (3 + j * 4 + 2) (.int .u64 (lo : Int))).setIfInBounds (3 + j * 4 + 3) (.int .u64 (hi : Int))) = (D.seatP j { D.seats j with lo := lo, hi := hi } D.begun).cells := by
  rcases six hj with rfl | rfl | rfl | rfl | rfl | rfl <;> simp [DevS.cells, DevS.seatP, putSeat]
theorem Dev.seatSpan {w w1 : World} {b : Nat} {D : DevS} (h : Dev w1 b D) (k : Kept (fun _ => False) w w1) (j : Nat) (hj : j < 6) (lo hi : Nat) (W : World)
    (hW : W.heap = ((w1.setCell ⟨b, 3 + j * 4 + 2, none⟩ (.int .u64 (lo : Int))).setCell ⟨b, 3 + j * 4 + 3, none⟩ (.int .u64 (hi : Int))).heap) (h1 : W.os = w1.os) (h2 : W.tape = w1.tape) (h3 : W.output = w1.output) :
    Dev W b (D.seatP j { D.seats j with lo := lo, hi := hi } D.begun) ∧ Kept (D.fp b) w W := by
  have kk := (Kept.setCell w1 ⟨b, 3 + j * 4 + 2, none⟩ (.int .u64 (lo : Int))).trans (Kept.setCell _ ⟨b, 3 + j * 4 + 3, none⟩ (.int .u64 (hi : Int))) (H := fun k => k = b) (fun _ => id) (fun _ _ => id)
  have kW : Kept (fun k => k = b) w1 W := ⟨h1, h2, h3, by rw [hW]; exact kk.size, fun i hi hn => by rw [hW]; exact kk.block i hi hn⟩
  have bb := (h.blk.set (3 + j * 4 + 2) (.int .u64 (lo : Int))).set (3 + j * 4 + 3) (.int .u64 (hi : Int))
  rw [seat_cells2 D j hj lo hi] at bb
  exact ⟨h.own kW rfl (bb.same (by rw [hW])), k.trans kW (fun _ => False.elim) (fun i _ he => .inl he)⟩

def DNarrowPost (w : World) (b : Nat) (D : DevS) (j f t : Nat) (e : Ending) (w' : World) : Prop := e = .returned (.tuple #[]) ∧ Dev w' b (D.seatP j ((D.seats j).cut f t) D.begun) ∧ Kept (D.fp b) w w'

set_option maxRecDepth 100000 in
set_option maxHeartbeats 4000000 in
theorem dnarrow (w : World) (b : Nat) (D : DevS) (m : Int) (j f t : Nat) (h : Dev w b D) (hj : j < 6) (hr : (D.seats j).reads = true) (hn : (D.seats j).num = m) (hone : ∀ i, i < 6 → (D.seats i).reads = true → (D.seats i).num = m → i = j) :
    Calls Tryz.prog 90 #[.pointer (some ⟨b, 2, none⟩), .int .i64 m, .agg #[.int .u64 (f : Int), .int .u64 (t : Int)]] w fun e w' => DNarrowPost w b D j f t e w' := by
  have HD : Hid (Dev w b D) := h
  have hbl := h.blk.lt
  have HFR : Hid (∀ o, Calls Tryz.prog 133 #[.pointer (some ⟨b, 2, none⟩), .int .i64 m] (w.alloc o) fun e w' => e = .returned (.tuple #[.int .i64 (j : Int), .bool true]) ∧ Kept (fun _ => False) w w' ∧ w'.heap[w.heap.size]? = (w.alloc o).heap[w.heap.size]? ∧ w.heap.size < w'.heap.size) :=
    fun o => (dseat (w.alloc o) b D m (h.kept (Kept.alloc w o (fun _ => False)) (fun _ _ => id))).mono fun e w' hp => by
      obtain ⟨k, ⟨i, hi, hri, hni, e2⟩ | ⟨ha, _⟩⟩ := hp
      · have := hone i hi hri hni
        subst this
        exact ⟨e2, (Kept.alloc w o (fun _ => False)).trans k (fun _ => id) (fun _ _ => id), k.block _ (by simp) id, by have := k.size; simp at this; omega⟩
      · exact absurd hn (ha j hj hr)
  have HLO : Hid (∀ W, Dev W b (D.seatP j { D.seats j with lo := max (D.seats j).lo f, hi := min (D.seats j).hi t } D.begun) ∧ Kept (D.fp b) w W → DNarrowPost w b D j f t (.returned (.tuple #[])) W) := fun W hW => ⟨rfl, hW⟩
  obtain ⟨lo, hlo⟩ : ∃ lo, lo = (D.seats j).lo := ⟨_, rfl⟩
  obtain ⟨hi, hhi⟩ : ∃ hi, hi = (D.seats j).hi := ⟨_, rfl⟩
  have HS : Hid (∀ W, Kept (fun _ => False) w W → Dev W b D ∧ W.cell? ⟨b, 3 + j * 4 + 2, none⟩ = some (.int .u64 (lo : Int)) ∧ W.cell? ⟨b, 3 + j * 4 + 3, none⟩ = some (.int .u64 (hi : Int)) ∧ W.frozen? ⟨b, 3 + j * 4 + 2, none⟩ = false ∧ W.frozen? ⟨b, 3 + j * 4 + 3, none⟩ = false) := fun W hW => by
    have hd := h.kept hW (fun _ _ => id)
    exact ⟨hd, by rw [hlo]; exact (hd.seat j hj).2.2.1, by rw [hhi]; exact (hd.seat j hj).2.2.2, hd.blk.free _, hd.blk.free _⟩
  rw [← hlo, ← hhi] at HLO
  have hj0 : (0 : Int) ≤ (j : Int) := by omega
  have hj6 : (j : Int) < 6 := by omega
  clear h hr hn hone hlo hhi
  have hcase : (lo < f ∧ t < hi) ∨ (lo < f ∧ hi ≤ t) ∨ (f ≤ lo ∧ t < hi) ∨ (f ≤ lo ∧ hi ≤ t) := by omega
  rcases hcase with ⟨q1, q2⟩ | ⟨q1, q2⟩ | ⟨q1, q2⟩ | ⟨q1, q2⟩
  · have em : max lo f = f := by omega
    have en : min hi t = t := by omega
    rw [em, en] at HLO
    clear em en
    go_enter Tryz.func90, Tryz.ntmps90
    go_wp2_with (go_at_call 133; refine (HFR.out _).mono ?_; rintro e w1 ⟨rfl, hk1, hb1, hsz1⟩; obtain ⟨hd1, s2, s3, f2, f3⟩ := HS.out _ hk1; have HD1 : Hid (Dev w1 b D) := hd1; clear hd1; have p0 : w1.cell? ⟨w.heap.size, 0, none⟩ = some (.int .u64 (f : Int)) := (World.cell?_of_block (a := ⟨w.heap.size, 0, none⟩) hb1).trans (by simp); have p1 : w1.cell? ⟨w.heap.size, 1, none⟩ = some (.int .u64 (t : Int)) := (World.cell?_of_block (a := ⟨w.heap.size, 1, none⟩) hb1).trans (by simp); clear hb1; have hbs : b ≠ w.heap.size := Nat.ne_of_lt hbl; have hbw : b < w1.heap.size := Nat.lt_trans hbl hsz1)
    go_region
    all_goals
      go_wp2
      go_end0
      exact HLO.out _ (Dev.besides (HD1.out.seatSpan hk1 j hj f t _ rfl rfl rfl rfl) ((Kept.alloc _ _ (fun _ => False)).drew) (fun _ => False.elim) (fun i hi => HD.out.lt i hi))
  · have em : max lo f = f := by omega
    have en : min hi t = hi := by omega
    rw [em, en] at HLO
    clear em en
    go_enter Tryz.func90, Tryz.ntmps90
    go_wp2_with (go_at_call 133; refine (HFR.out _).mono ?_; rintro e w1 ⟨rfl, hk1, hb1, hsz1⟩; obtain ⟨hd1, s2, s3, f2, f3⟩ := HS.out _ hk1; have HD1 : Hid (Dev w1 b D) := hd1; clear hd1; have p0 : w1.cell? ⟨w.heap.size, 0, none⟩ = some (.int .u64 (f : Int)) := (World.cell?_of_block (a := ⟨w.heap.size, 0, none⟩) hb1).trans (by simp); have p1 : w1.cell? ⟨w.heap.size, 1, none⟩ = some (.int .u64 (t : Int)) := (World.cell?_of_block (a := ⟨w.heap.size, 1, none⟩) hb1).trans (by simp); clear hb1; have hbs : b ≠ w.heap.size := Nat.ne_of_lt hbl; have hbw : b < w1.heap.size := Nat.lt_trans hbl hsz1)
    go_region
    all_goals
      go_wp2
      go_end0
      exact HLO.out _ (Dev.besides (HD1.out.seatSpan hk1 j hj f hi _ rfl rfl rfl rfl) ((Kept.alloc _ _ (fun _ => False)).drew) (fun _ => False.elim) (fun i hi => HD.out.lt i hi))
  · have em : max lo f = lo := by omega
    have en : min hi t = t := by omega
    rw [em, en] at HLO
    clear em en
    go_enter Tryz.func90, Tryz.ntmps90
    go_wp2_with (go_at_call 133; refine (HFR.out _).mono ?_; rintro e w1 ⟨rfl, hk1, hb1, hsz1⟩; obtain ⟨hd1, s2, s3, f2, f3⟩ := HS.out _ hk1; have HD1 : Hid (Dev w1 b D) := hd1; clear hd1; have p0 : w1.cell? ⟨w.heap.size, 0, none⟩ = some (.int .u64 (f : Int)) := (World.cell?_of_block (a := ⟨w.heap.size, 0, none⟩) hb1).trans (by simp); have p1 : w1.cell? ⟨w.heap.size, 1, none⟩ = some (.int .u64 (t : Int)) := (World.cell?_of_block (a := ⟨w.heap.size, 1, none⟩) hb1).trans (by simp); clear hb1; have hbs : b ≠ w.heap.size := Nat.ne_of_lt hbl; have hbw : b < w1.heap.size := Nat.lt_trans hbl hsz1)
    go_region
    all_goals
      go_wp2
      go_end0
      exact HLO.out _ (Dev.besides (HD1.out.seatSpan hk1 j hj lo t _ rfl rfl rfl rfl) ((Kept.alloc _ _ (fun _ => False)).drew) (fun _ => False.elim) (fun i hi => HD.out.lt i hi))
  · have em : max lo f = lo := by omega
    have en : min hi t = hi := by omega
    rw [em, en] at HLO
    clear em en
    go_enter Tryz.func90, Tryz.ntmps90
    go_wp2_with (go_at_call 133; refine (HFR.out _).mono ?_; rintro e w1 ⟨rfl, hk1, hb1, hsz1⟩; obtain ⟨hd1, s2, s3, f2, f3⟩ := HS.out _ hk1; have HD1 : Hid (Dev w1 b D) := hd1; clear hd1; have p0 : w1.cell? ⟨w.heap.size, 0, none⟩ = some (.int .u64 (f : Int)) := (World.cell?_of_block (a := ⟨w.heap.size, 0, none⟩) hb1).trans (by simp); have p1 : w1.cell? ⟨w.heap.size, 1, none⟩ = some (.int .u64 (t : Int)) := (World.cell?_of_block (a := ⟨w.heap.size, 1, none⟩) hb1).trans (by simp); clear hb1; have hbs : b ≠ w.heap.size := Nat.ne_of_lt hbl; have hbw : b < w1.heap.size := Nat.lt_trans hbl hsz1)
    go_region
    all_goals
      go_wp2
      go_end0
      exact HLO.out _ (Dev.besides (HD1.out.seatSpan hk1 j hj lo hi _ rfl rfl rfl rfl) ((Kept.alloc _ _ (fun _ => False)).drew) (fun _ => False.elim) (fun i hi => HD.out.lt i hi))

end Go.Proofs.YtpfcacedpkaihaaGreat

/- What package queries' Eval answers at every text in every state. -/
namespace Go.Proofs.YtpfcacedpkaihaaGreat
open Go.RowKit

/-- what some terms are worth in a state. -/
def evalL (x : Nat → Int) (ts : List (Nat × Nat)) : Int := ts.foldl (fun v t => step32 v t.1 (x t.2)) 0
theorem evalL_snoc (x : Nat → Int) (ts : List (Nat × Nat)) (j : Nat) (h : j < ts.length) : evalL x (ts.take (j + 1)) = step32 (evalL x (ts.take j)) ts[j].1 (x ts[j].2) := by
  rw [evalL, List.take_succ_eq_append_getElem h, List.foldl_append]; rfl

theorem box8 (x : Nat → Int) (w : World) (E : TypeId) (k : Nat) (hk : k ≤ 7) :
    (w.alloc (.cells #[.int .i32 (x 0), .int .i32 (x 1), .int .i32 (x 2), .int .i32 (x 3), .int .i32 (x 4), .int .i32 (x 5), .int .i32 (x 6), .int .i32 (x 7)] E)).cell? ⟨w.heap.size, k, none⟩ = some (.int .i32 (x k)) := by
  have hc : k = 0 ∨ k = 1 ∨ k = 2 ∨ k = 3 ∨ k = 4 ∨ k = 5 ∨ k = 6 ∨ k = 7 := by omega
  rcases hc with rfl | rfl | rfl | rfl | rfl | rfl | rfl | rfl <;> simp

set_option maxHeartbeats 1000000 in
theorem qEval_bad (s : ByteArray) (x : Nat → Int) (w : World) (er : Int) (hs : s.size ≤ maxLen) (hr : Q.readL s.data.toList = (er, [])) :
    Calls Tryz.prog 138 #[.string s, .agg #[.int .i32 (x 0), .int .i32 (x 1), .int .i32 (x 2), .int .i32 (x 3), .int .i32 (x 4), .int .i32 (x 5), .int .i32 (x 6), .int .i32 (x 7)]] w fun e w' =>
      e = .returned (.tuple #[.int .i32 0, .int .i64 er]) ∧ Below w.heap.size w w' := by
  have HR : Hid (Q.readL s.data.toList = (er, [])) := hr
  clear hr
  go_enter Tryz.func138, Tryz.ntmps138
  go_wp2_with (go_at_call 124; refine (read_bad s _ er hs HR.out).mono ?_; rintro e w1 ⟨rfl, he, hb⟩)
  go_ret2
  exact ⟨rfl, (((Below.refl _ _).alloc (Nat.le_refl _) _).trans (hb.mono (by simp)))⟩

set_option maxHeartbeats 1000000 in
theorem qEval_good (s : ByteArray) (x : Nat → Int) (w : World) (ts : List (Nat × Nat)) (hr : Q.readL s.data.toList = (0, ts)) :
    Calls Tryz.prog 138 #[.string s, .agg #[.int .i32 (x 0), .int .i32 (x 1), .int .i32 (x 2), .int .i32 (x 3), .int .i32 (x 4), .int .i32 (x 5), .int .i32 (x 6), .int .i32 (x 7)]] w fun e w' =>
      e = .returned (.tuple #[.int .i32 (evalL x ts), .int .i64 0]) ∧ Below w.heap.size w w' := by
  have HR : Hid (Q.readL s.data.toList = (0, ts)) := hr
  obtain ⟨hne, h8, hks⟩ : ts ≠ [] ∧ ts.length ≤ 8 ∧ ∀ t ∈ ts, t.1 ≤ 3 ∧ t.2 ≤ 7 := by
    rcases Q.readL_cases s.data.toList with h | h | ⟨us, h, r⟩
    · rw [h] at hr; simp at hr
    · rw [h] at hr; simp at hr
    · rw [h] at hr; simp at hr; subst hr; exact r
  have HKS : Hid (∀ t ∈ ts, t.1 ≤ 3 ∧ t.2 ≤ 7) := hks
  clear hr hne hks
  go_enter Tryz.func138, Tryz.ntmps138
  go_wp2_with (go_at_call 124; refine (read_good s _ ts HR.out).mono ?_; rintro e w1 ⟨g, cap, rfl, hg, hl, hb⟩)
  have hsz : w.heap.size < w1.heap.size := by have := hb.size; simp at this; omega
  have HX : Hid (∀ k, k ≤ 7 → w1.cell? ⟨w.heap.size, k, none⟩ = some (.int .i32 (x k))) := fun k hk => (hb.cell (p := ⟨w.heap.size, k, none⟩) (by simp)).trans (box8 x w _ k hk)
  have hb1 : Below w.heap.size w w1 := (((Below.refl _ _).alloc (Nat.le_refl _) _).trans (hb.mono (by simp)))
  clear hb
  go_loopw [8, 21] (fun v i wr => ∃ k : Nat, k ≤ ts.length ∧ i = .int .i64 k ∧ v = .int .i32 (evalL x (ts.take k)) ∧ Below w1.heap.size w1 wr)
    (fun _ i _ => ts.length - (intOf i).toNat)
  case atStart => exact ⟨0, Nat.zero_le _, rfl, rfl, Below.refl _ _⟩
  case round =>
    obtain ⟨k, hk, rfl, rfl, hnx⟩ := hrel
    by_cases hlt : k < ts.length
    · have hl2 := hl.below hnx
      have hsg := hl2.sign k hlt
      have hky := hl2.key k hlt
      obtain ⟨hm3, hm7⟩ := HKS.out ts[k] (List.getElem_mem hlt)
      have hx : wr.cell? ⟨w.heap.size, ts[k].2, none⟩ = some (.int .i32 (x ts[k].2)) := (hnx.cell (p := ⟨w.heap.size, ts[k].2, none⟩) hsz).trans (HX.out _ hm7)
      have HE : Hid (evalL x (ts.take (k + 1)) = step32 (evalL x (ts.take k)) ts[k].1 (x ts[k].2)) := evalL_snoc x ts k hlt
      have hz : w.heap.size < wr.heap.size := by have := hnx.size; omega
      have hgz : g < wr.heap.size := hl2.lt
      go_wp2
      go_quiet ((go_at_call 159; exact Calls.quiet_of_same ((apply_any _ _ _ _ hm3).mono (fun _ _ h => ⟨h.1, h.2.symm⟩))))
      go_wp2
      go_roundw
      case rel => exact ⟨k + 1, by omega, by go_num, by rw [HE.out], below_drewN (hnx.alloc (by have := hnx.size; omega) _) _⟩
      case measure => simp [intOf]; omega
    · go_wp2
      go_ret2
      have hz : k = ts.length := by omega
      subst hz
      exact ⟨by simp, hb1.trans (hnx.mono (by omega))⟩

end Go.Proofs.YtpfcacedpkaihaaGreat
