import Derived.Test.YtkednbbjofeecaaGreatDh
/- The program's readers (package readers): Span and Narrow, walked. -/
namespace Go.Proofs.YtkednbbjofeecaaGreat
open Go.RowKit

def DSpanPost (w : World) (D : DevS) (m : Int) (e : Ending) (w' : World) : Prop :=
  Kept (fun _ => False) w w' ∧ (((∀ i, i < 6 → (D.seats i).reads = true → (D.seats i).num ≠ m) ∧ e = .returned (.tuple #[.agg #[.int .u64 0, .int .u64 0], .int .i64 8])) ∨
    (∃ j, j < 6 ∧ (D.seats j).reads = true ∧ (D.seats j).num = m ∧ e = .returned (.tuple #[.agg #[.int .u64 ((D.seats j).lo : Int), .int .u64 ((D.seats j).hi : Int)], .int .i64 0])))

set_option maxRecDepth 100000 in
set_option maxHeartbeats 2000000 in
theorem dspan (w : World) (b : Nat) (D : DevS) (m : Int) (h : Dev w b D) :
    Calls Tryz.prog 84 #[.pointer (some ⟨b, 2, none⟩), .int .i64 m] w fun e w' => DSpanPost w D m e w' := by
  have HD : Hid (Dev w b D) := h
  have hbl := h.blk.lt
  have HD1 : Hid (∀ o, Dev (w.alloc o) b D) := fun o => h.kept (Kept.alloc w o (fun _ => False)) (fun _ _ => id)
  by_cases hall : ∀ i, i < 6 → (D.seats i).reads = true → (D.seats i).num ≠ m
  · have HALL : Hid (∀ i, i < 6 → (D.seats i).reads = true → (D.seats i).num ≠ m) := hall
    have HFR : Hid (∀ o, Calls Tryz.prog 112 #[.pointer (some ⟨b, 2, none⟩), .int .i64 m] (w.alloc o) fun e w' => e = .returned (.tuple #[.int .i64 0, .bool false]) ∧ Kept (fun _ => False) w w' ∧ w'.heap[w.heap.size]? = (w.alloc o).heap[w.heap.size]?) :=
      fun o => (dseat (w.alloc o) b D m (HD1.out o)).mono fun e w' hp => by
        obtain ⟨k, ⟨j, hj, hr, hn, _⟩ | ⟨_, e2⟩⟩ := hp
        · exact absurd hn (hall j hj hr)
        · exact ⟨e2, (Kept.alloc w o (fun _ => False)).trans k (fun _ => id) (fun _ _ => id), k.block _ (by simp) id⟩
    clear h hall
    go_enter Tryz.func84, Tryz.ntmps84
    go_wp2_with (go_at_call 112; refine (HFR.out _).mono ?_; rintro e w1 ⟨rfl, hk1, hb1⟩; have p0 : w1.cell? ⟨w.heap.size, 0, none⟩ = some (.int .u64 0) := (World.cell?_of_block (a := ⟨w.heap.size, 0, none⟩) hb1).trans (by simp); have p1 : w1.cell? ⟨w.heap.size, 1, none⟩ = some (.int .u64 0) := (World.cell?_of_block (a := ⟨w.heap.size, 1, none⟩) hb1).trans (by simp); have g0 : w1.frozen? ⟨w.heap.size, 0, none⟩ = false := (World.frozen?_of_block (a := ⟨w.heap.size, 0, none⟩) hb1).trans (by simp); have g1 : w1.frozen? ⟨w.heap.size, 1, none⟩ = false := (World.frozen?_of_block (a := ⟨w.heap.size, 1, none⟩) hb1).trans (by simp))
    refine bodyPost_ret (v := .tuple #[.agg #[.int .u64 0, .int .u64 0], .int .i64 8]) (by simp [results, Tryz.results84, go_sem, *]) rfl ⟨?_, .inl ⟨HALL.out, rfl⟩⟩
    exact (hk1.setNew _ 0 _ (Nat.le_refl _)).setNew _ 1 _ (Nat.le_refl _)
  · have HFR : Hid (∀ o, Calls Tryz.prog 112 #[.pointer (some ⟨b, 2, none⟩), .int .i64 m] (w.alloc o) fun e w' => ∃ j, j < 6 ∧ Hid ((D.seats j).reads = true ∧ (D.seats j).num = m) ∧ e = .returned (.tuple #[.int .i64 (j : Int), .bool true]) ∧ Kept (fun _ => False) w w' ∧ w'.heap[w.heap.size]? = (w.alloc o).heap[w.heap.size]? ∧ w.heap.size < w'.heap.size) :=
      fun o => (dseat (w.alloc o) b D m (HD1.out o)).mono fun e w' hp => by
        obtain ⟨k, ⟨j, hj, hr, hn, e2⟩ | ⟨ha, _⟩⟩ := hp
        · exact ⟨j, hj, ⟨hr, hn⟩, e2, (Kept.alloc w o (fun _ => False)).trans k (fun _ => id) (fun _ _ => id), k.block _ (by simp) id, by have := k.size; simp at this; omega⟩
        · exact absurd ha hall
    clear h hall
    go_enter Tryz.func84, Tryz.ntmps84
    go_wp2_with (go_at_call 112; refine (HFR.out _).mono ?_; rintro e w1 ⟨j, hj, hr, rfl, hk1, hb1, hsz1⟩; have p0 : w1.cell? ⟨w.heap.size, 0, none⟩ = some (.int .u64 0) := (World.cell?_of_block (a := ⟨w.heap.size, 0, none⟩) hb1).trans (by simp); have p1 : w1.cell? ⟨w.heap.size, 1, none⟩ = some (.int .u64 0) := (World.cell?_of_block (a := ⟨w.heap.size, 1, none⟩) hb1).trans (by simp); have g0 : w1.frozen? ⟨w.heap.size, 0, none⟩ = false := (World.frozen?_of_block (a := ⟨w.heap.size, 0, none⟩) hb1).trans (by simp); have g1 : w1.frozen? ⟨w.heap.size, 1, none⟩ = false := (World.frozen?_of_block (a := ⟨w.heap.size, 1, none⟩) hb1).trans (by simp); have hD1 : Dev w1 b D := HD.out.kept hk1 (fun _ _ => id); obtain ⟨s0, s1, s2, s3⟩ := hD1.seat j hj; clear hD1 hb1; have hbs : b ≠ w.heap.size := Nat.ne_of_lt hbl; have hbw : b < w1.heap.size := Nat.lt_trans hbl hsz1)
    refine bodyPost_ret (v := .tuple #[.agg #[.int .u64 ((D.seats j).lo : Int), .int .u64 ((D.seats j).hi : Int)], .int .i64 0]) (by simp [results, Tryz.results84, go_sem, *]) rfl ⟨?_, .inr ⟨j, hj, hr.out.1, hr.out.2, rfl⟩⟩
    exact (hk1.setNew _ 0 _ (Nat.le_refl _)).setNew _ 1 _ (Nat.le_refl _)

/-- a seat's span begins later. -/
def SeatE.from (s : SeatE) (f : Nat) : SeatE := { s with lo := max s.lo f }

theorem seat_cells2 (D : DevS) (j : Nat) (hj : j < 6) (lo hi : Nat) :
    ((D.cells.setIfInBounds (3 + j * 4 + 2) (.int .u64 (lo : Int))).setIfInBounds (3 + j * 4 + 3) (.int .u64 (hi : Int))) = (D.seatP j { D.seats j with lo := lo, hi := hi } D.begun).cells := by
  rcases six hj with rfl | rfl | rfl | rfl | rfl | rfl <;> simp [DevS.cells, DevS.seatP, putSeat]
theorem Dev.seatSpan {w w1 : World} {b : Nat} {D : DevS} (h : Dev w1 b D) (k : Kept (fun _ => False) w w1) (j : Nat) (hj : j < 6) (lo hi : Nat) (W : World)
    (hW : W.heap = ((w1.setCell ⟨b, 3 + j * 4 + 2, none⟩ (.int .u64 (lo : Int))).setCell ⟨b, 3 + j * 4 + 3, none⟩ (.int .u64 (hi : Int))).heap) (h1 : W.os = w1.os) (h2 : W.tape = w1.tape) (h3 : W.output = w1.output) :
    Dev W b (D.seatP j { D.seats j with lo := lo, hi := hi } D.begun) ∧ Kept (D.fp b) w W := by
  have kk := (Kept.setCell w1 ⟨b, 3 + j * 4 + 2, none⟩ (.int .u64 (lo : Int))).trans (Kept.setCell _ ⟨b, 3 + j * 4 + 3, none⟩ (.int .u64 (hi : Int))) (H := fun k => k = b) (fun _ => id) (fun _ _ => id)
  have kW : Kept (fun k => k = b) w1 W := ⟨h1, h2, h3, by rw [hW]; exact kk.size, fun i hi hn => by rw [hW]; exact kk.block i hi hn⟩
  have bb := (h.blk.set (3 + j * 4 + 2) (.int .u64 (lo : Int))).set (3 + j * 4 + 3) (.int .u64 (hi : Int))
  rw [seat_cells2 D j hj lo hi] at bb
  exact ⟨h.own kW rfl (bb.same (by rw [hW])), k.trans kW (fun _ => False.elim) (fun i _ he => .inl he)⟩

def DNarrowPost (w : World) (b : Nat) (D : DevS) (j f : Nat) (e : Ending) (w' : World) : Prop := e = .returned (.tuple #[]) ∧ Dev w' b (D.seatP j ((D.seats j).from f) D.begun) ∧ Kept (D.fp b) w w'

set_option maxRecDepth 100000 in
set_option maxHeartbeats 2000000 in
theorem dnarrow (w : World) (b : Nat) (D : DevS) (m : Int) (j f : Nat) (h : Dev w b D) (hj : j < 6) (hr : (D.seats j).reads = true) (hn : (D.seats j).num = m) (hone : ∀ i, i < 6 → (D.seats i).reads = true → (D.seats i).num = m → i = j) :
    Calls Tryz.prog 86 #[.pointer (some ⟨b, 2, none⟩), .int .i64 m, .agg #[.int .u64 (f : Int), .int .u64 ((D.seats j).hi : Int)]] w fun e w' => DNarrowPost w b D j f e w' := by
  have HD : Hid (Dev w b D) := h
  have hbl := h.blk.lt
  have HFR : Hid (∀ o, Calls Tryz.prog 112 #[.pointer (some ⟨b, 2, none⟩), .int .i64 m] (w.alloc o) fun e w' => e = .returned (.tuple #[.int .i64 (j : Int), .bool true]) ∧ Kept (fun _ => False) w w' ∧ w'.heap[w.heap.size]? = (w.alloc o).heap[w.heap.size]? ∧ w.heap.size < w'.heap.size) :=
    fun o => (dseat (w.alloc o) b D m (h.kept (Kept.alloc w o (fun _ => False)) (fun _ _ => id))).mono fun e w' hp => by
      obtain ⟨k, ⟨i, hi, hri, hni, e2⟩ | ⟨ha, _⟩⟩ := hp
      · have := hone i hi hri hni
        subst this
        exact ⟨e2, (Kept.alloc w o (fun _ => False)).trans k (fun _ => id) (fun _ _ => id), k.block _ (by simp) id, by have := k.size; simp at this; omega⟩
      · exact absurd hn (ha j hj hr)
  have HLO : Hid (∀ W, Dev W b (D.seatP j { D.seats j with lo := max (D.seats j).lo f, hi := (D.seats j).hi } D.begun) ∧ Kept (D.fp b) w W → DNarrowPost w b D j f (.returned (.tuple #[])) W) := fun W hW => ⟨rfl, hW⟩
  obtain ⟨lo, hlo⟩ : ∃ lo, lo = (D.seats j).lo := ⟨_, rfl⟩
  obtain ⟨hi, hhi⟩ : ∃ hi, hi = (D.seats j).hi := ⟨_, rfl⟩
  have HS : Hid (∀ W, Kept (fun _ => False) w W → Dev W b D ∧ W.cell? ⟨b, 3 + j * 4 + 2, none⟩ = some (.int .u64 (lo : Int)) ∧ W.cell? ⟨b, 3 + j * 4 + 3, none⟩ = some (.int .u64 (hi : Int)) ∧ W.frozen? ⟨b, 3 + j * 4 + 2, none⟩ = false ∧ W.frozen? ⟨b, 3 + j * 4 + 3, none⟩ = false) := fun W hW => by
    have hd := h.kept hW (fun _ _ => id)
    exact ⟨hd, by rw [hlo]; exact (hd.seat j hj).2.2.1, by rw [hhi]; exact (hd.seat j hj).2.2.2, hd.blk.free _, hd.blk.free _⟩
  rw [← hlo, ← hhi] at HLO
  rw [← hhi]
  have hj0 : (0 : Int) ≤ (j : Int) := by omega
  have hj6 : (j : Int) < 6 := by omega
  clear h hr hn hone hlo hhi
  by_cases hlt : lo < f
  · have em : max lo f = f := by omega
    rw [em] at HLO
    clear em
    go_enter Tryz.func86, Tryz.ntmps86
    go_wp2_with (go_at_call 112; refine (HFR.out _).mono ?_; rintro e w1 ⟨rfl, hk1, hb1, hsz1⟩; obtain ⟨hd1, s2, s3, f2, f3⟩ := HS.out _ hk1; have HD1 : Hid (Dev w1 b D) := hd1; clear hd1; have p0 : w1.cell? ⟨w.heap.size, 0, none⟩ = some (.int .u64 (f : Int)) := (World.cell?_of_block (a := ⟨w.heap.size, 0, none⟩) hb1).trans (by simp); have p1 : w1.cell? ⟨w.heap.size, 1, none⟩ = some (.int .u64 (hi : Int)) := (World.cell?_of_block (a := ⟨w.heap.size, 1, none⟩) hb1).trans (by simp); clear hb1; have hbs : b ≠ w.heap.size := Nat.ne_of_lt hbl; have hbw : b < w1.heap.size := Nat.lt_trans hbl hsz1)
    go_region
    all_goals
      go_wp2
      go_end0
      exact HLO.out _ (Dev.besides (HD1.out.seatSpan hk1 j hj f hi _ rfl rfl rfl rfl) ((Kept.alloc _ _ (fun _ => False)).drew) (fun _ => False.elim) (fun i hi => HD.out.lt i hi))
  · have em : max lo f = lo := by omega
    rw [em] at HLO
    clear em
    go_enter Tryz.func86, Tryz.ntmps86
    go_wp2_with (go_at_call 112; refine (HFR.out _).mono ?_; rintro e w1 ⟨rfl, hk1, hb1, hsz1⟩; obtain ⟨hd1, s2, s3, f2, f3⟩ := HS.out _ hk1; have HD1 : Hid (Dev w1 b D) := hd1; clear hd1; have p0 : w1.cell? ⟨w.heap.size, 0, none⟩ = some (.int .u64 (f : Int)) := (World.cell?_of_block (a := ⟨w.heap.size, 0, none⟩) hb1).trans (by simp); have p1 : w1.cell? ⟨w.heap.size, 1, none⟩ = some (.int .u64 (hi : Int)) := (World.cell?_of_block (a := ⟨w.heap.size, 1, none⟩) hb1).trans (by simp); clear hb1; have hbs : b ≠ w.heap.size := Nat.ne_of_lt hbl; have hbw : b < w1.heap.size := Nat.lt_trans hbl hsz1)
    go_region
    all_goals
      go_wp2
      go_end0
      exact HLO.out _ (Dev.besides (HD1.out.seatSpan hk1 j hj lo hi _ rfl rfl rfl rfl) ((Kept.alloc _ _ (fun _ => False)).drew) (fun _ => False.elim) (fun i hi => HD.out.lt i hi))

end Go.Proofs.YtkednbbjofeecaaGreat

/- The program's world beside the document's: what both hold of the same (mathematics alone). -/
namespace Go.Proofs.YtkednbbjofeecaaGreat
open Go.RowKit

/-- how many of six seats are taken. -/
def seatN (s : Nat → SeatE) : Nat := (if (s 0).reads then 1 else 0) + (if (s 1).reads then 1 else 0) + (if (s 2).reads then 1 else 0) + (if (s 3).reads then 1 else 0) + (if (s 4).reads then 1 else 0) + (if (s 5).reads then 1 else 0)
theorem putSeat_self (s : Nat → SeatE) (j : Nat) (x : SeatE) : putSeat s j x j = x := by simp [putSeat]
theorem putSeat_ne (s : Nat → SeatE) (j i : Nat) (x : SeatE) (h : i ≠ j) : putSeat s j x i = s i := by simp [putSeat, h]

theorem seatN_put (s : Nat → SeatE) (j : Nat) (x : SeatE) (h : j < 6) : seatN (putSeat s j x) + (if (s j).reads then 1 else 0) = seatN s + (if x.reads then 1 else 0) := by
  rcases six h with rfl | rfl | rfl | rfl | rfl | rfl <;> simp [seatN, putSeat] <;> omega
theorem seatN_all {s : Nat → SeatE} (h : ∀ i, i < 6 → (s i).reads = true) : seatN s = 6 := by
  simp [seatN, h 0 (by omega), h 1 (by omega), h 2 (by omega), h 3 (by omega), h 4 (by omega), h 5 (by omega)]
theorem seatN_free {s : Nat → SeatE} {j : Nat} (hj : j < 6) (h : (s j).reads = false) : seatN s < 6 := by
  have := seatN_put s j ⟨true, 0, 0, 0⟩ hj
  rw [h] at this
  have h6 : seatN (putSeat s j ⟨true, 0, 0, 0⟩) ≤ 6 := by unfold seatN; split <;> split <;> split <;> split <;> split <;> split <;> omega
  simp at this; omega

theorem openN_append (l : List RdrE) (x : RdrE) : openN (l ++ [x]) = openN l + if x.ended then 0 else 1 := by
  unfold openN
  rw [List.filter_append, List.length_append]
  cases h : x.ended <;> simp [h]
theorem openN_set (l : List RdrE) (j : Nat) (x y : RdrE) (h : l[j]? = some x) : openN (l.set j y) + (if x.ended then 0 else 1) = openN l + (if y.ended then 0 else 1) := by
  induction l generalizing j with
  | nil => simp at h
  | cons a r ih =>
    match j with
    | 0 => simp at h; subst h; cases ha : a.ended <;> cases hy : y.ended <;> simp [openN, ha, hy]
    | j + 1 =>
      have := ih j (by simpa using h)
      cases ha : a.ended <;> simp [openN, ha] at this ⊢ <;> omega

/-- the readers of both. -/
structure SimR (begun : Nat) (s : Nat → SeatE) (l : List RdrE) (top : Nat) : Prop where
  begun : begun = l.length
  seat : ∀ i, i < 6 → (s i).reads = true → ∃ (j : Nat) (x : RdrE), (s i).num = j ∧ l[j]? = some x ∧ x.ended = false ∧ x.lo = (s i).lo ∧ x.hi = (s i).hi
  back : ∀ (j : Nat) (x : RdrE), l[j]? = some x → x.ended = false → ∃ i, i < 6 ∧ (s i).reads = true ∧ (s i).num = j
  one : ∀ i k, i < 6 → k < 6 → (s i).reads = true → (s k).reads = true → (s i).num = (s k).num → i = k
  count : openN l = seatN s
  span : ∀ x ∈ l, x.lo ≤ x.hi ∧ x.hi ≤ top

theorem SimR.beginS {b top : Nat} {s : Nat → SeatE} {l : List RdrE} (h : SimR b s l top) {j : Nat} (hj : j < 6) (hf : (s j).reads = false) (lo : Nat) (hlo : lo ≤ top) :
    SimR (b + 1) (putSeat s j ⟨true, b, lo, top⟩) (l ++ [⟨lo, top, false⟩]) top := by
  have hb := h.begun
  refine ⟨by simp [hb], ?_, ?_, ?_, ?_, ?_⟩
  · intro i hi hr
    by_cases e : i = j
    · subst e
      rw [putSeat_self]
      exact ⟨b, ⟨lo, top, false⟩, rfl, by rw [hb]; simp, rfl, rfl, rfl⟩
    · rw [putSeat_ne _ _ _ _ e] at hr ⊢
      obtain ⟨k, x, h1, h2, h3⟩ := h.seat i hi hr
      exact ⟨k, x, h1, by rw [List.getElem?_append_left (List.getElem?_eq_some_iff.mp h2).1]; exact h2, h3⟩
  · intro k x hx he
    by_cases hk : k < l.length
    · rw [List.getElem?_append_left hk] at hx
      obtain ⟨i, hi, hr, hn⟩ := h.back k x hx he
      have e : i ≠ j := by intro e; subst e; rw [hf] at hr; cases hr
      exact ⟨i, hi, by rw [putSeat_ne _ _ _ _ e]; exact hr, by rw [putSeat_ne _ _ _ _ e]; exact hn⟩
    · have hk2 : k < (l ++ [(⟨lo, top, false⟩ : RdrE)]).length := (List.getElem?_eq_some_iff.mp hx).1
      have : k = b := by simp at hk2; omega
      exact ⟨j, hj, by rw [putSeat_self], by rw [putSeat_self, this]⟩
  · intro i k hi hk hri hrk hn
    have key : ∀ i, i < 6 → i ≠ j → (s i).reads = true → (s i).num ≠ (b : Int) := by
      intro i hi _ hr e
      obtain ⟨q, x, h1, h2, _⟩ := h.seat i hi hr
      have := (List.getElem?_eq_some_iff.mp h2).1
      rw [e] at h1; omega
    by_cases ei : i = j
    · by_cases ek : k = j
      · omega
      · subst ei
        rw [putSeat_self, putSeat_ne _ _ _ _ ek] at hn
        rw [putSeat_ne _ _ _ _ ek] at hrk
        exact absurd hn.symm (key k hk ek hrk)
    · by_cases ek : k = j
      · subst ek
        rw [putSeat_self, putSeat_ne _ _ _ _ ei] at hn
        rw [putSeat_ne _ _ _ _ ei] at hri
        exact absurd hn (key i hi ei hri)
      · rw [putSeat_ne _ _ _ _ ei, putSeat_ne _ _ _ _ ek] at hn
        rw [putSeat_ne _ _ _ _ ei] at hri
        rw [putSeat_ne _ _ _ _ ek] at hrk
        exact h.one i k hi hk hri hrk hn
  · rw [openN_append, h.count]
    have := seatN_put s j ⟨true, b, lo, top⟩ hj
    rw [hf] at this
    simpa using this.symm
  · intro x hx
    rw [List.mem_append] at hx
    rcases hx with hx | hx
    · exact h.span x hx
    · simp at hx; subst hx; exact ⟨hlo, Nat.le_refl _⟩

theorem SimR.top {b t t' : Nat} {s : Nat → SeatE} {l : List RdrE} (h : SimR b s l t) (ht : t ≤ t') : SimR b s l t' :=
  ⟨h.begun, h.seat, h.back, h.one, h.count, fun x hx => ⟨(h.span x hx).1, Nat.le_trans (h.span x hx).2 ht⟩⟩

/-- a reader has another span, at both. -/
theorem SimR.endS {b top : Nat} {s : Nat → SeatE} {l : List RdrE} (h : SimR b s l top) {i j : Nat} {x : RdrE} (hi : i < 6) (hr : (s i).reads = true) (hn : (s i).num = j) (hx : l[j]? = some x) (he : x.ended = false) :
    SimR b (putSeat s i ⟨false, 0, 0, 0⟩) (l.set j { x with ended := true }) top := by
  have hlt := (List.getElem?_eq_some_iff.mp hx).1
  refine ⟨by simp [h.begun], ?_, ?_, ?_, ?_, ?_⟩
  · intro k hk hrk
    by_cases e : k = i
    · subst e; rw [putSeat_self] at hrk; cases hrk
    · rw [putSeat_ne _ _ _ _ e] at hrk ⊢
      obtain ⟨q, y, h1, h2, h3⟩ := h.seat k hk hrk
      have hq : q ≠ j := fun eq => e (h.one k i hk hi hrk hr (by rw [h1, hn, eq]))
      exact ⟨q, y, h1, by rw [List.getElem?_set_ne (fun z => hq z.symm)]; exact h2, h3⟩
  · intro q y hy hye
    by_cases e : q = j
    · subst e
      rw [List.getElem?_set_self hlt] at hy
      injection hy with hy; subst hy; cases hye
    · rw [List.getElem?_set_ne (fun z => e z.symm)] at hy
      obtain ⟨k, hk, hrk, hnk⟩ := h.back q y hy hye
      have hki : k ≠ i := by intro eq; subst eq; rw [hn] at hnk; omega
      exact ⟨k, hk, by rw [putSeat_ne _ _ _ _ hki]; exact hrk, by rw [putSeat_ne _ _ _ _ hki]; exact hnk⟩
  · intro p q hp hq hrp hrq hnn
    by_cases ep : p = i
    · subst ep; rw [putSeat_self] at hrp; cases hrp
    · by_cases eq : q = i
      · subst eq; rw [putSeat_self] at hrq; cases hrq
      · rw [putSeat_ne _ _ _ _ ep, putSeat_ne _ _ _ _ eq] at hnn
        rw [putSeat_ne _ _ _ _ ep] at hrp
        rw [putSeat_ne _ _ _ _ eq] at hrq
        exact h.one p q hp hq hrp hrq hnn
  · have a := openN_set l j x { x with ended := true } hx
    have c := seatN_put s i ⟨false, 0, 0, 0⟩ hi
    have d := h.count
    rw [he] at a
    rw [hr] at c
    simp at a c
    omega
  · intro y hy
    rcases List.mem_or_eq_of_mem_set hy with hy | rfl
    · exact h.span y hy
    · exact h.span x (List.mem_of_getElem? hx)

/-- a reader's span begins later, at both. -/
theorem SimR.narrowS {b top : Nat} {s : Nat → SeatE} {l : List RdrE} (h : SimR b s l top) {i j f : Nat} {x : RdrE} (hi : i < 6) (hr : (s i).reads = true) (hn : (s i).num = j) (hx : l[j]? = some x) (hf : f ≤ x.hi) (hlo : x.lo = (s i).lo) (hhi : x.hi = (s i).hi) (he : x.ended = false) :
    SimR b (putSeat s i ((s i).from f)) (l.set j { x with lo := max x.lo f }) top := by
  have hlt := (List.getElem?_eq_some_iff.mp hx).1
  have rd : ∀ k, (putSeat s i ((s i).from f) k).reads = (s k).reads := fun k => by by_cases e : k = i <;> simp [putSeat, e, SeatE.from]
  have nm : ∀ k, (putSeat s i ((s i).from f) k).num = (s k).num := fun k => by by_cases e : k = i <;> simp [putSeat, e, SeatE.from]
  refine ⟨by simp [h.begun], ?_, ?_, ?_, ?_, ?_⟩
  · intro k hk hrk
    rw [rd] at hrk
    rw [nm]
    by_cases e : k = i
    · subst e
      refine ⟨j, { x with lo := max x.lo f }, hn, List.getElem?_set_self hlt, he, ?_, ?_⟩
      · rw [putSeat_self]; show max x.lo f = max (s k).lo f; rw [hlo]
      · rw [putSeat_self]; exact hhi
    · obtain ⟨q, y, h1, h2, h3⟩ := h.seat k hk hrk
      have hq : q ≠ j := fun eq => e (h.one k i hk hi hrk hr (by rw [h1, hn, eq]))
      rw [putSeat_ne _ _ _ _ e]
      exact ⟨q, y, h1, by rw [List.getElem?_set_ne (fun z => hq z.symm)]; exact h2, h3⟩
  · intro q y hy hye
    by_cases e : q = j
    · subst e
      exact ⟨i, hi, by rw [rd]; exact hr, by rw [nm]; exact hn⟩
    · rw [List.getElem?_set_ne (fun z => e z.symm)] at hy
      obtain ⟨k, hk, hrk, hnk⟩ := h.back q y hy hye
      exact ⟨k, hk, by rw [rd]; exact hrk, by rw [nm]; exact hnk⟩
  · intro p q hp hq hrp hrq hnn
    rw [rd] at hrp hrq
    rw [nm, nm] at hnn
    exact h.one p q hp hq hrp hrq hnn
  · have a := openN_set l j x { x with lo := max x.lo f } hx
    have c := seatN_put s i ((s i).from f) hi
    have d := h.count
    have e : ((s i).from f).reads = (s i).reads := rfl
    rw [e] at c
    have e2 : ({ x with lo := max x.lo f } : RdrE).ended = x.ended := rfl
    rw [e2] at a
    omega
  · intro y hy
    rcases List.mem_or_eq_of_mem_set hy with hy | rfl
    · exact h.span y hy
    · have := h.span x (List.mem_of_getElem? hx)
      refine ⟨?_, this.2⟩
      show max x.lo f ≤ x.hi
      omega

/-- the least stamp from a tick on: the first commit at the tick or later ends what was newest. -/
theorem least_cons {l : List PastE} {tick : Int} {j : Nat} (hj : j ≤ l.length) (hb : ∀ i (h : i < l.length), i < j → l[i].tick < tick) (hs : ∀ (h : j < l.length), tick ≤ l[j].tick) (z : PastE) : Least (z :: l) tick j := by
  refine ⟨by simp; omega, ?_, ?_⟩
  · by_cases e : j < l.length
    · have := hs e
      simp [freshB, List.getElem?_eq_getElem e, this]
    · have : j = l.length := by omega
      simp [freshB, this]
  · intro i hi
    have hil : i < l.length := by omega
    have := hb i hil hi
    have h2 : ¬ i = l.length := by omega
    simp [freshB, List.getElem?_eq_getElem hil, h2]
    omega
theorem Least.unique {l : List PastE} {tick : Int} {a b : Nat} (h : Least l tick a) (k : Least l tick b) : a = b := by
  rcases Nat.lt_trichotomy a b with x | x | x
  · have := k.2.2 a x; rw [h.2.1] at this; cases this
  · exact x
  · have := h.2.2 b x; rw [k.2.1] at this; cases this

/-- a state's values are of 32 bits. -/
def Bd (p : PastE) : Prop := ∀ k, -2147483648 ≤ p.st k ∧ p.st k < 2147483648
def BdW (ws : List (Int × Int)) : Prop := ∀ x ∈ ws, -2147483648 ≤ x.2 ∧ x.2 < 2147483648
theorem Bd.write {p : PastE} (h : Bd p) {x : Int × Int} (hx : -2147483648 ≤ x.2 ∧ x.2 < 2147483648) : Bd (writeP p x) := by
  intro k
  show -2147483648 ≤ (if k = x.1.toNat then x.2 else p.st k) ∧ (if k = x.1.toNat then x.2 else p.st k) < 2147483648
  split
  · exact hx
  · exact h k
theorem Bd.writes {p : PastE} (h : Bd p) {ws : List (Int × Int)} (hw : BdW ws) : Bd (writesP p ws) := by
  induction ws generalizing p with
  | nil => exact h
  | cons x r ih => exact ih (h.write (hw x (List.mem_cons_self ..))) fun y hy => hw y (List.mem_cons_of_mem _ hy)

/-- both worlds hold the same; no node remembers anything. -/
structure Sim (D : DevS) (R : RefS) : Prop where
  past : R.past = zeroP :: D.past
  clock : R.clock = D.clock
  rdr : SimR D.begun D.seats R.rdrs D.past.length
  puts : R.puts = D.puts
  calm : ∀ nd ∈ R.nodes, nd.wts = [] ∧ nd.ents = [] ∧ nd.nms = []
  bd : ∀ p ∈ D.past, Bd p

theorem Sim.len {D : DevS} {R : RefS} (h : Sim D R) : R.past.length = D.past.length + 1 := by rw [h.past]; simp

theorem told_calm {l l' : List NodeE} {t : Nat} (h : ToldTo l l' t l.length) (hc : ∀ nd ∈ l, nd.wts = [] ∧ nd.ents = [] ∧ nd.nms = []) : ∀ nd ∈ l', nd.wts = [] ∧ nd.ents = [] ∧ nd.nms = [] := by
  intro nd hnd
  obtain ⟨j, hj⟩ := List.getElem?_of_mem hnd
  have hlt : j < l.length := by rw [← h.1]; exact (List.getElem?_eq_some_iff.mp hj).1
  obtain ⟨v, hv⟩ := (h.2 j l[j] (List.getElem?_eq_getElem hlt)).1 hlt
  rw [hj] at hv
  injection hv with hv
  subst hv
  have hm := hc l[j] (List.getElem_mem hlt)
  unfold tellN leftN
  split
  · exact ⟨rfl, rfl, rfl⟩
  · exact hm

theorem at_st {D : DevS} {R : RefS} {p : PastE} {t : Nat} (h : Sim D R) (hp : R.past[t]? = some p) : stAt D.past t = p.st ∧ Bd p := by
  rw [h.past] at hp
  unfold stAt
  match t, hp with
  | 0, hp => simp at hp; subst hp; exact ⟨rfl, fun k => ⟨by simp [zeroP], by simp [zeroP]⟩⟩
  | t + 1, hp =>
    rw [List.getElem?_cons_succ] at hp
    rw [if_neg (by omega), Nat.add_sub_cancel, hp]
    exact ⟨rfl, h.bd p (List.mem_of_getElem? hp)⟩

theorem last_st {D : DevS} {R : RefS} {p : PastE} (h : Sim D R) (hp : R.past[R.past.length - 1]? = some p) : stAt D.past D.past.length = p.st := by
  rw [h.len, h.past, Nat.add_sub_cancel] at hp
  unfold stAt
  by_cases e : D.past.length = 0
  · rw [e] at hp
    simp at hp
    rw [if_pos e, ← hp]; rfl
  · rw [if_neg e]
    obtain ⟨m, hm⟩ : ∃ m, D.past.length = m + 1 := ⟨D.past.length - 1, by omega⟩
    rw [hm] at hp ⊢
    rw [List.getElem?_cons_succ] at hp
    rw [Nat.add_sub_cancel, hp]; rfl

theorem Sim.commit {D : DevS} {R : RefS} {p : PastE} {ws : List (Int × Int)} {v v' : Value} {l : List NodeE} (h : Sim D R) (hp : R.past[R.past.length - 1]? = some p) (ht : ToldTo R.nodes l R.past.length R.nodes.length) (hw : BdW ws) :
    Sim (D.pushP (D.nextP ws) v) { R.pushP (writesP { p with keys := 0, tick := R.clock } ws) v' with nodes := l } := by
  refine ⟨?_, h.clock, ?_, h.puts, told_calm ht h.calm, ?_⟩
  · show R.past ++ [_] = zeroP :: (D.past ++ [_])
    rw [h.past]
    have e : ({ p with keys := 0, tick := R.clock } : PastE) = ⟨stAt D.past D.past.length, 0, D.clock⟩ := by rw [last_st h hp, h.clock]
    rw [e]; rfl
  · show SimR D.begun D.seats R.rdrs (D.past ++ [_]).length
    exact h.rdr.top (by simp)
  · intro y hy
    have hy' : y ∈ D.past ++ [D.nextP ws] := hy
    rw [List.mem_append] at hy'
    rcases hy' with hy' | hy'
    · exact h.bd y hy'
    · simp at hy'
      subst hy'
      refine Bd.writes (fun k => ?_) hw
      show -2147483648 ≤ stAt D.past D.past.length k ∧ stAt D.past D.past.length k < 2147483648
      unfold stAt
      by_cases e : D.past.length = 0
      · rw [if_pos e]; exact ⟨by decide, by decide⟩
      · rw [if_neg e, List.getElem?_eq_getElem (by omega)]
        exact h.bd _ (List.getElem_mem _) k

end Go.Proofs.YtkednbbjofeecaaGreat

/- A world of the program's beside one of the document's: each call at both. -/
namespace Go.Proofs.YtkednbbjofeecaaGreat
open Go.RowKit

theorem fp_of_map {R R' : RefS} (h : R'.rows.map RowD.v = R.rows.map RowD.v) {b k : Nat} (hk : R'.fp b k) : R.fp b k := by
  rcases hk with hk | ⟨r, hr, hk⟩
  · exact .inl hk
  · have : r.v ∈ R.rows.map RowD.v := by rw [← h]; exact List.mem_map_of_mem hr
    obtain ⟨r', hr', e⟩ := List.mem_map.mp this
    exact .inr ⟨r', hr', by rw [e]; exact hk⟩

def pfp (xb cb : Nat) (D : DevS) (R : RefS) (k : Nat) : Prop := D.fp xb k ∨ R.fp cb k

structure Pair (w : World) (xb cb : Nat) (D : DevS) (R : RefS) : Prop where
  dev : Dev w xb D
  ref : Ref w cb R
  sim : Sim D R
  dfit : D.Fit
  rfit : R.Fit
  sep : ∀ k, D.fp xb k → ¬ R.fp cb k

theorem Pair.kept {w w' : World} {xb cb : Nat} {D : DevS} {R : RefS} {F : Nat → Prop} (h : Pair w xb cb D R) (k : Kept F w w') (hF : ∀ j, pfp xb cb D R j → ¬ F j) : Pair w' xb cb D R :=
  ⟨h.dev.kept k fun j hj => hF j (.inl hj), h.ref.kept k fun j hj => hF j (.inr hj), h.sim, h.dfit, h.rfit, h.sep⟩
theorem Pair.lt {w : World} {xb cb : Nat} {D : DevS} {R : RefS} (h : Pair w xb cb D R) : ∀ k, pfp xb cb D R k → k < w.heap.size := fun k hk => hk.elim (h.dev.lt k) (h.ref.lt k)

/-- what a call leaves of both. -/
def Turned (w w' : World) (xb cb : Nat) (D : DevS) (R : RefS) : Prop :=
  ∃ D' R', Pair w' xb cb D' R' ∧ Kept (pfp xb cb D R) w w' ∧ ∀ k, pfp xb cb D' R' k → pfp xb cb D R k ∨ w.heap.size ≤ k

theorem Turned.same {w w' : World} {xb cb : Nat} {D : DevS} {R : RefS} {F : Nat → Prop} (h : Pair w xb cb D R) (k : Kept F w w') (hF : ∀ j, j < w.heap.size → ¬ F j) : Turned w w' xb cb D R :=
  ⟨D, R, h.kept k (fun j hj => hF j (h.lt j hj)), ⟨k.os, k.tape, k.output, k.size, fun i hi _ => k.block i hi (hF i hi)⟩, fun _ hk => .inl hk⟩

/-- behind the program's call: nothing but its own has turned; the document's call, whatever is laid in between, gives the same. -/
def Then (f : FuncId) (args : Array Value) (w w1 : World) (xb cb : Nat) (D : DevS) (R : RefS) (v : Value) : Prop :=
  Kept (D.fp xb) w w1 ∧ ∀ w2, Kept (fun _ => False) w1 w2 → Calls Tryz.prog f args w2 fun e w3 => e = .returned v ∧ Turned w w3 xb cb D R ∧ Kept (R.fp cb) w2 w3

/-- both have turned. -/
theorem Pair.turned {w w1 w2 w3 : World} {xb cb : Nat} {D D' : DevS} {R R' : RefS} (h : Pair w xb cb D R) (hd : Dev w1 xb D') (k1 : Kept (D.fp xb) w w1) (f1 : ∀ k, D'.fp xb k → D.fp xb k ∨ w.heap.size ≤ k)
    (k2 : Kept (fun _ => False) w1 w2) (hr : Ref w3 cb R') (k3 : Kept (R.fp cb) w2 w3) (f3 : ∀ k, R'.fp cb k → R.fp cb k ∨ w2.heap.size ≤ k) (hs : Sim D' R') (hdf : D'.Fit) (hrf : R'.Fit) : Turned w w3 xb cb D R := by
  have hd2 : Dev w2 xb D' := hd.kept k2 (fun _ _ => id)
  have far : ∀ k, D'.fp xb k → ¬ R.fp cb k := fun k hk hr => (f1 k hk).elim (fun x => h.sep k x hr) (fun x => by have := h.ref.lt k hr; omega)
  have k12 : Kept (D.fp xb) w w2 := k1.trans k2 (fun _ => id) (fun _ _ => False.elim)
  refine ⟨D', R', ⟨hd2.kept k3 far, hr, hs, hdf, hrf, fun k hk hr' => ?_⟩, k12.trans k3 (fun _ => .inl) (fun _ _ => .inr), fun k hk => ?_⟩
  · rcases f3 k hr' with x | x
    · exact far k hk x
    · have := hd2.lt k hk; omega
  · rcases hk with hk | hk
    · exact (f1 k hk).imp .inl id
    · exact (f3 k hk).imp .inr fun x => Nat.le_trans k12.size x

/-- neither has turned. -/
theorem Pair.stays {w w1 w2 w3 : World} {xb cb : Nat} {D : DevS} {R : RefS} (h : Pair w xb cb D R) (k1 : Kept (fun _ => False) w w1) (k2 : Kept (fun _ => False) w1 w2) (k3 : Kept (fun _ => False) w2 w3) : Turned w w3 xb cb D R :=
  Turned.same h ((k1.trans k2 (fun _ => id) (fun _ _ => id)).trans k3 (fun _ => id) (fun _ _ => id)) (fun _ _ => id)

theorem Pair.ref_after {w w1 w2 : World} {xb cb : Nat} {D : DevS} {R : RefS} (h : Pair w xb cb D R) (k1 : Kept (D.fp xb) w w1) (k2 : Kept (fun _ => False) w1 w2) : Ref w2 cb R :=
  (h.ref.kept k1 fun j hj hd => h.sep j hd hj).kept k2 (fun _ _ => id)

/-! ### Tick -/
theorem pair_tick {w : World} {xb cb : Nat} {D : DevS} {R : RefS} (h : Pair w xb cb D R) :
    ∃ r : Int, Calls Tryz.prog 31 #[.pointer (some ⟨xb, 0, none⟩)] w fun e w1 => e = .returned (.int .i64 r) ∧
      Then 32 #[.pointer (some ⟨cb, 0, none⟩)] w w1 xb cb D R (.int .i64 r) := by
  have hc := h.sim.clock
  by_cases hlt : D.clock < 100000
  · refine ⟨0, (dtick w xb D h.dev h.dfit).mono fun e w1 hp => ?_⟩
    rcases hp with ⟨a, _⟩ | ⟨_, e1, hd, k1⟩
    · omega
    · refine ⟨e1, k1, fun w2 k2 => (rtick w2 cb R (h.ref_after k1 k2) h.rfit).mono fun e w3 hq => ?_⟩
      rcases hq with ⟨a, _⟩ | ⟨_, e2, hr, k3⟩
      · omega
      · have c0 := h.dfit.clk0
        refine ⟨e2, h.turned hd k1 (fun k hk => .inl hk) k2 hr k3 (fun k hk => .inl (fp_of_map rfl hk)) ⟨h.sim.past, by show R.clock + 1 = D.clock + 1; rw [hc], h.sim.rdr, h.sim.puts, h.sim.calm, h.sim.bd⟩ ⟨h.dfit.pmax, by show 0 ≤ D.clock + 1; omega, by show D.clock + 1 ≤ 100000; omega, h.dfit.bmax, h.dfit.qmax⟩ ⟨h.rfit.pos, h.rfit.pmax, by show 0 ≤ R.clock + 1; omega, by show R.clock + 1 ≤ 100000; omega, h.rfit.rmax, h.rfit.npos, h.rfit.nmax, h.rfit.fmax⟩, k3⟩
  · refine ⟨6, (dtick w xb D h.dev h.dfit).mono fun e w1 hp => ?_⟩
    rcases hp with ⟨_, e1, rfl⟩ | ⟨a, _⟩
    · refine ⟨e1, Kept.refl _ _, fun w2 k2 => (rtick w2 cb R (h.ref_after (Kept.refl _ _) k2) h.rfit).mono fun e w3 hq => ?_⟩
      rcases hq with ⟨_, e2, rfl⟩ | ⟨a, _⟩
      · exact ⟨e2, h.stays (Kept.refl _ _) k2 (Kept.refl _ _), Kept.refl _ _⟩
      · omega
    · omega

/-! ### Begin -/
theorem pair_begin {w : World} {xb cb : Nat} {D : DevS} {R : RefS} (h : Pair w xb cb D R) (limit : Int) :
    ∃ x y : Int, Calls Tryz.prog 34 #[.pointer (some ⟨xb, 0, none⟩), .int .i64 limit] w fun e w1 => e = .returned (.tuple #[.int .i64 x, .int .i64 y]) ∧
      Then 35 #[.pointer (some ⟨cb, 0, none⟩), .int .i64 limit] w w1 xb cb D R (.tuple #[.int .i64 x, .int .i64 y]) := by
  have hc := h.sim.clock
  have hlen := h.sim.len
  by_cases hl : limit < 0 ∨ 100000 < limit
  · refine ⟨0, 10, (dbegin_bad w xb limit hl).mono fun e w1 hp => ?_⟩
    obtain ⟨e1, rfl⟩ := hp
    refine ⟨e1, Kept.refl _ _, fun w2 k2 => (rbegin_bad w2 cb limit hl).mono fun e w3 hq => ?_⟩
    obtain ⟨e2, rfl⟩ := hq
    exact ⟨e2, h.stays (Kept.refl _ _) k2 (Kept.refl _ _), Kept.refl _ _⟩
  · have hl0 : 0 ≤ limit := by omega
    have hl1 : limit ≤ 100000 := by omega
    have hcount := h.sim.rdr.count
    have hbeg := h.sim.rdr.begun
    by_cases hall : ∀ i, i < 6 → (D.seats i).reads = true
    · have h6 := seatN_all hall
      refine ⟨0, 7, (dbegin w xb D limit h.dev h.dfit hl0 hl1).mono fun e w1 hp => ?_⟩
      obtain ⟨lo, _, ⟨_, e1, k1⟩ | ⟨j, hj, hr, _⟩ | ⟨j, hj, hr, _⟩⟩ := hp
      · refine ⟨e1, k1.mono (fun _ => False.elim), fun w2 k2 => (rbegin w2 cb R limit (h.ref_after (k1.mono (fun _ => False.elim)) k2) h.rfit hl0 hl1).mono fun e w3 hq => ?_⟩
        rcases hq with ⟨_, e2, rfl⟩ | ⟨a, _⟩ | ⟨a, _⟩
        · exact ⟨e2, h.stays k1 k2 (Kept.refl _ _), Kept.refl _ _⟩
        · omega
        · omega
      · rw [hall j hj] at hr; cases hr
      · rw [hall j hj] at hr; cases hr
    · obtain ⟨j0, hj0, hr0⟩ : ∃ j, j < 6 ∧ (D.seats j).reads = false := by
        false_or_by_contra
        rename_i hn
        refine hall fun i hi => ?_
        cases hh : (D.seats i).reads with
        | true => rfl
        | false => exact absurd ⟨i, hi, hh⟩ hn
      have h6 := seatN_free hj0 hr0
      by_cases h200 : 200 ≤ D.begun
      · refine ⟨0, 6, (dbegin w xb D limit h.dev h.dfit hl0 hl1).mono fun e w1 hp => ?_⟩
        obtain ⟨lo, _, ⟨a, _⟩ | ⟨j, hj, hr, _, e1, k1⟩ | ⟨j, hj, hr, a, _⟩⟩ := hp
        · exact absurd a hall
        · refine ⟨e1, k1.mono (fun _ => False.elim), fun w2 k2 => (rbegin w2 cb R limit (h.ref_after (k1.mono (fun _ => False.elim)) k2) h.rfit hl0 hl1).mono fun e w3 hq => ?_⟩
          rcases hq with ⟨a, _⟩ | ⟨_, _, e2, rfl⟩ | ⟨_, a, _⟩
          · omega
          · exact ⟨e2, h.stays k1 k2 (Kept.refl _ _), Kept.refl _ _⟩
          · omega
        · omega
      · refine ⟨D.begun, 0, (dbegin w xb D limit h.dev h.dfit hl0 hl1).mono fun e w1 hp => ?_⟩
        obtain ⟨lo, hfirst, ⟨a, _⟩ | ⟨j, hj, hr, a, _⟩ | ⟨j, hj, hr, _, e1, hd, k1⟩⟩ := hp
        · exact absurd a hall
        · omega
        · refine ⟨e1, k1, fun w2 k2 => (rbegin w2 cb R limit (h.ref_after k1 k2) h.rfit hl0 hl1).mono fun e w3 hq => ?_⟩
          rcases hq with ⟨a, _⟩ | ⟨_, a, _⟩ | ⟨_, _, lo', v, hleast, e2, hr3, k3, f3⟩
          · omega
          · omega
          · have hle : lo = lo' := by
              have a := least_cons hfirst.1 hfirst.2.1 hfirst.2.2 zeroP
              rw [← h.sim.past, ← hc] at a
              exact a.unique hleast
            subst hle
            have htop : R.past.length - 1 = D.past.length := by omega
            refine ⟨by rw [e2, hbeg], h.turned hd k1 (fun k hk => .inl hk) k2 hr3 k3 f3 ⟨h.sim.past, hc, ?_, h.sim.puts, h.sim.calm, h.sim.bd⟩ ⟨h.dfit.pmax, h.dfit.clk0, h.dfit.clk1, by show D.begun + 1 ≤ 200; omega, h.dfit.qmax⟩ ⟨h.rfit.pos, h.rfit.pmax, h.rfit.clk0, h.rfit.clk1, by show (R.rdrs ++ [_]).length ≤ 200; rw [List.length_append, List.length_singleton]; omega, h.rfit.npos, h.rfit.nmax, h.rfit.fmax⟩, k3⟩
            show SimR (D.begun + 1) (putSeat D.seats j _) (R.rdrs ++ [⟨lo, R.past.length - 1, false⟩]) D.past.length
            rw [htop]
            exact h.sim.rdr.beginS hj hr lo hfirst.1

/-! ### End -/
theorem goneB_open {l : List RdrE} {j : Nat} {x : RdrE} (hx : l[j]? = some x) (he : x.ended = false) : goneB l j = false := by
  have hlt := (List.getElem?_eq_some_iff.mp hx).1
  have a : ¬ (j : Int) < 0 := by omega
  have c : ¬ (l.length : Int) ≤ (j : Int) := by omega
  simp only [goneB, a, c, decide_false, Bool.false_or, Int.toNat_natCast, hx]
  exact he
theorem pair_end {w : World} {xb cb : Nat} {D : DevS} {R : RefS} (h : Pair w xb cb D R) (m : Int) :
    ∃ x y z : Int, Calls Tryz.prog 36 #[.pointer (some ⟨xb, 0, none⟩), .int .i64 m] w fun e w1 => e = .returned (.tuple #[.agg #[.int .u64 x, .int .u64 y], .int .i64 z]) ∧
      Then 37 #[.pointer (some ⟨cb, 0, none⟩), .int .i64 m] w w1 xb cb D R (.tuple #[.agg #[.int .u64 x, .int .u64 y], .int .i64 z]) := by
  by_cases hall : ∀ i, i < 6 → (D.seats i).reads = true → (D.seats i).num ≠ m
  · refine ⟨0, 0, 8, (dend w xb D m h.dev).mono fun e w1 hp => ?_⟩
    rcases hp with ⟨_, e1, k1⟩ | ⟨j, hj, hr, hn, _⟩
    · refine ⟨e1, k1.mono (fun _ => False.elim), fun w2 k2 => (rend w2 cb R m (h.ref_after (k1.mono (fun _ => False.elim)) k2) h.rfit).mono fun e w3 hq => ?_⟩
      rcases hq with ⟨_, e2, b3⟩ | ⟨j, x, rfl, hx, he, _⟩
      · exact ⟨e2, h.stays k1 k2 (Kept.of_below b3 _), Kept.of_below b3 _⟩
      · obtain ⟨i, hi, hr, hn⟩ := h.sim.rdr.back j x hx he
        exact absurd hn (hall i hi hr)
    · exact absurd hn (hall j hj hr)
  · obtain ⟨j0, hj0, hr0, hn0⟩ : ∃ j, j < 6 ∧ (D.seats j).reads = true ∧ (D.seats j).num = m := by
      false_or_by_contra
      rename_i hn
      exact hall fun i hi hr e => hn ⟨i, hi, hr, e⟩
    refine ⟨(D.seats j0).lo, (D.seats j0).hi, 0, (dend w xb D m h.dev).mono fun e w1 hp => ?_⟩
    rcases hp with ⟨a, _⟩ | ⟨j, hj, hr, hn, e1, hd, k1⟩
    · exact absurd a hall
    · have hjj : j = j0 := h.sim.rdr.one j j0 hj hj0 hr hr0 (by rw [hn, hn0])
      subst hjj
      refine ⟨e1, k1, fun w2 k2 => (rend w2 cb R m (h.ref_after k1 k2) h.rfit).mono fun e w3 hq => ?_⟩
      obtain ⟨q, x, hq1, hx, he, hlo, hhi⟩ := h.sim.rdr.seat j hj hr
      have hmq : m = q := by rw [← hn, hq1]
      rcases hq with ⟨a, _⟩ | ⟨q', x', hm', hx', he', e2, hr3, k3⟩
      · rw [hmq, goneB_open hx he] at a; cases a
      · have hqq : q' = q := by omega
        subst hqq
        rw [hx] at hx'
        injection hx' with hx'
        subst hx'
        refine ⟨by rw [e2, hlo, hhi], h.turned hd k1 (fun k hk => .inl hk) k2 hr3 k3 (fun k hk => .inl (fp_of_map (R' := R.endR _ x) (R := R) rfl hk)) ⟨h.sim.past, h.sim.clock, ?_, h.sim.puts, h.sim.calm, h.sim.bd⟩ ⟨h.dfit.pmax, h.dfit.clk0, h.dfit.clk1, h.dfit.bmax, h.dfit.qmax⟩ ⟨h.rfit.pos, h.rfit.pmax, h.rfit.clk0, h.rfit.clk1, by show (R.rdrs.set _ _).length ≤ 200; rw [List.length_set]; exact h.rfit.rmax, h.rfit.npos, h.rfit.nmax, h.rfit.fmax⟩, k3⟩
        exact h.sim.rdr.endS hj hr hq1 hx he

/-! ### Commit -/
theorem Wr.kept' {w w' : World} {F : Nat → Prop} {ao : Option Addr} {n : Nat} {ws : List (Int × Int)} (h : Wr w ao n ws) (k : Kept F w w') (hF : 0 < n → ∀ a, ao = some a → ¬ F a.block) : Wr w' ao n ws := by
  by_cases hn : 0 < n
  · exact h.kept k (hF hn)
  · exact ⟨h.len, fun j hj => by have := h.len; omega⟩
theorem pair_commit {w : World} {xb cb : Nat} {D : DevS} {R : RefS} (h : Pair w xb cb D R) (ao ao' : Option Addr) (n cap cap' : Nat) (ws : List (Int × Int)) (hw : Wr w ao n ws) (hw' : Wr w ao' n ws) (hm : n ≤ maxLen) (hfar : 0 < n → ∀ a, ao' = some a → ¬ D.fp xb a.block) (hwb : BdW ws) :
    ∃ x y : Int, Calls Tryz.prog 28 #[.pointer (some ⟨xb, 0, none⟩), .slice ao n cap] w fun e w1 => e = .returned (.tuple #[.int .u64 x, .int .i64 y]) ∧
      Then 29 #[.pointer (some ⟨cb, 0, none⟩), .slice ao' n cap'] w w1 xb cb D R (.tuple #[.int .u64 x, .int .i64 y]) := by
  have hlen := h.sim.len
  by_cases h8 : n ≤ 8
  · cases hk : ws.all keyOk with
    | false =>
      refine ⟨0, 5, (dcommit w xb D ao n cap ws h.dev h.dfit hw hm).mono fun e w1 hp => ?_⟩
      rcases hp with ⟨a, _⟩ | ⟨_, ⟨_, e1, k1⟩ | ⟨a, _⟩ | ⟨a, _⟩⟩
      · omega
      · refine ⟨e1, k1.mono (fun _ => False.elim), fun w2 k2 => (rcommit_key w2 cb ao' n cap' ws ((hw'.kept k1 fun _ _ => id).kept k2 fun _ _ => id) h8 hk).mono fun e w3 hq => ?_⟩
        obtain ⟨e2, rfl⟩ := hq
        exact ⟨e2, h.stays k1 k2 (Kept.refl _ _), Kept.refl _ _⟩
      · rw [hk] at a; cases a
      · rw [hk] at a; cases a
    | true =>
      by_cases h7 : 700 ≤ D.past.length
      · refine ⟨0, 6, (dcommit w xb D ao n cap ws h.dev h.dfit hw hm).mono fun e w1 hp => ?_⟩
        have hpm := h.dfit.pmax
        rcases hp with ⟨a, _⟩ | ⟨_, ⟨a, _⟩ | ⟨_, _, e1, k1⟩ | ⟨_, a, _⟩⟩
        · omega
        · rw [hk] at a; cases a
        · refine ⟨e1, k1.mono (fun _ => False.elim), fun w2 k2 => (rcommit_full w2 cb R ao' n cap' ws (h.ref_after (k1.mono (fun _ => False.elim)) k2) h.rfit ((hw'.kept k1 fun _ _ => id).kept k2 fun _ _ => id) h8 hk (by omega)).mono fun e w3 hq => ?_⟩
          obtain ⟨e2, rfl⟩ := hq
          exact ⟨e2, h.stays k1 k2 (Kept.refl _ _), Kept.refl _ _⟩
        · omega
      · refine ⟨((D.past.length + 1 : Nat) : Int), 0, (dcommit w xb D ao n cap ws h.dev h.dfit hw hm).mono fun e w1 hp => ?_⟩
        rcases hp with ⟨a, _⟩ | ⟨_, ⟨a, _⟩ | ⟨_, a, _⟩ | ⟨_, _, e1, v, hd, k1, f1⟩⟩
        · omega
        · rw [hk] at a; cases a
        · omega
        · refine ⟨e1, k1, fun w2 k2 => (rcommit_good w2 cb R ao' n cap' ws (h.ref_after k1 k2) h.rfit ((hw'.kept' k1 hfar).kept k2 fun _ _ => id) h8 hk (by omega)).mono fun e w3 hq => ?_⟩
          obtain ⟨e2, p, v', l, hp, hr3, ht, hfit, k3, f3⟩ := hq
          refine ⟨by rw [e2, hlen], h.turned hd k1 f1 k2 hr3 k3 f3 (h.sim.commit hp ht hwb) ⟨by show (D.past ++ [_]).length ≤ 700; rw [List.length_append, List.length_singleton]; omega, h.dfit.clk0, h.dfit.clk1, h.dfit.bmax, h.dfit.qmax⟩ hfit, k3⟩
  · refine ⟨0, 3, (dcommit w xb D ao n cap ws h.dev h.dfit hw hm).mono fun e w1 hp => ?_⟩
    rcases hp with ⟨_, e1, rfl⟩ | ⟨a, _⟩
    · refine ⟨e1, Kept.refl _ _, fun w2 k2 => (rcommit_long w2 cb ao' n cap' (by omega) hm).mono fun e w3 hq => ?_⟩
      obtain ⟨e2, rfl⟩ := hq
      exact ⟨e2, h.stays (Kept.refl _ _) k2 (Kept.refl _ _), Kept.refl _ _⟩
    · omega

end Go.Proofs.YtkednbbjofeecaaGreat

/- The law's reader (package almanaclaw): Tick, Now, Begin, End at both worlds, walked. -/
namespace Go.Proofs.YtkednbbjofeecaaGreat
open Go.RowKit

theorem Turned.from {w wb w' : World} {xb cb : Nat} {D : DevS} {R : RefS} (h : Turned wb w' xb cb D R) (k : Kept (fun _ => False) w wb) : Turned w w' xb cb D R := by
  obtain ⟨D', R', hp, hk, hf⟩ := h
  exact ⟨D', R', hp, k.trans hk (fun _ => False.elim) (fun _ _ => id), fun i hi => (hf i hi).imp id fun x => Nat.le_trans k.size x⟩

theorem Turned.still {w wb w' w2 : World} {xb cb : Nat} {D : DevS} {R : RefS} {F : Nat → Prop} (h : Turned wb w' xb cb D R) (k0 : Kept (fun _ => False) w wb) (k : Kept F w' w2) (hF : ∀ i, F i → w.heap.size ≤ i ∧ i < wb.heap.size) (hlt : ∀ i, pfp xb cb D R i → i < w.heap.size) : Turned w w2 xb cb D R := by
  obtain ⟨D', R', hp, hk, hf⟩ := h
  refine ⟨D', R', hp.kept k fun j hj hfj => ?_, (k0.trans hk (H := pfp xb cb D R) (fun _ => False.elim) (fun _ _ => id)).trans k (fun _ => id) (fun i hi hfi => ?_), fun i hi => (hf i hi).imp id fun x => Nat.le_trans k0.size x⟩
  · obtain ⟨a, c⟩ := hF j hfj
    rcases hf j hj with x | x
    · have := hlt j x; omega
    · omega
  · have := (hF i hfi).1; omega

/-- the world in which a step's function works: its pair and its step boxed. -/
def boxed (w : World) (xb cb : Nat) (kd a b c : Int) (s : ByteArray) (l : Value) : World :=
  (w.alloc (.cells #[.pointer (some ⟨xb, 0, none⟩), .pointer (some ⟨cb, 0, none⟩)] 44)).alloc (.cells #[.int .i64 kd, .int .i64 a, .int .i64 b, .int .i64 c, .string s, l] 37)
theorem boxed_kept (w : World) (xb cb : Nat) (kd a b c : Int) (s : ByteArray) (l : Value) : Kept (fun _ => False) w (boxed w xb cb kd a b c s l) := (Kept.alloc w _ _).allocNew _
theorem boxed_c {w w1 : World} {xb cb : Nat} {kd a b c : Int} {s : ByteArray} {l : Value} {F : Nat → Prop} (k : Kept F (boxed w xb cb kd a b c s l) w1) (hF : ∀ i, F i → i < w.heap.size) : w1.cell? ⟨w.heap.size, 1, none⟩ = some (.pointer (some ⟨cb, 0, none⟩)) :=
  k.keep (fun hf => by have := hF _ hf; simp at this) (by simp [boxed])
theorem boxed_b {w w1 : World} {xb cb : Nat} {kd a b c : Int} {s : ByteArray} {l : Value} {F : Nat → Prop} (k : Kept F (boxed w xb cb kd a b c s l) w1) (hF : ∀ i, F i → i < w.heap.size) : w1.cell? ⟨w.heap.size + 1, 2, none⟩ = some (.int .i64 b) :=
  k.keep (fun hf => by have := hF _ hf; simp at this; omega) (by simp [boxed])
theorem boxed_l {w w1 : World} {xb cb : Nat} {kd a b c : Int} {s : ByteArray} {l : Value} {F : Nat → Prop} (k : Kept F (boxed w xb cb kd a b c s l) w1) (hF : ∀ i, F i → i < w.heap.size) : w1.cell? ⟨w.heap.size + 1, 5, none⟩ = some l :=
  k.keep (fun hf => by have := hF _ hf; simp at this; omega) (by simp [boxed])

theorem boxed_size (w : World) (xb cb : Nat) (kd a b c : Int) (s : ByteArray) (l : Value) : (boxed w xb cb kd a b c s l).heap.size = w.heap.size + 2 := by simp [boxed]
/-- a new span of two stamps lies there as it was. -/
theorem span_box {w1 w3 : World} {a b : Value} {T : TypeId} {F : Nat → Prop} (k : Kept F (w1.alloc (.cells #[a, b] T)) w3) (hF : ∀ i, F i → i < w1.heap.size) : w3.cell? ⟨w1.heap.size, 0, none⟩ = some a ∧ w3.cell? ⟨w1.heap.size, 1, none⟩ = some b ∧ w1.heap.size < w3.heap.size :=
  ⟨k.keep (fun hf => by have := hF _ hf; simp at this) (by simp), k.keep (fun hf => by have := hF _ hf; simp at this) (by simp), by have := k.size; simp at this; omega⟩

def StepPost (w : World) (xb cb : Nat) (D : DevS) (R : RefS) (e : Ending) (w' : World) : Prop := e = .returned (.bool true) ∧ Turned w w' xb cb D R

set_option maxRecDepth 100000 in
set_option maxHeartbeats 1000000 in
theorem lreader_tick (w : World) (pb xb cb : Nat) (a b c : Int) (s : ByteArray) (ao : Option Addr) (n cap : Nat) (D : DevS) (R : RefS) (h : Pair w xb cb D R) :
    Calls Tryz.prog 15 #[.pointer (some ⟨pb, 0, none⟩), .agg #[.pointer (some ⟨xb, 0, none⟩), .pointer (some ⟨cb, 0, none⟩)], .agg #[.int .i64 3, .int .i64 a, .int .i64 b, .int .i64 c, .string s, .slice ao n cap]] w fun e w' => StepPost w xb cb D R e w' := by
  have hk := boxed_kept w xb cb 3 a b c s (.slice ao n cap)
  obtain ⟨r, hr⟩ := pair_tick (h.kept hk fun _ _ => id)
  have H0 : Hid (Calls Tryz.prog 31 #[.pointer (some ⟨xb, 0, none⟩)] (boxed w xb cb 3 a b c s (.slice ao n cap)) fun e w1 => e = .returned (.int .i64 r) ∧ Hid (Then 32 #[.pointer (some ⟨cb, 0, none⟩)] (boxed w xb cb 3 a b c s (.slice ao n cap)) w1 xb cb D R (.int .i64 r))) := hr
  have HK : Hid (Kept (fun _ => False) w (boxed w xb cb 3 a b c s (.slice ao n cap))) := hk
  have HL : Hid (∀ i, D.fp xb i → i < w.heap.size) := h.dev.lt
  clear hr hk h
  go_enter Tryz.func15, Tryz.ntmps15
  go_wp2_with first
    | (go_at_call 31; refine H0.out.mono ?_; rintro e w1 ⟨rfl, ht⟩; have q1 := boxed_c ht.out.1 HL.out)
    | (go_at_call 32; refine (ht.out.2 _ (Kept.refl _ _)).mono ?_; rintro e w3 ⟨rfl, hz, _⟩; have HZ : Hid (Turned (boxed w xb cb 3 a b c s (.slice ao n cap)) w3 xb cb D R) := hz; clear hz)
  go_ret
  exact ⟨rt_bool (by simp), HZ.out.from HK.out⟩

set_option maxRecDepth 100000 in
set_option maxHeartbeats 1000000 in
theorem lreader_now (w : World) (pb xb cb : Nat) (a b c : Int) (s : ByteArray) (ao : Option Addr) (n cap : Nat) (D : DevS) (R : RefS) (h : Pair w xb cb D R) :
    Calls Tryz.prog 15 #[.pointer (some ⟨pb, 0, none⟩), .agg #[.pointer (some ⟨xb, 0, none⟩), .pointer (some ⟨cb, 0, none⟩)], .agg #[.int .i64 4, .int .i64 a, .int .i64 b, .int .i64 c, .string s, .slice ao n cap]] w fun e w' => StepPost w xb cb D R e w' := by
  have hk := boxed_kept w xb cb 4 a b c s (.slice ao n cap)
  have hp := h.kept hk fun _ _ => id
  have H0 : Hid (Calls Tryz.prog 33 #[.pointer (some ⟨xb, 0, none⟩)] (boxed w xb cb 4 a b c s (.slice ao n cap)) fun e w1 => e = .returned (.tuple #[.int .u64 (D.past.length : Int), .int .i64 D.clock]) ∧ boxed w xb cb 4 a b c s (.slice ao n cap) = w1) := dnow _ xb D hp.dev hp.dfit
  obtain ⟨av, cv, hv, _⟩ := h.ref.past.form
  have c0 := h.ref.c0
  have c1 := h.ref.c1
  rw [hv, h.sim.len] at c0
  rw [h.sim.clock] at c1
  have hcb := h.ref.blk.lt
  have hpm := h.dfit.pmax
  have HK : Hid (Kept (fun _ => False) w (boxed w xb cb 4 a b c s (.slice ao n cap))) := hk
  have HH : Hid (Pair w xb cb D R) := h
  clear hp hk h hv
  go_enter Tryz.func15, Tryz.ntmps15
  go_wp2_with (go_at_call 33; refine H0.out.mono ?_; rintro e w1 ⟨rfl, rfl⟩; unfold boxed)
  go_ret
  exact ⟨rt_bool (by simp), Turned.same HH.out HK.out (fun _ _ => id)⟩

set_option maxRecDepth 100000 in
set_option maxHeartbeats 1000000 in
theorem lreader_begin (w : World) (pb xb cb : Nat) (a b c : Int) (s : ByteArray) (ao : Option Addr) (n cap : Nat) (D : DevS) (R : RefS) (h : Pair w xb cb D R) :
    Calls Tryz.prog 15 #[.pointer (some ⟨pb, 0, none⟩), .agg #[.pointer (some ⟨xb, 0, none⟩), .pointer (some ⟨cb, 0, none⟩)], .agg #[.int .i64 5, .int .i64 a, .int .i64 b, .int .i64 c, .string s, .slice ao n cap]] w fun e w' => StepPost w xb cb D R e w' := by
  have hk := boxed_kept w xb cb 5 a b c s (.slice ao n cap)
  obtain ⟨x, y, hr⟩ := pair_begin (h.kept hk fun _ _ => id) b
  have H0 : Hid (Calls Tryz.prog 34 #[.pointer (some ⟨xb, 0, none⟩), .int .i64 b] (boxed w xb cb 5 a b c s (.slice ao n cap)) fun e w1 => e = .returned (.tuple #[.int .i64 x, .int .i64 y]) ∧ Hid (Then 35 #[.pointer (some ⟨cb, 0, none⟩), .int .i64 b] (boxed w xb cb 5 a b c s (.slice ao n cap)) w1 xb cb D R (.tuple #[.int .i64 x, .int .i64 y]))) := hr
  have HK : Hid (Kept (fun _ => False) w (boxed w xb cb 5 a b c s (.slice ao n cap))) := hk
  have HL : Hid (∀ i, D.fp xb i → i < w.heap.size) := h.dev.lt
  clear hr hk h
  go_enter Tryz.func15, Tryz.ntmps15
  go_wp2_with first
    | (go_at_call 34; refine H0.out.mono ?_; rintro e w1 ⟨rfl, ht⟩; have q1 := boxed_c ht.out.1 HL.out; have q2 := boxed_b ht.out.1 HL.out)
    | (go_at_call 35; refine (ht.out.2 _ (Kept.refl _ _)).mono ?_; rintro e w3 ⟨rfl, hz, _⟩; have HZ : Hid (Turned (boxed w xb cb 5 a b c s (.slice ao n cap)) w3 xb cb D R) := hz; clear hz)
  go_ret
  exact ⟨rt_bool (by simp), HZ.out.from HK.out⟩

set_option maxRecDepth 100000 in
set_option maxHeartbeats 1000000 in
theorem lreader_end (w : World) (pb xb cb : Nat) (a b c : Int) (s : ByteArray) (ao : Option Addr) (n cap : Nat) (D : DevS) (R : RefS) (h : Pair w xb cb D R) :
    Calls Tryz.prog 15 #[.pointer (some ⟨pb, 0, none⟩), .agg #[.pointer (some ⟨xb, 0, none⟩), .pointer (some ⟨cb, 0, none⟩)], .agg #[.int .i64 6, .int .i64 a, .int .i64 b, .int .i64 c, .string s, .slice ao n cap]] w fun e w' => StepPost w xb cb D R e w' := by
  have hk := boxed_kept w xb cb 6 a b c s (.slice ao n cap)
  obtain ⟨x, y, z, hr⟩ := pair_end (h.kept hk fun _ _ => id) b
  have H0 : Hid (Calls Tryz.prog 36 #[.pointer (some ⟨xb, 0, none⟩), .int .i64 b] (boxed w xb cb 6 a b c s (.slice ao n cap)) fun e w1 => e = .returned (.tuple #[.agg #[.int .u64 x, .int .u64 y], .int .i64 z]) ∧ Hid (Then 37 #[.pointer (some ⟨cb, 0, none⟩), .int .i64 b] (boxed w xb cb 6 a b c s (.slice ao n cap)) w1 xb cb D R (.tuple #[.agg #[.int .u64 x, .int .u64 y], .int .i64 z]))) := hr
  have HK : Hid (Kept (fun _ => False) w (boxed w xb cb 6 a b c s (.slice ao n cap))) := hk
  have HL : Hid (∀ i, D.fp xb i → i < w.heap.size) := h.dev.lt
  have HLR : Hid (∀ i, R.fp cb i → i < w.heap.size) := h.ref.lt
  have HP : Hid (∀ i, pfp xb cb D R i → i < w.heap.size) := h.lt
  clear hr hk h
  go_enter Tryz.func15, Tryz.ntmps15
  go_wp2_with first
    | (go_at_call 36; refine H0.out.mono ?_; rintro e w1 ⟨rfl, ht⟩; have q1 := boxed_c ht.out.1 HL.out; have q2 := boxed_b ht.out.1 HL.out; have hs1 := ht.out.1.size; have hs2 : w.heap.size + 2 ≤ w1.heap.size := Nat.le_trans (Nat.le_of_eq (boxed_size _ _ _ _ _ _ _ _ _).symm) hs1; have hs3 : w.heap.size < w1.heap.size := Nat.lt_of_lt_of_le (Nat.lt_add_of_pos_right (Nat.succ_pos 1)) hs2; have hs4 : w.heap.size + 1 < w1.heap.size := hs2; clear hs1)
    | (go_at_call 37; refine (ht.out.2 _ (Kept.alloc _ _ _)).mono ?_; rintro e w3 ⟨rfl, hz, hk3⟩; have HZ : Hid (Turned (boxed w xb cb 6 a b c s (.slice ao n cap)) w3 xb cb D R) := hz; clear hz; have y0 := span_box hk3 (fun i hi => Nat.lt_trans (HLR.out i hi) hs3); clear hk3)
  obtain ⟨y0, y1, y2⟩ := y0
  go_wp2
  go_ret
  exact ⟨rt_bool (by simp), HZ.out.still HK.out (Kept.alloc _ _ (fun _ => False)) (fun _ => False.elim) HP.out⟩

end Go.Proofs.YtkednbbjofeecaaGreat
