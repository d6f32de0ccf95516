/- The program's Read (package almanac), walked. -/
import Derived.Test.YtkednbbjofeecaaGreatDn
import Derived.Deep.RegionWith
import Derived.Deep.DeepCutAuto
namespace Go.Proofs.YtkednbbjofeecaaGreat
open Go.RowKit

def DRefusePost (w : World) (er : Int) (e : Ending) (w' : World) : Prop := e = .returned (.tuple #[.int .i32 0, .bool false, .int .i64 er]) ∧ Kept (fun _ => False) w w'

set_option maxRecDepth 100000 in
set_option maxHeartbeats 1000000 in
theorem dread_gone (w : World) (b : Nat) (D : DevS) (m : Int) (q : ByteArray) (h : Dev w b D) (hall : ∀ i, i < 6 → (D.seats i).reads = true → (D.seats i).num ≠ m) :
    Calls Tryz.prog 38 #[.pointer (some ⟨b, 0, none⟩), .int .i64 m, .string q] w fun e w' => DRefusePost w 8 e w' := by
  have H0 : Hid (Calls Tryz.prog 84 #[.pointer (some ⟨b, 2, none⟩), .int .i64 m] w fun e w' => e = .returned (.tuple #[.agg #[.int .u64 0, .int .u64 0], .int .i64 8]) ∧ Kept (fun _ => False) w w') := (dspan w b D m h).mono fun e w' hp => by
    obtain ⟨k, ⟨_, e1⟩ | ⟨j, hj, hr, hn, _⟩⟩ := hp
    · exact ⟨e1, k⟩
    · exact absurd hn (hall j hj hr)
  clear h hall
  go_enter Tryz.func38, Tryz.ntmps38
  go_wp2_with (go_at_call 84; refine H0.out.mono ?_; rintro e w1 ⟨rfl, hk1⟩)
  exact bodyPost_ret (v := .tuple #[.int .i32 0, .bool false, .int .i64 8]) (by simp [results, Tryz.results38, go_sem]) rfl ⟨rfl, hk1.allocNew _⟩

set_option maxRecDepth 100000 in
set_option maxHeartbeats 1000000 in
theorem dread_bad (w : World) (b : Nat) (D : DevS) (m : Int) (q : ByteArray) (er : Int) (j : Nat) (h : Dev w b D) (hj : j < 6) (hr : (D.seats j).reads = true) (hn : (D.seats j).num = m) (hq : q.size ≤ maxLen) (her : er ≠ 0) (hrd : Q.readL q.data.toList = (er, [])) :
    Calls Tryz.prog 38 #[.pointer (some ⟨b, 0, none⟩), .int .i64 m, .string q] w fun e w' => DRefusePost w er e w' := by
  have H0 : Hid (Calls Tryz.prog 84 #[.pointer (some ⟨b, 2, none⟩), .int .i64 m] w fun e w' => ∃ x y : Int, e = .returned (.tuple #[.agg #[.int .u64 x, .int .u64 y], .int .i64 0]) ∧ Kept (fun _ => False) w w') := (dspan w b D m h).mono fun e w' hp => by
    obtain ⟨k, ⟨a, _⟩ | ⟨j, hj, hr, hn, e1⟩⟩ := hp
    · exact absurd hn (a j hj hr)
    · exact ⟨_, _, e1, k⟩
  have H1 : Hid (∀ W, Calls Tryz.prog 70 #[.string q] W fun e w' => e = .returned (.tuple #[.agg #[.int .u8 0, .int .i64 0], .int .i64 er]) ∧ Kept (fun _ => False) W w') := fun W => by
    have := qParse_any q W hq
    rw [hrd] at this
    exact this.mono fun e w' hp => ⟨hp.1, Kept.of_below hp.2 _⟩
  have hne : (er == 0) = false := beq_eq_false_iff_ne.mpr her
  clear h hj hr hn hq hrd her
  go_enter Tryz.func38, Tryz.ntmps38
  go_wp2_with first
    | (go_at_call 84; refine H0.out.mono ?_; rintro e w1 ⟨x, y, rfl, hk1⟩)
    | (go_at_call 70; refine (H1.out _).mono ?_; rintro e w2 ⟨rfl, hk2⟩)
  exact bodyPost_ret (v := .tuple #[.int .i32 0, .bool false, .int .i64 er]) (by simp [results, Tryz.results38, go_sem]) rfl ⟨rfl, ((hk1.allocNew _).trans hk2 (fun _ => id) (fun _ _ => id)).allocNew _⟩

/-- a new block of two cells lies there as it was. -/
theorem two_box {w1 w3 : World} {a b : Value} {T : TypeId} (k : Kept (fun _ => False) (w1.alloc (.cells #[a, b] T)) w3) : w3.cell? ⟨w1.heap.size, 0, none⟩ = some a ∧ w3.cell? ⟨w1.heap.size, 1, none⟩ = some b ∧ w1.heap.size < w3.heap.size :=
  ⟨k.keep id (by simp), k.keep id (by simp), by have := k.size; simp at this; omega⟩

/-- the world behind a read that the store answers. -/
def DevS.readS (D : DevS) (j : Nat) (en : EntE) (v : Value) : DevS :=
  (D.seatP j ((D.seats j).from en.fr) D.begun).setPuts (if D.puts.length < 10 then D.puts ++ [en] else D.puts) v

def DReadPost (w : World) (b : Nat) (D : DevS) (j : Nat) (en : EntE) (e : Ending) (w' : World) : Prop :=
  e = .returned (.tuple #[.int .i32 en.val, .bool false, .int .i64 0]) ∧ ∃ v, Dev w' b (D.readS j en v) ∧ Kept (D.fp b) w w' ∧ (∀ k, (D.readS j en v).fp b k → D.fp b k ∨ w.heap.size ≤ k)

set_option maxRecDepth 100000 in
set_option maxHeartbeats 2000000 in
theorem dread_good (w : World) (b : Nat) (D : DevS) (m : Int) (q : ByteArray) (ts : List (Nat × Nat)) (j : Nat) (h : Dev w b D) (hf : D.Fit) (hj : j < 6) (hr : (D.seats j).reads = true) (hn : (D.seats j).num = m) (hone : ∀ i, i < 6 → (D.seats i).reads = true → (D.seats i).num = m → i = j) (hhi : (D.seats j).hi ≤ D.past.length) (hrd : Q.readL q.data.toList = (0, ts)) :
    Calls Tryz.prog 38 #[.pointer (some ⟨b, 0, none⟩), .int .i64 m, .string q] w fun e w' => DReadPost w b D j (answerE D q ts (D.seats j).hi) e w' := by
  obtain ⟨en, hen⟩ : ∃ en, en = answerE D q ts (D.seats j).hi := ⟨_, rfl⟩
  have hbl := h.blk.lt
  obtain ⟨lo, hlo⟩ : ∃ lo, lo = (D.seats j).lo := ⟨_, rfl⟩
  obtain ⟨hi, hhi'⟩ : ∃ hi, hi = (D.seats j).hi := ⟨_, rfl⟩
  obtain ⟨K, hK⟩ : ∃ K, K = keysL ts := ⟨_, rfl⟩
  have H0 : Hid (Calls Tryz.prog 84 #[.pointer (some ⟨b, 2, none⟩), .int .i64 m] w fun e w' => e = .returned (.tuple #[.agg #[.int .u64 (lo : Int), .int .u64 (hi : Int)], .int .i64 0]) ∧ Kept (fun _ => False) w w') := (dspan w b D m h).mono fun e w' hp => by
    obtain ⟨k, ⟨a, _⟩ | ⟨i, hi, hri, hni, e1⟩⟩ := hp
    · exact absurd hn (a j hj hr)
    · have := hone i hi hri hni
      subst this
      exact ⟨by rw [e1, hlo, hhi'], k⟩
  have H1 : Hid (∀ W, Calls Tryz.prog 70 #[.string q] W fun e w' => e = .returned (.tuple #[.agg #[.int .u8 K, .int .i64 (ts.length : Int)], .int .i64 0]) ∧ Kept (fun _ => False) W w') := fun W => (qParse_good q W ts hrd).mono fun e w' hp => ⟨by rw [hp.1, hK], Kept.of_below hp.2 _⟩
  have H2 : Hid (∀ W, Kept (fun _ => False) w W → Calls Tryz.prog 85 #[.pointer (some ⟨b, 0, none⟩), .string q, .int .u8 K, .int .u64 (hi : Int)] W fun e w' => e = .returned (.agg #[.string en.q, .int .i32 en.val, .int .u64 (en.fr : Int), .int .u64 (en.till : Int), .bool en.op, .int .u64 (en.kn : Int)]) ∧ Kept (fun _ => False) W w') := fun W hW => by
    have := danswer W b D q ts (D.seats j).hi (h.kept hW (fun _ _ => id)) hf hhi hrd
    rw [← hen, ← hhi', ← hK] at this
    exact this
  have H3 : Hid (∀ W, Kept (fun _ => False) w W → Calls Tryz.prog 86 #[.pointer (some ⟨b, 2, none⟩), .int .i64 m, .agg #[.int .u64 (en.fr : Int), .int .u64 (hi : Int)]] W fun e w' => e = .returned (.tuple #[]) ∧ Hid (Dev w' b (D.seatP j ((D.seats j).from en.fr) D.begun) ∧ Kept (D.fp b) W w')) := fun W hW => by
    have := dnarrow W b D m j en.fr (h.kept hW (fun _ _ => id)) hj hr hn hone
    rw [← hhi'] at this
    exact this
  have H4 : Hid (∀ W, Dev W b (D.seatP j ((D.seats j).from en.fr) D.begun) → Calls Tryz.prog 87 #[.pointer (some ⟨b, 27, none⟩), .agg #[.string en.q, .int .i32 en.val, .int .u64 (en.fr : Int), .int .u64 (en.till : Int), .bool en.op, .int .u64 (en.kn : Int)]] W fun e w' => e = .returned (.tuple #[]) ∧ Hid (∃ v, Dev w' b (D.readS j en v) ∧ Kept (D.fp b) W w' ∧ (∀ k, (D.readS j en v).fp b k → D.fp b k ∨ W.heap.size ≤ k))) := fun W hW =>
    djoin W b (D.seatP j ((D.seats j).from en.fr) D.begun) en hW ⟨hf.pmax, hf.clk0, hf.clk1, hf.bmax, hf.qmax⟩
  have HLT : Hid (∀ k, D.fp b k → k < w.heap.size) := h.lt
  rw [← hen]
  clear h hf hj hr hn hone hhi hrd hen hlo hhi' hK
  go_enter Tryz.func38, Tryz.ntmps38
  go_wp2_with first
    | (go_at_call 84; refine H0.out.mono ?_; rintro e w1 ⟨rfl, hk1⟩)
    | (go_at_call 70; refine (H1.out _).mono ?_; rintro e w2 ⟨rfl, hk2⟩; obtain ⟨s0, s1, s2⟩ := two_box hk2)
    | (go_at_call 85; refine (H2.out _ (((hk1.allocNew _).trans hk2 (fun _ => id) (fun _ _ => id)).allocNew _)).mono ?_; rintro e w3 ⟨rfl, hk3⟩; have r1 := hk3.keep id (World.cell?_alloc_past _ _ 1 s2 |>.trans s1); have hs3 := hk3.size)
  obtain ⟨W, hW⟩ : ∃ W, W = w3.alloc (.cells #[.string en.q, .int .i32 en.val, .int .u64 (en.fr : Int), .int .u64 (en.till : Int), .bool en.op, .int .u64 (en.kn : Int)] 55) := ⟨_, rfl⟩
  have kW : Kept (fun _ => False) w W := by rw [hW]; exact ((((hk1.allocNew _).trans hk2 (fun _ => id) (fun _ _ => id)).allocNew _).trans hk3 (fun _ => id) (fun _ _ => id)).allocNew _
  have bW : Blk W w3.heap.size 55 #[.string en.q, .int .i32 en.val, .int .u64 (en.fr : Int), .int .u64 (en.till : Int), .bool en.op, .int .u64 (en.kn : Int)] := by rw [hW]; exact Blk.new _ _ _
  have r2 : W.cell? ⟨w1.heap.size, 1, none⟩ = some (.int .u64 (hi : Int)) := by rw [hW]; exact (World.cell?_alloc_past _ _ 1 (World.block_lt_of_cell? _ _ r1)).trans r1
  have p2 : W.cell? ⟨w3.heap.size, 2, none⟩ = some (.int .u64 (en.fr : Int)) := bW.cell 2
  have hP : w.heap.size ≤ w3.heap.size := (((hk1.allocNew _).trans hk2 (H := fun _ => False) (fun _ => id) (fun _ _ => id)).allocNew _ |>.trans hk3 (H := fun _ => False) (fun _ => id) (fun _ _ => id)).size
  rw [← hW]
  have HKW : Hid (Kept (fun _ => False) w W) := kW
  have HBW : Hid (Blk W w3.heap.size 55 #[.string en.q, .int .i32 en.val, .int .u64 (en.fr : Int), .int .u64 (en.till : Int), .bool en.op, .int .u64 (en.kn : Int)]) := bW
  clear hW kW bW r1 s0 s1 s2 hs3 hk1 hk2 hk3
  generalize w3.heap.size = P at *
  generalize w1.heap.size = S at *
  generalize w2.heap.size = S2 at *
  go_cut [48] (fun _ wx => Hid (Dev wx b (D.seatP j ((D.seats j).from en.fr) D.begun) ∧ Kept (D.fp b) W wx))
  case first =>
    go_region_with ((go_at_call 86; refine (H3.out _ (HKW.out.drewN _)).mono ?_; rintro e w4 ⟨rfl, hn4⟩))
    all_goals
      go_wp2
      go_meet
      case rel => exact ⟨hn4.out.1, ((Kept.refl (D.fp b) W).drewN _).trans hn4.out.2 (fun _ => id) (fun _ _ => id)⟩
  case rest =>
    have HC := hcut
    clear hcut p2 r2
    have hbw : Blk wc P 55 #[.string en.q, .int .i32 en.val, .int .u64 (en.fr : Int), .int .u64 (en.till : Int), .bool en.op, .int .u64 (en.kn : Int)] := HBW.out.kept HC.out.2 (fun hh => by have := HLT.out P hh; omega)
    have z0 : wc.cell? ⟨P, 0, none⟩ = some (.string en.q) := hbw.cell 0
    have z1 : wc.cell? ⟨P, 1, none⟩ = some (.int .i32 en.val) := hbw.cell 1
    have z2 : wc.cell? ⟨P, 2, none⟩ = some (.int .u64 (en.fr : Int)) := hbw.cell 2
    have z3 : wc.cell? ⟨P, 3, none⟩ = some (.int .u64 (en.till : Int)) := hbw.cell 3
    have z4 : wc.cell? ⟨P, 4, none⟩ = some (.bool en.op) := hbw.cell 4
    have z5 : wc.cell? ⟨P, 5, none⟩ = some (.int .u64 (en.kn : Int)) := hbw.cell 5
    have HBC : Hid (Blk wc P 55 #[.string en.q, .int .i32 en.val, .int .u64 (en.fr : Int), .int .u64 (en.till : Int), .bool en.op, .int .u64 (en.kn : Int)]) := hbw
    clear hbw
    go_wp2_with fail
    go_cut [53] (fun _ wx => Hid ((∃ v, Dev wx b (D.readS j en v) ∧ Kept (D.fp b) w wx ∧ (∀ k, (D.readS j en v).fp b k → D.fp b k ∨ w.heap.size ≤ k)) ∧ wx.cell? ⟨P, 1, none⟩ = some (.int .i32 en.val)))
    case first =>
      go_region_with ((go_at_call 87; refine (H4.out _ (HC.out.1.drewN _)).mono ?_; rintro e w5 ⟨rfl, hn5⟩))
      all_goals
        go_wp2
        go_meet
        case rel =>
          obtain ⟨v, d1, d2, d3⟩ := hn5.out
          have d2' := ((Kept.refl (D.fp b) wc).drewN _).trans d2 (H := D.fp b) (fun _ => id) (fun _ _ => id)
          have k5 := (HKW.out.trans HC.out.2 (H := D.fp b) (fun _ => False.elim) (fun _ _ => id))
          refine ⟨⟨v, d1, k5.trans d2' (fun _ => id) (fun _ _ => id), fun k hk => (d3 k hk).imp id fun hh => Nat.le_trans k5.size hh⟩, ?_⟩
          exact d2'.keep (fun hh => by have := HLT.out P hh; omega) (HBC.out.cell 1)
    case rest =>
      have HC5 := hcut
      have y1 := HC5.out.2
      clear hcut z0 z1 z2 z3 z4 z5
      go_wp2
      refine bodyPost_ret (v := .tuple #[.int .i32 en.val, .bool false, .int .i64 0]) (by simp [results, Tryz.results38, go_sem]) rfl ⟨rfl, HC5.out.1⟩

end Go.Proofs.YtkednbbjofeecaaGreat
