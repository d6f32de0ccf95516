/- The program's written (package store), walked. -/
import Derived.Test.YtpfcacedpkaihabDbDc
namespace Go.Proofs.Ytpfcacedpkaihab
open Go.RowKit

theorem stC_set {q : PastE} {kk : Nat} {y : Int} (hk : kk ≤ 7) : (stC q.st).setIfInBounds kk (.int .i32 y) = stC (writeP q ((kk : Int), y)).st := by
  have hc : kk = 0 ∨ kk = 1 ∨ kk = 2 ∨ kk = 3 ∨ kk = 4 ∨ kk = 5 ∨ kk = 6 ∨ kk = 7 := by omega
  rcases hc with rfl | rfl | rfl | rfl | rfl | rfl | rfl | rfl <;> simp [stC, writeP]
theorem stC_at {q : PastE} {kk : Nat} (hk : kk ≤ 7) : (stC q.st)[kk]? = some (.int .i32 (q.st kk)) := by
  have hc : kk = 0 ∨ kk = 1 ∨ kk = 2 ∨ kk = 3 ∨ kk = 4 ∨ kk = 5 ∨ kk = 6 ∨ kk = 7 := by omega
  rcases hc with rfl | rfl | rfl | rfl | rfl | rfl | rfl | rfl <;> rfl

def WrittenPost (w : World) (p : PastE) (ws : List (Int × Int)) (e : Ending) (w' : World) : Prop :=
  Kept (fun _ => False) w w' ∧ ((ws.all keyOk = true ∧ e = .returned (.tuple #[.agg (stC (writesP p ws).st), .int .u8 (writesP p ws).keys, .bool true])) ∨
    (ws.all keyOk = false ∧ e = .returned (.tuple #[.agg (stC fun _ => 0), .int .u8 0, .bool false])))

theorem all_bad {ws : List (Int × Int)} {k : Nat} (h : k < ws.length) (hb : keyOk ws[k] = false) : ws.all keyOk = false := by
  cases hh : ws.all keyOk with
  | false => rfl
  | true => have := List.all_eq_true.mp hh _ (List.getElem_mem h); rw [hb] at this; cases this

theorem all_take {ws : List (Int × Int)} {k : Nat} (h : k < ws.length) (ha : (ws.take k).all keyOk = true) (hb : keyOk ws[k] = true) : (ws.take (k + 1)).all keyOk = true := by
  rw [List.take_succ_eq_append_getElem h, List.all_append, ha]; simp [hb]

set_option maxRecDepth 100000 in
set_option maxHeartbeats 2000000 in
theorem dwritten (w : World) (p : PastE) (hp0 : p.keys = 0) (ao : Option Addr) (n cap : Nat) (ws : List (Int × Int)) (hw : Wr w ao n ws) (hn : n ≤ 8) :
    Calls Try.prog 87 #[.agg (stC p.st), .slice ao n cap] w fun e w' => WrittenPost w p ws e w' := by
  have HW : Hid (Wr w ao n ws) := hw
  have hl := hw.len
  have HP0 : Hid (p.keys = 0) := hp0
  clear hw hp0
  unfold stC
  go_enter Try.func87, Try.ntmps87
  go_wp2
  go_loopw [7, 12] (fun ks i wr => ∃ k : Nat, k ≤ n ∧ i = .int .i64 k ∧ ks = .int .u8 (writesP p (ws.take k)).keys ∧ Hid ((ws.take k).all keyOk = true) ∧ Hid (Kept (fun _ => False) w wr ∧ Blk wr w.heap.size 64 (stC (writesP p (ws.take k)).st) ∧ Blk wr (w.heap.size + 1) 64 (stC fun _ => 0))) (fun _ i _ => n - (intOf i).toNat)
  case atStart =>
    refine ⟨0, Nat.zero_le _, rfl, ?_, rfl, ((Kept.alloc w _ (fun _ => False)).trans (Kept.alloc _ _ (fun _ => False)) (fun _ => id) (fun _ _ => id)), ?_, ?_⟩
    · show _ = Value.int .u8 p.keys
      rw [HP0.out]
    · exact (Blk.new w _ _).kept (Kept.alloc _ _ (fun _ => False)) id
    · have := Blk.new (w.alloc (.cells (stC p.st) 64)) 64 (stC fun _ => 0)
      simp only [World.size_alloc] at this
      exact this
  case round =>
    obtain ⟨k, hkn, rfl, rfl, HA, HB2⟩ := hrel
    obtain ⟨q, hq⟩ : ∃ q, q = writesP p (ws.take k) := ⟨_, rfl⟩
    rw [← hq] at HB2 ⊢
    have HQ : Hid (q = writesP p (ws.take k)) := hq
    clear hq
    have hsz : w.heap.size + 1 < wr.heap.size := HB2.out.2.2.lt
    have hsz0 : w.heap.size < wr.heap.size := by omega
    by_cases hlt : k < n
    · have hlt' : k < ws.length := by omega
      obtain ⟨bl, off, hao, z0, z1⟩ := HW.out.cell k hlt'
      have hbl : bl < w.heap.size := World.block_lt_of_cell? w _ z0
      have c0 := HB2.out.1.keep id z0
      have c1 := HB2.out.1.keep id z1
      clear z0 z1
      obtain ⟨x, hx⟩ : ∃ x, ws[k].1 = x := ⟨_, rfl⟩
      obtain ⟨y, hy⟩ : ∃ y, ws[k].2 = y := ⟨_, rfl⟩
      rw [hx] at c0
      rw [hy] at c1
      have hbw : bl < wr.heap.size := by omega
      have hkx : keyOk ws[k] = (decide (0 ≤ x) && decide (x < 8)) := by rw [keyOk, hx]
      by_cases hx0 : x < 0
      · have hd : decide (x < 0) = true := by simpa using hx0
        have HBAD : Hid (ws.all keyOk = false) := all_bad hlt' (by rw [hkx]; simp; omega)
        have b0 : wr.cell? ⟨w.heap.size + 1, 0, none⟩ = some (.int .i32 0) := HB2.out.2.2.cell 0
        have g0 := HB2.out.2.2.free 0
        have b1 : wr.cell? ⟨w.heap.size + 1, 1, none⟩ = some (.int .i32 0) := HB2.out.2.2.cell 1
        have g1 := HB2.out.2.2.free 1
        have b2 : wr.cell? ⟨w.heap.size + 1, 2, none⟩ = some (.int .i32 0) := HB2.out.2.2.cell 2
        have g2 := HB2.out.2.2.free 2
        have b3 : wr.cell? ⟨w.heap.size + 1, 3, none⟩ = some (.int .i32 0) := HB2.out.2.2.cell 3
        have g3 := HB2.out.2.2.free 3
        have b4 : wr.cell? ⟨w.heap.size + 1, 4, none⟩ = some (.int .i32 0) := HB2.out.2.2.cell 4
        have g4 := HB2.out.2.2.free 4
        have b5 : wr.cell? ⟨w.heap.size + 1, 5, none⟩ = some (.int .i32 0) := HB2.out.2.2.cell 5
        have g5 := HB2.out.2.2.free 5
        have b6 : wr.cell? ⟨w.heap.size + 1, 6, none⟩ = some (.int .i32 0) := HB2.out.2.2.cell 6
        have g6 := HB2.out.2.2.free 6
        have b7 : wr.cell? ⟨w.heap.size + 1, 7, none⟩ = some (.int .i32 0) := HB2.out.2.2.cell 7
        have g7 := HB2.out.2.2.free 7
        subst hao
        clear hkx hx hy
        go_wp2
        refine bodyPost_ret (v := .tuple #[.agg (stC fun _ => 0), .int .u8 0, .bool false]) (by simp [results, Try.results87, go_sem, stC, *]) rfl ⟨?_, .inr ⟨HBAD.out, rfl⟩⟩
        exact ((((((((HB2.out.1.setNew _ 0 _ (Nat.le_succ _)).setNew _ 1 _ (Nat.le_succ _)).setNew _ 2 _ (Nat.le_succ _)).setNew _ 3 _ (Nat.le_succ _)).setNew _ 4 _ (Nat.le_succ _)).setNew _ 5 _ (Nat.le_succ _)).setNew _ 6 _ (Nat.le_succ _)).setNew _ 7 _ (Nat.le_succ _)).allocNew _
      · by_cases hx8 : 8 ≤ x
        · have hd : decide (x < 0) = false := by simpa using hx0
          have HBAD : Hid (ws.all keyOk = false) := all_bad hlt' (by rw [hkx]; simp; omega)
          have b0 : wr.cell? ⟨w.heap.size + 1, 0, none⟩ = some (.int .i32 0) := HB2.out.2.2.cell 0
          have g0 := HB2.out.2.2.free 0
          have b1 : wr.cell? ⟨w.heap.size + 1, 1, none⟩ = some (.int .i32 0) := HB2.out.2.2.cell 1
          have g1 := HB2.out.2.2.free 1
          have b2 : wr.cell? ⟨w.heap.size + 1, 2, none⟩ = some (.int .i32 0) := HB2.out.2.2.cell 2
          have g2 := HB2.out.2.2.free 2
          have b3 : wr.cell? ⟨w.heap.size + 1, 3, none⟩ = some (.int .i32 0) := HB2.out.2.2.cell 3
          have g3 := HB2.out.2.2.free 3
          have b4 : wr.cell? ⟨w.heap.size + 1, 4, none⟩ = some (.int .i32 0) := HB2.out.2.2.cell 4
          have g4 := HB2.out.2.2.free 4
          have b5 : wr.cell? ⟨w.heap.size + 1, 5, none⟩ = some (.int .i32 0) := HB2.out.2.2.cell 5
          have g5 := HB2.out.2.2.free 5
          have b6 : wr.cell? ⟨w.heap.size + 1, 6, none⟩ = some (.int .i32 0) := HB2.out.2.2.cell 6
          have g6 := HB2.out.2.2.free 6
          have b7 : wr.cell? ⟨w.heap.size + 1, 7, none⟩ = some (.int .i32 0) := HB2.out.2.2.cell 7
          have g7 := HB2.out.2.2.free 7
          subst hao
          clear hkx hx hy
          go_wp2
          refine bodyPost_ret (v := .tuple #[.agg (stC fun _ => 0), .int .u8 0, .bool false]) (by simp [results, Try.results87, go_sem, stC, *]) rfl ⟨?_, .inr ⟨HBAD.out, rfl⟩⟩
          exact ((((((((HB2.out.1.setNew _ 0 _ (Nat.le_succ _)).setNew _ 1 _ (Nat.le_succ _)).setNew _ 2 _ (Nat.le_succ _)).setNew _ 3 _ (Nat.le_succ _)).setNew _ 4 _ (Nat.le_succ _)).setNew _ 5 _ (Nat.le_succ _)).setNew _ 6 _ (Nat.le_succ _)).setNew _ 7 _ (Nat.le_succ _)).allocNew _
        · have hd : decide (x < 0) = false := by simpa using hx0
          obtain ⟨kk, rfl⟩ : ∃ kk : Nat, x = kk := ⟨x.toNat, by omega⟩
          have HALL : Hid ((ws.take (k + 1)).all keyOk = true) := all_take hlt' HA.out (by rw [hkx]; simp; omega)
          have hk7 : kk ≤ 7 := by omega
          have HE : Hid (writesP p (ws.take (k + 1)) = writeP q ((kk : Int), y)) := by
            show _ = _
            rw [writesP_snoc _ ws k hlt', ← HQ.out, ← hx, ← hy]
          have d0 := HB2.out.2.1.cell kk
          rw [stC_at hk7] at d0
          have f0 := HB2.out.2.1.free kk
          subst hao
          clear hkx hx hy
          go_wp2
          go_roundw
          case rel =>
            refine ⟨k + 1, by omega, by go_num, ?_, HALL.out, ?_⟩
            · rw [HE.out]; rfl
            · rw [HE.out, ← stC_set hk7]
              refine ⟨(HB2.out.1.setNew _ _ _ (Nat.le_refl _)).allocNew _, (HB2.out.2.1.set kk _).kept (Kept.alloc _ _ (fun _ => False)) id, ?_⟩
              exact (HB2.out.2.2.kept (Kept.setCell wr ⟨w.heap.size, kk, none⟩ (.int .i32 y)) (by simp)).kept (Kept.alloc _ _ (fun _ => False)) id
          case measure => simp [intOf]; omega
    · have hk' : k = ws.length := by omega
      subst hk'
      rw [List.take_length] at HQ HA
      have b0 : wr.cell? ⟨w.heap.size + 1, 0, none⟩ = some (.int .i32 0) := HB2.out.2.2.cell 0
      have g0 := HB2.out.2.2.free 0
      have d0 : wr.cell? ⟨w.heap.size, 0, none⟩ = some (.int .i32 (q.st 0)) := HB2.out.2.1.cell 0
      have b1 : wr.cell? ⟨w.heap.size + 1, 1, none⟩ = some (.int .i32 0) := HB2.out.2.2.cell 1
      have g1 := HB2.out.2.2.free 1
      have d1 : wr.cell? ⟨w.heap.size, 1, none⟩ = some (.int .i32 (q.st 1)) := HB2.out.2.1.cell 1
      have b2 : wr.cell? ⟨w.heap.size + 1, 2, none⟩ = some (.int .i32 0) := HB2.out.2.2.cell 2
      have g2 := HB2.out.2.2.free 2
      have d2 : wr.cell? ⟨w.heap.size, 2, none⟩ = some (.int .i32 (q.st 2)) := HB2.out.2.1.cell 2
      have b3 : wr.cell? ⟨w.heap.size + 1, 3, none⟩ = some (.int .i32 0) := HB2.out.2.2.cell 3
      have g3 := HB2.out.2.2.free 3
      have d3 : wr.cell? ⟨w.heap.size, 3, none⟩ = some (.int .i32 (q.st 3)) := HB2.out.2.1.cell 3
      have b4 : wr.cell? ⟨w.heap.size + 1, 4, none⟩ = some (.int .i32 0) := HB2.out.2.2.cell 4
      have g4 := HB2.out.2.2.free 4
      have d4 : wr.cell? ⟨w.heap.size, 4, none⟩ = some (.int .i32 (q.st 4)) := HB2.out.2.1.cell 4
      have b5 : wr.cell? ⟨w.heap.size + 1, 5, none⟩ = some (.int .i32 0) := HB2.out.2.2.cell 5
      have g5 := HB2.out.2.2.free 5
      have d5 : wr.cell? ⟨w.heap.size, 5, none⟩ = some (.int .i32 (q.st 5)) := HB2.out.2.1.cell 5
      have b6 : wr.cell? ⟨w.heap.size + 1, 6, none⟩ = some (.int .i32 0) := HB2.out.2.2.cell 6
      have g6 := HB2.out.2.2.free 6
      have d6 : wr.cell? ⟨w.heap.size, 6, none⟩ = some (.int .i32 (q.st 6)) := HB2.out.2.1.cell 6
      have b7 : wr.cell? ⟨w.heap.size + 1, 7, none⟩ = some (.int .i32 0) := HB2.out.2.2.cell 7
      have g7 := HB2.out.2.2.free 7
      have d7 : wr.cell? ⟨w.heap.size, 7, none⟩ = some (.int .i32 (q.st 7)) := HB2.out.2.1.cell 7
      go_wp2
      refine bodyPost_ret (v := .tuple #[.agg (stC q.st), .int .u8 q.keys, .bool true]) (by simp [results, Try.results87, go_sem, stC, *]) rfl ⟨?_, .inl ⟨HA.out, by rw [HQ.out]⟩⟩
      exact ((((((((HB2.out.1.setNew _ 0 _ (Nat.le_succ _)).setNew _ 1 _ (Nat.le_succ _)).setNew _ 2 _ (Nat.le_succ _)).setNew _ 3 _ (Nat.le_succ _)).setNew _ 4 _ (Nat.le_succ _)).setNew _ 5 _ (Nat.le_succ _)).setNew _ 6 _ (Nat.le_succ _)).setNew _ 7 _ (Nat.le_succ _))

end Go.Proofs.Ytpfcacedpkaihab
