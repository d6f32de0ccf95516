import Derived.Test.YtpfcacedpkaihaaGreatDwDx
/- The program's nodes (package memory): caughtUp, walked. -/
namespace Go.Proofs.YtpfcacedpkaihaaGreat
open Go.RowKit

def caughtV (r : Option EntE) : Value := match r with
  | none => .tuple #[.agg #[.string ⟨#[]⟩, .int .i32 0, .int .u64 0, .int .u64 0, .bool false, .int .u64 0], .bool false]
  | some y => .tuple #[.agg #[.string y.q, .int .i32 y.val, .int .u64 (y.fr : Int), .int .u64 (y.till : Int), .bool y.op, .int .u64 (y.kn : Int)], .bool true]

/-- what stands while a put is looked over: the put so far, the place of the result. -/
structure Catch (w wr : World) (y : EntE) : Prop where
  kept : Kept (fun _ => False) w wr
  put : Blk wr w.heap.size 55 #[.string y.q, .int .i32 y.val, .int .u64 (y.fr : Int), .int .u64 (y.till : Int), .bool y.op, .int .u64 (y.kn : Int)]
  res : Blk wr (w.heap.size + 1) 55 #[.string ⟨#[]⟩, .int .i32 0, .int .u64 0, .int .u64 0, .bool false, .int .u64 0]
theorem Catch.more {w wr w' : World} {y : EntE} (h : Catch w wr y) (k : Kept (fun _ => False) wr w') : Catch w w' y := ⟨h.kept.trans k (fun _ => id) (fun _ _ => id), h.put.kept k id, h.res.kept k id⟩
theorem Catch.set {w wr : World} {y y' : EntE} (h : Catch w wr y) (f : Nat) (v : Value) (he : (#[.string y.q, .int .i32 y.val, .int .u64 (y.fr : Int), .int .u64 (y.till : Int), .bool y.op, .int .u64 (y.kn : Int)] : Array Value).setIfInBounds f v = #[.string y'.q, .int .i32 y'.val, .int .u64 (y'.fr : Int), .int .u64 (y'.till : Int), .bool y'.op, .int .u64 (y'.kn : Int)]) : Catch w (wr.setCell ⟨w.heap.size, f, none⟩ v) y' :=
  ⟨h.kept.setNew _ f v (Nat.le_refl _), by rw [← he]; exact h.put.set f v, h.res.kept (Kept.setCell wr ⟨w.heap.size, f, none⟩ v) (by simp)⟩
theorem Catch.cells {w wr : World} {y : EntE} (h : Catch w wr y) : wr.cell? ⟨w.heap.size, 0, none⟩ = some (.string y.q) ∧ wr.cell? ⟨w.heap.size, 1, none⟩ = some (.int .i32 y.val) ∧ wr.cell? ⟨w.heap.size, 2, none⟩ = some (.int .u64 (y.fr : Int)) ∧ wr.cell? ⟨w.heap.size, 3, none⟩ = some (.int .u64 (y.till : Int)) ∧ wr.cell? ⟨w.heap.size, 4, none⟩ = some (.bool y.op) ∧ wr.cell? ⟨w.heap.size, 5, none⟩ = some (.int .u64 (y.kn : Int)) ∧ (∀ f, wr.frozen? ⟨w.heap.size, f, none⟩ = false) ∧ w.heap.size + 1 < wr.heap.size :=
  ⟨h.put.cell 0, h.put.cell 1, h.put.cell 2, h.put.cell 3, h.put.cell 4, h.put.cell 5, fun f => h.put.free f, h.res.lt⟩
theorem Catch.rcells {w wr : World} {y : EntE} (h : Catch w wr y) : wr.cell? ⟨w.heap.size + 1, 0, none⟩ = some (.string ⟨#[]⟩) ∧ wr.cell? ⟨w.heap.size + 1, 1, none⟩ = some (.int .i32 0) ∧ wr.cell? ⟨w.heap.size + 1, 2, none⟩ = some (.int .u64 0) ∧ wr.cell? ⟨w.heap.size + 1, 3, none⟩ = some (.int .u64 0) ∧ wr.cell? ⟨w.heap.size + 1, 4, none⟩ = some (.bool false) ∧ wr.cell? ⟨w.heap.size + 1, 5, none⟩ = some (.int .u64 0) ∧ (∀ f, wr.frozen? ⟨w.heap.size + 1, f, none⟩ = false) :=
  ⟨h.res.cell 0, h.res.cell 1, h.res.cell 2, h.res.cell 3, h.res.cell 4, h.res.cell 5, fun f => h.res.free f⟩
theorem kept_six' (w W : World) (k : Kept (fun _ => False) w W) (v0 v1 v2 v3 v4 v5 : Value) : Kept (fun _ => False) w ((((((W.setCell ⟨w.heap.size + 1, 0, none⟩ v0).setCell ⟨w.heap.size + 1, 1, none⟩ v1).setCell ⟨w.heap.size + 1, 2, none⟩ v2).setCell ⟨w.heap.size + 1, 3, none⟩ v3).setCell ⟨w.heap.size + 1, 4, none⟩ v4).setCell ⟨w.heap.size + 1, 5, none⟩ v5) :=
  (((((k.setNew _ 0 v0 (by omega)).setNew _ 1 v1 (by omega)).setNew _ 2 v2 (by omega)).setNew _ 3 v3 (by omega)).setNew _ 4 v4 (by omega)).setNew _ 5 v5 (by omega)
theorem Catch.start (w : World) (e : EntE) : Catch w ((w.alloc (.cells #[.string e.q, .int .i32 e.val, .int .u64 (e.fr : Int), .int .u64 (e.till : Int), .bool e.op, .int .u64 (e.kn : Int)] 55)).alloc (.cells #[.string ⟨#[]⟩, .int .i32 0, .int .u64 0, .int .u64 0, .bool false, .int .u64 0] 55)) e := by
  refine ⟨(Kept.alloc _ _ _).allocNew _, (Blk.new w _ _).kept (Kept.alloc _ _ (fun _ => False)) id, ?_⟩
  have := Blk.new (w.alloc (.cells #[.string e.q, .int .i32 e.val, .int .u64 (e.fr : Int), .int .u64 (e.till : Int), .bool e.op, .int .u64 (e.kn : Int)] 55)) 55 #[.string ⟨#[]⟩, .int .i32 0, .int .u64 0, .int .u64 0, .bool false, .int .u64 0]
  simp only [World.size_alloc] at this
  exact this

/-- a put that is closed, or known as late as the node knows: as it is. -/
theorem dcaught_same (w : World) (g o : Nat) (p : NodeP) (e : EntE) (hc2 : w.cell? ⟨g, o + 2, none⟩ = some (.int .u64 (p.horizon : Int))) (hs : e.op = false ∨ p.horizon ≤ e.kn) :
    Calls Tryz.prog 142 #[.pointer (some ⟨g, o, none⟩), .agg #[.string e.q, .int .i32 e.val, .int .u64 (e.fr : Int), .int .u64 (e.till : Int), .bool e.op, .int .u64 (e.kn : Int)]] w fun e' w' => e' = .returned (caughtV (p.caught e)) ∧ Kept (fun _ => False) w w' := by
  have HE : Hid (p.caught e = some e) := by show _ = _; rw [NodeP.caught, if_pos hs]
  have hgl : g < w.heap.size := World.block_lt_of_cell? w _ hc2
  have HV : Hid (caughtV (some e) = .tuple #[.agg #[.string e.q, .int .i32 e.val, .int .u64 (e.fr : Int), .int .u64 (e.till : Int), .bool e.op, .int .u64 (e.kn : Int)], .bool true]) := rfl
  have HST := Catch.start w e
  have HS : Hid (Catch w ((w.alloc (.cells #[.string e.q, .int .i32 e.val, .int .u64 (e.fr : Int), .int .u64 (e.till : Int), .bool e.op, .int .u64 (e.kn : Int)] 55)).alloc (.cells #[.string ⟨#[]⟩, .int .i32 0, .int .u64 0, .int .u64 0, .bool false, .int .u64 0] 55)) e) := HST
  clear HST
  rcases hs with hs | hs
  · obtain ⟨q, val, fr, till, op, kn⟩ := e
    dsimp only at *
    subst hs
    go_enter Tryz.func142, Tryz.ntmps142
    go_wp2_with fail
    have hcs := HS.out.kept.hold hc2
    obtain ⟨y0, y1, y2, y3, y4, y5, yf, ysz⟩ := HS.out.cells
    obtain ⟨z0, z1, z2, z3, z4, z5, zf⟩ := HS.out.rcells
    generalize ((w.alloc (.cells #[.string q, .int .i32 val, .int .u64 (fr : Int), .int .u64 (till : Int), .bool false, .int .u64 (kn : Int)] 55)).alloc (.cells #[.string ⟨#[]⟩, .int .i32 0, .int .u64 0, .int .u64 0, .bool false, .int .u64 0] 55)) = W at HS hcs y0 y1 y2 y3 y4 y5 yf ysz z0 z1 z2 z3 z4 z5 zf ⊢
    go_quiet (fail)
    go_wp2
    refine bodyPost_ret (v := .tuple #[.agg #[.string q, .int .i32 val, .int .u64 (fr : Int), .int .u64 (till : Int), .bool false, .int .u64 (kn : Int)], .bool true]) (by simp [results, Tryz.results142, go_sem, *]) rfl ⟨by rw [HE.out, HV.out], ?_⟩
    exact kept_six' w _ (HS.out.kept.drewN _) _ _ _ _ _ _
  · cases hop : e.op with
    | false =>
      obtain ⟨q, val, fr, till, op, kn⟩ := e
      dsimp only at *
      subst hop
      go_enter Tryz.func142, Tryz.ntmps142
      go_wp2_with fail
      have hcs := HS.out.kept.hold hc2
      obtain ⟨y0, y1, y2, y3, y4, y5, yf, ysz⟩ := HS.out.cells
      obtain ⟨z0, z1, z2, z3, z4, z5, zf⟩ := HS.out.rcells
      generalize ((w.alloc (.cells #[.string q, .int .i32 val, .int .u64 (fr : Int), .int .u64 (till : Int), .bool false, .int .u64 (kn : Int)] 55)).alloc (.cells #[.string ⟨#[]⟩, .int .i32 0, .int .u64 0, .int .u64 0, .bool false, .int .u64 0] 55)) = W at HS hcs y0 y1 y2 y3 y4 y5 yf ysz z0 z1 z2 z3 z4 z5 zf ⊢
      go_quiet (fail)
      go_wp2
      refine bodyPost_ret (v := .tuple #[.agg #[.string q, .int .i32 val, .int .u64 (fr : Int), .int .u64 (till : Int), .bool false, .int .u64 (kn : Int)], .bool true]) (by simp [results, Tryz.results142, go_sem, *]) rfl ⟨by rw [HE.out, HV.out], ?_⟩
      exact kept_six' w _ (HS.out.kept.drewN _) _ _ _ _ _ _
    | true =>
      obtain ⟨q, val, fr, till, op, kn⟩ := e
      dsimp only at *
      subst hop
      have hd : decide ((p.horizon : Int) ≤ (kn : Int)) = true := by simpa using hs
      have hd' : decide (p.horizon ≤ kn) = true := by simpa using hs
      go_enter Tryz.func142, Tryz.ntmps142
      go_wp2_with fail
      have hcs := HS.out.kept.hold hc2
      obtain ⟨y0, y1, y2, y3, y4, y5, yf, ysz⟩ := HS.out.cells
      obtain ⟨z0, z1, z2, z3, z4, z5, zf⟩ := HS.out.rcells
      generalize ((w.alloc (.cells #[.string q, .int .i32 val, .int .u64 (fr : Int), .int .u64 (till : Int), .bool true, .int .u64 (kn : Int)] 55)).alloc (.cells #[.string ⟨#[]⟩, .int .i32 0, .int .u64 0, .int .u64 0, .bool false, .int .u64 0] 55)) = W at HS hcs y0 y1 y2 y3 y4 y5 yf ysz z0 z1 z2 z3 z4 z5 zf ⊢
      go_quiet (fail)
      go_wp2
      refine bodyPost_ret (v := .tuple #[.agg #[.string q, .int .i32 val, .int .u64 (fr : Int), .int .u64 (till : Int), .bool true, .int .u64 (kn : Int)], .bool true]) (by simp [results, Tryz.results142, go_sem, *]) rfl ⟨by rw [HE.out, HV.out], ?_⟩
      exact kept_six' w _ (HS.out.kept.drewN _) _ _ _ _ _ _

end Go.Proofs.YtpfcacedpkaihaaGreat

/- The program's nodes (package memory): caughtUp over a node's history, walked. -/
namespace Go.Proofs.YtpfcacedpkaihaaGreat
open Go.RowKit

theorem kdrewA {W w : World} {n : Nat} (h : Kept (fun _ => False) (W.drewN n) w) : Kept (fun _ => False) W w := ((Kept.refl (fun _ => False) W).drewN n).trans h (fun _ => id) (fun _ _ => id)
theorem hold_set_ne {w : World} {g f b o : Nat} {v v' : Value} (hb : b ≠ g) (h : w.cell? ⟨b, o, none⟩ = some v) : (w.setCell ⟨g, f, none⟩ v').cell? ⟨b, o, none⟩ = some v :=
  (World.cell?_of_block (a := ⟨b, o, none⟩) ((Kept.setCell w ⟨g, f, none⟩ v').block b (World.block_lt_of_cell? w _ h) hb)).trans h

set_option maxRecDepth 100000 in
set_option maxHeartbeats 4000000 in
theorem dcaught_go (w : World) (g o : Nat) (p : NodeP) (vh : Value) (e : EntE) (hc2 : w.cell? ⟨g, o + 2, none⟩ = some (.int .u64 (p.horizon : Int))) (hc3 : w.cell? ⟨g, o + 3, none⟩ = some vh) (hr : Row w 244 2 vh p.hists.length (p.hists.flatMap histC)) (hl : p.hists.length ≤ 1000) (hz : p.horizon ≤ 1000000) (hq : e.q.size ≤ maxLen) (hop : e.op = true) (hkn : e.kn < p.horizon) :
    Calls Tryz.prog 142 #[.pointer (some ⟨g, o, none⟩), .agg #[.string e.q, .int .i32 e.val, .int .u64 (e.fr : Int), .int .u64 (e.till : Int), .bool e.op, .int .u64 (e.kn : Int)]] w fun e' w' => e' = .returned (caughtV (p.caught e)) ∧ Kept (fun _ => False) w w' := by
  have hgl : g < w.heap.size := World.block_lt_of_cell? w _ hc2
  obtain ⟨KQ, hKQ⟩ : ∃ KQ, KQ = keysQ e.q := ⟨_, rfl⟩
  obtain ⟨N, hN⟩ : ∃ N, N = p.horizon - e.kn := ⟨_, rfl⟩
  obtain ⟨z, hzz⟩ : ∃ z, z = p.horizon := ⟨_, rfl⟩
  obtain ⟨H, hH⟩ : ∃ H, H = p.hists := ⟨_, rfl⟩
  obtain ⟨R, hR⟩ : ∃ R, R = NodeP.caughtGo H KQ N (e.kn + 1) e := ⟨_, rfl⟩
  have HE : Hid (p.caught e = R.map fun y => if y.op then { y with kn := z } else y) := by show _ = _; rw [NodeP.caught, if_neg (by rw [hop]; simp; omega), hR, hH, hKQ, hN, hzz]
  have HWR : Hid (∀ W t, Kept (fun _ => False) w W → Calls Tryz.prog 161 #[.pointer (some ⟨g, o, none⟩), .int .u64 ((t : Nat) : Int)] W fun e w' => e = .returned (wroteV (wroteL H t)) ∧ Kept (fun _ => False) W w') := fun W t hW => by
    rw [hH]
    exact dwrote W g o vh p.hists t (hW.hold hc3) (hr.kept hW (fun _ _ => id)) hl
  have HQ : Hid (∀ W, Calls Tryz.prog 71 #[.string e.q] W fun e w' => ∃ n er : Int, e = .returned (.tuple #[.agg #[.int .u8 KQ, .int .i64 n], .int .i64 er]) ∧ Kept (fun _ => False) W w') := fun W => by rw [hKQ]; exact parseK _ W hq
  have HC2 : Hid (∀ W, Kept (fun _ => False) w W → W.cell? ⟨g, o + 2, none⟩ = some (.int .u64 (z : Int))) := fun W hW => by rw [hzz]; exact hW.hold hc2
  have HS : Hid (Catch w ((w.alloc (.cells #[.string e.q, .int .i32 e.val, .int .u64 (e.fr : Int), .int .u64 (e.till : Int), .bool e.op, .int .u64 (e.kn : Int)] 55)).alloc (.cells #[.string ⟨#[]⟩, .int .i32 0, .int .u64 0, .int .u64 0, .bool false, .int .u64 0] 55)) e) := Catch.start w e
  have HEND : Hid (∀ n (y : EntE), n = N → NodeP.caughtGo H KQ (N - n) (e.kn + 1 + n) y = R → p.caught e = some (if y.op then { y with kn := z } else y)) := fun n y hn hg => by
    rw [hn, Nat.sub_self] at hg
    rw [HE.out, ← hg]
    rfl
  have HNONE : Hid (∀ n (y : EntE), n < N → NodeP.caughtGo H KQ (N - n) (e.kn + 1 + n) y = R → wroteL H (e.kn + 1 + n) = none → p.caught e = none) := fun n y hn hg hw => by
    have e1 : N - n = (N - (n + 1)) + 1 := by omega
    rw [e1, NodeP.caughtGo, hw] at hg
    rw [HE.out, ← hg]
    rfl
  have HNEXT : Hid (∀ n (y y' : EntE) (k : Int), n < N → NodeP.caughtGo H KQ (N - n) (e.kn + 1 + n) y = R → wroteL H (e.kn + 1 + n) = some k → y' = (if y.op = true ∧ (bits .and .u8 k KQ != 0) = true then { y with op := false, till := e.kn + 1 + n } else y) → NodeP.caughtGo H KQ (N - (n + 1)) (e.kn + 1 + (n + 1)) y' = R) := fun n y y' k hn hg hw hy => by
    have e1 : N - n = (N - (n + 1)) + 1 := by omega
    rw [e1, NodeP.caughtGo, hw] at hg
    rw [hy, ← hg]
    rfl
  have hNz : e.kn + N = z := by omega
  obtain ⟨ek, hek⟩ : ∃ ek, ek = e.kn := ⟨_, rfl⟩
  have HR0 : Hid (NodeP.caughtGo H KQ (N - 0) (ek + 1 + 0) e = R) := by rw [hek]; exact hR.symm
  have hd : decide ((z : Int) ≤ (e.kn : Int)) = false := by simp; omega
  have hd' : decide (z ≤ e.kn) = false := by simp; omega
  rw [← hek] at HEND HNONE HNEXT hNz hd hd'
  rw [← hzz] at hz hc2
  have hkz : ek < z := by omega
  clear hr hl hq hkn hKQ hN hzz hH hR hc3 HE
  obtain ⟨q, val, fr, till, op, kn⟩ := e
  dsimp only at *
  subst hop hek
  go_enter Tryz.func142, Tryz.ntmps142
  go_wp2_with fail
  have hcs := HC2.out _ HS.out.kept
  obtain ⟨y0, y1, y2, y3, y4, y5, yf, ysz⟩ := HS.out.cells
  generalize ((w.alloc (.cells #[.string q, .int .i32 val, .int .u64 (fr : Int), .int .u64 (till : Int), .bool true, .int .u64 (ek : Int)] 55)).alloc (.cells #[.string ⟨#[]⟩, .int .i32 0, .int .u64 0, .int .u64 0, .bool false, .int .u64 0] 55)) = W at HS hcs y0 y1 y2 y3 y4 y5 yf ysz ⊢
  go_quiet (fail)
  go_wp2_with (go_at_call 71; refine (HQ.out _).mono ?_; rintro e' w1 ⟨n1, er, rfl, hk1⟩; have HS1 : Hid (Catch w w1 ⟨q, val, fr, till, true, ek⟩) := HS.out.more (kdrewA hk1); have x5 : w1.cell? ⟨w.heap.size, 5, none⟩ = some (.int .u64 (ek : Int)) := HS1.out.cells.2.2.2.2.2.1; have xsz : w.heap.size < w1.heap.size := (by have := HS1.out.res.lt; omega); clear hk1)
  have HS2 : Hid (Catch w (w1.alloc (.cells #[.int .u8 KQ, .int .i64 n1] 70)) ⟨q, val, fr, till, true, ek⟩ ∧ (w1.alloc (.cells #[.int .u8 KQ, .int .i64 n1] 70)).cell? ⟨w1.heap.size, 0, none⟩ = some (.int .u8 KQ)) := ⟨HS1.out.more (Kept.alloc _ _ _), by simp⟩
  have hS2 : w.heap.size + 1 < w1.heap.size := HS1.out.res.lt
  clear y0 y1 y2 y3 y4 y5 yf ysz hcs x5
  generalize hWa : w1.alloc (.cells #[.int .u8 KQ, .int .i64 n1] 70) = Wa at HS2 ⊢
  clear hWa
  obtain ⟨S, hS⟩ : ∃ S, S = w1.heap.size := ⟨_, rfl⟩
  rw [← hS] at HS2 hS2 xsz ⊢
  clear hS
  go_loopw [8] (fun tv wr => ∃ (n : Nat) (y : EntE), n ≤ N ∧ tv = .int .u64 ((ek : Int) + 1 + (n : Int)) ∧ Hid (Catch w wr y ∧ wr.cell? ⟨S, 0, none⟩ = some (.int .u8 KQ) ∧ y.kn = ek ∧ NodeP.caughtGo H KQ (N - n) (ek + 1 + n) y = R)) (fun tv _ => z + 1 - (intOf tv).toNat)
  case atStart => exact ⟨0, _, Nat.zero_le _, by go_num, HS2.out.1, HS2.out.2, rfl, HR0.out⟩
  case round =>
    obtain ⟨n, y, hn, rfl, HB⟩ := hrel
    have d2 := HC2.out wr HB.out.1.kept
    obtain ⟨y0, y1, y2, y3, y4, y5, yf, ysz⟩ := HB.out.1.cells
    have s0 := HB.out.2.1
    by_cases hlt : n < N
    · have hle : (ek : Int) + 1 + (n : Int) ≤ (z : Int) := by omega
      have HW1 := HWR.out wr (ek + 1 + n) HB.out.1.kept
      have ecast : (((ek + 1 + n : Nat)) : Int) = (ek : Int) + 1 + (n : Int) := by omega
      rw [ecast] at HW1
      cases hwl : wroteL H (ek + 1 + n) with
      | none =>
        rw [hwl] at HW1
        have HW2 : Hid (Calls Tryz.prog 161 #[.pointer (some ⟨g, o, none⟩), .int .u64 ((ek : Int) + 1 + (n : Int))] wr fun e w' => e = .returned (.tuple #[.int .u8 0, .bool false]) ∧ Kept (fun _ => False) wr w') := HW1
        have HZ : Hid (p.caught ⟨q, val, fr, till, true, ek⟩ = none) := HNONE.out n y hlt HB.out.2.2.2 hwl
        clear hwl HW1 ecast
        go_wp2_with (go_at_call 161; refine HW2.out.mono ?_; rintro e' w3 ⟨rfl, hk3⟩; have HB3 : Hid (Catch w w3 y) := HB.out.1.more hk3; obtain ⟨z0, z1, z2, z3, z4, z5, zf⟩ := HB3.out.rcells; clear hk3)
        refine bodyPost_ret (v := .tuple #[.agg #[.string ⟨#[]⟩, .int .i32 0, .int .u64 0, .int .u64 0, .bool false, .int .u64 0], .bool false]) (by simp [results, Tryz.results142, go_sem, *]) rfl ⟨by rw [HZ.out]; rfl, ?_⟩
        exact kept_six' w _ HB3.out.kept _ _ _ _ _ _
      | some k =>
        rw [hwl] at HW1
        have HW2 : Hid (Calls Tryz.prog 161 #[.pointer (some ⟨g, o, none⟩), .int .u64 ((ek : Int) + 1 + (n : Int))] wr fun e w' => e = .returned (.tuple #[.int .u8 k, .bool true]) ∧ Kept (fun _ => False) wr w') := HW1
        have HNX : Hid (∀ y', y' = (if y.op = true ∧ (bits .and .u8 k KQ != 0) = true then { y with op := false, till := ek + 1 + n } else y) → NodeP.caughtGo H KQ (N - (n + 1)) (ek + 1 + (n + 1)) y' = R) := fun y' hy => HNEXT.out n y y' k hlt HB.out.2.2.2 hwl hy
        clear hwl HW1 ecast
        by_cases hc : y.op = true ∧ (bits .and .u8 k KQ != 0) = true
        · obtain ⟨hc1, hc2'⟩ := hc
          rw [hc1] at y4
          have HN2 : Hid (NodeP.caughtGo H KQ (N - (n + 1)) (ek + 1 + (n + 1)) { y with op := false, till := ek + 1 + n } = R) := HNX.out _ (by rw [if_pos ⟨hc1, hc2'⟩])
          have HKN := HB.out.2.2.1
          have HKN' : Hid (y.kn = ek) := HKN
          clear hc1 HNX HKN
          go_wp2_with (go_at_call 161; refine HW2.out.mono ?_; rintro e' w3 ⟨rfl, hk3⟩; have HB3 : Hid (Catch w w3 y ∧ w3.cell? ⟨S, 0, none⟩ = some (.int .u8 KQ)) := ⟨HB.out.1.more hk3, hk3.hold s0⟩; obtain ⟨t0, t1, t2, t3, t4, t5, tf, tsz⟩ := HB3.out.1.cells; have v0 := HB3.out.2; have t4' : w3.cell? ⟨w.heap.size, 4, none⟩ = some (.bool true) := hk3.hold y4; clear hk3 t4)
          go_roundw
          case rel =>
            refine ⟨n + 1, { y with op := false, till := ek + 1 + n }, by omega, by go_num, ?_, ?_, HKN'.out, HN2.out⟩
            · have s1 := HB3.out.1.set (y' := { y with op := false }) 4 (.bool false) (by simp)
              have s2 := s1.set (y' := { y with op := false, till := ek + 1 + n }) 3 (.int .u64 ((ek : Int) + 1 + (n : Int))) (by simp)
              exact s2
            · exact hold_set_ne (by omega) (hold_set_ne (by omega) HB3.out.2)
          case measure => simp [intOf]; omega
        · have HN2 : Hid (NodeP.caughtGo H KQ (N - (n + 1)) (ek + 1 + (n + 1)) y = R) := HNX.out _ (by rw [if_neg hc])
          have HKN' : Hid (y.kn = ek) := HB.out.2.2.1
          have hcase : y.op = false ∨ (y.op = true ∧ (bits .and .u8 k KQ != 0) = false) := by
            cases h1 : y.op with
            | false => exact .inl rfl
            | true => exact .inr ⟨rfl, by cases h2 : (bits .and .u8 k KQ != 0) with
              | false => rfl
              | true => exact absurd ⟨h1, h2⟩ hc⟩
          clear hc HNX
          rcases hcase with h1 | ⟨h1, h2⟩
          · rw [h1] at y4
            clear h1
            go_wp2_with (go_at_call 161; refine HW2.out.mono ?_; rintro e' w3 ⟨rfl, hk3⟩; have HB3 : Hid (Catch w w3 y ∧ w3.cell? ⟨S, 0, none⟩ = some (.int .u8 KQ)) := ⟨HB.out.1.more hk3, hk3.hold s0⟩; have v0 := HB3.out.2; have t4' : w3.cell? ⟨w.heap.size, 4, none⟩ = some (.bool false) := hk3.hold y4; clear hk3)
            go_roundw
            case rel => exact ⟨n + 1, y, by omega, by go_num, HB3.out.1, HB3.out.2, HKN'.out, HN2.out⟩
            case measure => simp [intOf]; omega
          · rw [h1] at y4
            clear h1
            go_wp2_with (go_at_call 161; refine HW2.out.mono ?_; rintro e' w3 ⟨rfl, hk3⟩; have HB3 : Hid (Catch w w3 y ∧ w3.cell? ⟨S, 0, none⟩ = some (.int .u8 KQ)) := ⟨HB.out.1.more hk3, hk3.hold s0⟩; have v0 := HB3.out.2; have t4' : w3.cell? ⟨w.heap.size, 4, none⟩ = some (.bool true) := hk3.hold y4; clear hk3)
            go_roundw
            case rel => exact ⟨n + 1, y, by omega, by go_num, HB3.out.1, HB3.out.2, HKN'.out, HN2.out⟩
            case measure => simp [intOf]; omega
    · have hnN : n = N := by omega
      have HZ : Hid (p.caught ⟨q, val, fr, till, true, ek⟩ = some (if y.op then { y with kn := z } else y)) := HEND.out n y hnN HB.out.2.2.2
      have hle : ¬ (ek : Int) + 1 + (n : Int) ≤ (z : Int) := by omega
      obtain ⟨z0, z1, z2, z3, z4, z5, zf⟩ := HB.out.1.rcells
      have HK := HB.out.1.kept
      have HK' : Hid (Kept (fun _ => False) w wr) := HK
      clear HK
      cases h1 : y.op with
      | false =>
        rw [h1] at y4 HZ
        have HVV : Hid (caughtV (p.caught ⟨q, val, fr, till, true, ek⟩) = .tuple #[.agg #[.string y.q, .int .i32 y.val, .int .u64 (y.fr : Int), .int .u64 (y.till : Int), .bool false, .int .u64 (y.kn : Int)], .bool true]) := by show _ = _; rw [HZ.out]; simp [caughtV, h1]
        clear h1 hnN
        go_wp2
        refine bodyPost_ret (v := .tuple #[.agg #[.string y.q, .int .i32 y.val, .int .u64 (y.fr : Int), .int .u64 (y.till : Int), .bool false, .int .u64 (y.kn : Int)], .bool true]) (by simp [results, Tryz.results142, go_sem, *]) rfl ⟨by rw [HVV.out], ?_⟩
        exact kept_six' w _ HK'.out _ _ _ _ _ _
      | true =>
        rw [h1] at y4 HZ
        have HVV : Hid (caughtV (p.caught ⟨q, val, fr, till, true, ek⟩) = .tuple #[.agg #[.string y.q, .int .i32 y.val, .int .u64 (y.fr : Int), .int .u64 (y.till : Int), .bool true, .int .u64 (z : Int)], .bool true]) := by show _ = _; rw [HZ.out]; simp [caughtV]
        clear h1 hnN
        go_wp2
        refine bodyPost_ret (v := .tuple #[.agg #[.string y.q, .int .i32 y.val, .int .u64 (y.fr : Int), .int .u64 (y.till : Int), .bool true, .int .u64 (z : Int)], .bool true]) (by simp [results, Tryz.results142, go_sem, *]) rfl ⟨by rw [HVV.out], ?_⟩
        exact kept_six' w _ (HK'.out.setNew _ _ _ (Nat.le_refl _)) _ _ _ _ _ _

theorem dcaught (w : World) (g o : Nat) (p : NodeP) (vh : Value) (e : EntE) (hc2 : w.cell? ⟨g, o + 2, none⟩ = some (.int .u64 (p.horizon : Int))) (hc3 : w.cell? ⟨g, o + 3, none⟩ = some vh) (hr : Row w 244 2 vh p.hists.length (p.hists.flatMap histC)) (hl : p.hists.length ≤ 1000) (hz : p.horizon ≤ 1000000) (hq : e.q.size ≤ maxLen) :
    Calls Tryz.prog 142 #[.pointer (some ⟨g, o, none⟩), .agg #[.string e.q, .int .i32 e.val, .int .u64 (e.fr : Int), .int .u64 (e.till : Int), .bool e.op, .int .u64 (e.kn : Int)]] w fun e' w' => e' = .returned (caughtV (p.caught e)) ∧ Kept (fun _ => False) w w' := by
  by_cases hs : e.op = false ∨ p.horizon ≤ e.kn
  · exact dcaught_same w g o p e hc2 hs
  · exact dcaught_go w g o p vh e hc2 hc3 hr hl hz hq (by cases h : e.op with
      | false => exact absurd (.inl h) hs
      | true => rfl) (by have := mt Or.inr hs; omega)

end Go.Proofs.YtpfcacedpkaihaaGreat
