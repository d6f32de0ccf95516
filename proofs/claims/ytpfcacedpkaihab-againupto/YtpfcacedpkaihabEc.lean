/- The program's nodes (package memory): caughtUp, walked. -/
import Derived.Test.YtpfcacedpkaihabDwDx
namespace Go.Proofs.Ytpfcacedpkaihab
open Go.RowKit

def caughtV (r : Option EntE) : Value := match r with
  | none => .tuple #[.agg #[.string ⟨#[]⟩, .int .i32 0, .int .u64 0, .int .u64 0, .bool false, .int .u64 0], .bool false]
  | some y => .tuple #[.agg #[.string y.q, .int .i32 y.val, .int .u64 (y.fr : Int), .int .u64 (y.till : Int), .bool y.op, .int .u64 (y.kn : Int)], .bool true]

/-- what stands while a put is looked over: the put so far, the place of the result. -/
structure Catch (w wr : World) (y : EntE) : Prop where
  kept : Kept (fun _ => False) w wr
  put : Blk wr w.heap.size 88 #[.string y.q, .int .i32 y.val, .int .u64 (y.fr : Int), .int .u64 (y.till : Int), .bool y.op, .int .u64 (y.kn : Int)]
  res : Blk wr (w.heap.size + 1) 88 #[.string ⟨#[]⟩, .int .i32 0, .int .u64 0, .int .u64 0, .bool false, .int .u64 0]
theorem Catch.more {w wr w' : World} {y : EntE} (h : Catch w wr y) (k : Kept (fun _ => False) wr w') : Catch w w' y := ⟨h.kept.trans k (fun _ => id) (fun _ _ => id), h.put.kept k id, h.res.kept k id⟩
theorem Catch.set {w wr : World} {y y' : EntE} (h : Catch w wr y) (f : Nat) (v : Value) (he : (#[.string y.q, .int .i32 y.val, .int .u64 (y.fr : Int), .int .u64 (y.till : Int), .bool y.op, .int .u64 (y.kn : Int)] : Array Value).setIfInBounds f v = #[.string y'.q, .int .i32 y'.val, .int .u64 (y'.fr : Int), .int .u64 (y'.till : Int), .bool y'.op, .int .u64 (y'.kn : Int)]) : Catch w (wr.setCell ⟨w.heap.size, f, none⟩ v) y' :=
  ⟨h.kept.setNew _ f v (Nat.le_refl _), by rw [← he]; exact h.put.set f v, h.res.kept (Kept.setCell wr ⟨w.heap.size, f, none⟩ v) (by simp)⟩
theorem Catch.cells {w wr : World} {y : EntE} (h : Catch w wr y) : wr.cell? ⟨w.heap.size, 0, none⟩ = some (.string y.q) ∧ wr.cell? ⟨w.heap.size, 1, none⟩ = some (.int .i32 y.val) ∧ wr.cell? ⟨w.heap.size, 2, none⟩ = some (.int .u64 (y.fr : Int)) ∧ wr.cell? ⟨w.heap.size, 3, none⟩ = some (.int .u64 (y.till : Int)) ∧ wr.cell? ⟨w.heap.size, 4, none⟩ = some (.bool y.op) ∧ wr.cell? ⟨w.heap.size, 5, none⟩ = some (.int .u64 (y.kn : Int)) ∧ (∀ f, wr.frozen? ⟨w.heap.size, f, none⟩ = false) ∧ w.heap.size + 1 < wr.heap.size :=
  ⟨h.put.cell 0, h.put.cell 1, h.put.cell 2, h.put.cell 3, h.put.cell 4, h.put.cell 5, fun f => h.put.free f, h.res.lt⟩
theorem Catch.rcells {w wr : World} {y : EntE} (h : Catch w wr y) : wr.cell? ⟨w.heap.size + 1, 0, none⟩ = some (.string ⟨#[]⟩) ∧ wr.cell? ⟨w.heap.size + 1, 1, none⟩ = some (.int .i32 0) ∧ wr.cell? ⟨w.heap.size + 1, 2, none⟩ = some (.int .u64 0) ∧ wr.cell? ⟨w.heap.size + 1, 3, none⟩ = some (.int .u64 0) ∧ wr.cell? ⟨w.heap.size + 1, 4, none⟩ = some (.bool false) ∧ wr.cell? ⟨w.heap.size + 1, 5, none⟩ = some (.int .u64 0) ∧ (∀ f, wr.frozen? ⟨w.heap.size + 1, f, none⟩ = false) :=
  ⟨h.res.cell 0, h.res.cell 1, h.res.cell 2, h.res.cell 3, h.res.cell 4, h.res.cell 5, fun f => h.res.free f⟩
theorem kept_six' (w W : World) (k : Kept (fun _ => False) w W) (v0 v1 v2 v3 v4 v5 : Value) : Kept (fun _ => False) w ((((((W.setCell ⟨w.heap.size + 1, 0, none⟩ v0).setCell ⟨w.heap.size + 1, 1, none⟩ v1).setCell ⟨w.heap.size + 1, 2, none⟩ v2).setCell ⟨w.heap.size + 1, 3, none⟩ v3).setCell ⟨w.heap.size + 1, 4, none⟩ v4).setCell ⟨w.heap.size + 1, 5, none⟩ v5) :=
  (((((k.setNew _ 0 v0 (by omega)).setNew _ 1 v1 (by omega)).setNew _ 2 v2 (by omega)).setNew _ 3 v3 (by omega)).setNew _ 4 v4 (by omega)).setNew _ 5 v5 (by omega)
theorem Catch.start (w : World) (e : EntE) : Catch w ((w.alloc (.cells #[.string e.q, .int .i32 e.val, .int .u64 (e.fr : Int), .int .u64 (e.till : Int), .bool e.op, .int .u64 (e.kn : Int)] 88)).alloc (.cells #[.string ⟨#[]⟩, .int .i32 0, .int .u64 0, .int .u64 0, .bool false, .int .u64 0] 88)) e := by
  refine ⟨(Kept.alloc _ _ _).allocNew _, (Blk.new w _ _).kept (Kept.alloc _ _ (fun _ => False)) id, ?_⟩
  have := Blk.new (w.alloc (.cells #[.string e.q, .int .i32 e.val, .int .u64 (e.fr : Int), .int .u64 (e.till : Int), .bool e.op, .int .u64 (e.kn : Int)] 88)) 88 #[.string ⟨#[]⟩, .int .i32 0, .int .u64 0, .int .u64 0, .bool false, .int .u64 0]
  simp only [World.size_alloc] at this
  exact this

/-- a put that is closed, or known as late as the node knows: as it is. -/
theorem dcaught_same (w : World) (g o : Nat) (p : NodeP) (e : EntE) (hc2 : w.cell? ⟨g, o + 2, none⟩ = some (.int .u64 (p.horizon : Int))) (hs : e.op = false ∨ p.horizon ≤ e.kn) :
    Calls Try.prog 69 #[.pointer (some ⟨g, o, none⟩), .agg #[.string e.q, .int .i32 e.val, .int .u64 (e.fr : Int), .int .u64 (e.till : Int), .bool e.op, .int .u64 (e.kn : Int)]] w fun e' w' => e' = .returned (caughtV (p.caught e)) ∧ Kept (fun _ => False) w w' := by
  have HE : Hid (p.caught e = some e) := by show _ = _; rw [NodeP.caught, if_pos hs]
  have hgl : g < w.heap.size := World.block_lt_of_cell? w _ hc2
  have HV : Hid (caughtV (some e) = .tuple #[.agg #[.string e.q, .int .i32 e.val, .int .u64 (e.fr : Int), .int .u64 (e.till : Int), .bool e.op, .int .u64 (e.kn : Int)], .bool true]) := rfl
  have HST := Catch.start w e
  have HS : Hid (Catch w ((w.alloc (.cells #[.string e.q, .int .i32 e.val, .int .u64 (e.fr : Int), .int .u64 (e.till : Int), .bool e.op, .int .u64 (e.kn : Int)] 88)).alloc (.cells #[.string ⟨#[]⟩, .int .i32 0, .int .u64 0, .int .u64 0, .bool false, .int .u64 0] 88)) e) := HST
  clear HST
  rcases hs with hs | hs
  · obtain ⟨q, val, fr, till, op, kn⟩ := e
    dsimp only at *
    subst hs
    go_enter Try.func69, Try.ntmps69
    go_wp2_with fail
    have hcs := HS.out.kept.hold hc2
    obtain ⟨y0, y1, y2, y3, y4, y5, yf, ysz⟩ := HS.out.cells
    obtain ⟨z0, z1, z2, z3, z4, z5, zf⟩ := HS.out.rcells
    generalize ((w.alloc (.cells #[.string q, .int .i32 val, .int .u64 (fr : Int), .int .u64 (till : Int), .bool false, .int .u64 (kn : Int)] 88)).alloc (.cells #[.string ⟨#[]⟩, .int .i32 0, .int .u64 0, .int .u64 0, .bool false, .int .u64 0] 88)) = W at HS hcs y0 y1 y2 y3 y4 y5 yf ysz z0 z1 z2 z3 z4 z5 zf ⊢
    go_quiet (fail)
    go_wp2
    refine bodyPost_ret (v := .tuple #[.agg #[.string q, .int .i32 val, .int .u64 (fr : Int), .int .u64 (till : Int), .bool false, .int .u64 (kn : Int)], .bool true]) (by simp [results, Try.results69, go_sem, *]) rfl ⟨by rw [HE.out, HV.out], ?_⟩
    exact kept_six' w _ (HS.out.kept.drewN _) _ _ _ _ _ _
  · cases hop : e.op with
    | false =>
      obtain ⟨q, val, fr, till, op, kn⟩ := e
      dsimp only at *
      subst hop
      go_enter Try.func69, Try.ntmps69
      go_wp2_with fail
      have hcs := HS.out.kept.hold hc2
      obtain ⟨y0, y1, y2, y3, y4, y5, yf, ysz⟩ := HS.out.cells
      obtain ⟨z0, z1, z2, z3, z4, z5, zf⟩ := HS.out.rcells
      generalize ((w.alloc (.cells #[.string q, .int .i32 val, .int .u64 (fr : Int), .int .u64 (till : Int), .bool false, .int .u64 (kn : Int)] 88)).alloc (.cells #[.string ⟨#[]⟩, .int .i32 0, .int .u64 0, .int .u64 0, .bool false, .int .u64 0] 88)) = W at HS hcs y0 y1 y2 y3 y4 y5 yf ysz z0 z1 z2 z3 z4 z5 zf ⊢
      go_quiet (fail)
      go_wp2
      refine bodyPost_ret (v := .tuple #[.agg #[.string q, .int .i32 val, .int .u64 (fr : Int), .int .u64 (till : Int), .bool false, .int .u64 (kn : Int)], .bool true]) (by simp [results, Try.results69, go_sem, *]) rfl ⟨by rw [HE.out, HV.out], ?_⟩
      exact kept_six' w _ (HS.out.kept.drewN _) _ _ _ _ _ _
    | true =>
      obtain ⟨q, val, fr, till, op, kn⟩ := e
      dsimp only at *
      subst hop
      have hd : decide ((p.horizon : Int) ≤ (kn : Int)) = true := by simpa using hs
      have hd' : decide (p.horizon ≤ kn) = true := by simpa using hs
      go_enter Try.func69, Try.ntmps69
      go_wp2_with fail
      have hcs := HS.out.kept.hold hc2
      obtain ⟨y0, y1, y2, y3, y4, y5, yf, ysz⟩ := HS.out.cells
      obtain ⟨z0, z1, z2, z3, z4, z5, zf⟩ := HS.out.rcells
      generalize ((w.alloc (.cells #[.string q, .int .i32 val, .int .u64 (fr : Int), .int .u64 (till : Int), .bool true, .int .u64 (kn : Int)] 88)).alloc (.cells #[.string ⟨#[]⟩, .int .i32 0, .int .u64 0, .int .u64 0, .bool false, .int .u64 0] 88)) = W at HS hcs y0 y1 y2 y3 y4 y5 yf ysz z0 z1 z2 z3 z4 z5 zf ⊢
      go_quiet (fail)
      go_wp2
      refine bodyPost_ret (v := .tuple #[.agg #[.string q, .int .i32 val, .int .u64 (fr : Int), .int .u64 (till : Int), .bool true, .int .u64 (kn : Int)], .bool true]) (by simp [results, Try.results69, go_sem, *]) rfl ⟨by rw [HE.out, HV.out], ?_⟩
      exact kept_six' w _ (HS.out.kept.drewN _) _ _ _ _ _ _

end Go.Proofs.Ytpfcacedpkaihab
