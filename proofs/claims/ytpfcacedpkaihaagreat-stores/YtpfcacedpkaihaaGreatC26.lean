import Derived.Deep.RegionHeld3
import Derived.BigQuiet
import Derived.Lib.Strings
import Derived.Deep.DeepCutAuto
import Derived.Test.YtpfcacedpkaihaaGreatC21
namespace Go.Proofs.YtpfcacedpkaihaaGreat
open Go.RowKit
set_option maxRecDepth 100000
set_option maxHeartbeats 16000000
theorem ranswering (w : World) (nd : NodeE) (ge ce : Nat) (nm : Value) (q : ByteArray) (sl sh : Nat) (hre : Row w 55 6 (.slice (some ⟨ge, 0, none⟩) nd.ents.length ce) nd.ents.length (nd.ents.flatMap entC)) (hn : nd.ents.length ≤ 1000) (hfit : ∀ e ∈ nd.ents, e.Fit) (hz : nd.horizon ≤ 700) :
 Calls Tryz.prog 94 #[.agg #[.bool nd.up, .int .u64 (nd.since : Int), .int .u64 (nd.horizon : Int), nd.fl, nd.wt, .slice (some ⟨ge, 0, none⟩) nd.ents.length ce, nm], .string q, .agg #[.int .u64 sl, .int .u64 sh]] w fun e w' =>
  e = .returned (.int .i64 (ansN nd.up nd.horizon q sl sh nd.ents nd.ents.length)) ∧ Kept (fun _ => False) w w' := by
 have HE : Hid (∀ i (hi : i < nd.ents.length), ∀ f, f < 6 → w.cell? ⟨ge, i * 6 + f, none⟩ = (entC nd.ents[i])[f]?) := fun i hi f hf => by
  have hx := flat_at entC 6 (fun _ => rfl) nd.ents i hi f hf
  obtain ⟨u, hu⟩ : ∃ u, (entC nd.ents[i])[f]? = some u := ⟨_, List.getElem?_eq_getElem (show f < 6 from hf)⟩
  rw [hu] at hx
  rw [hu]
  exact hre.cell rfl _ _ hx
 have HF : Hid (∀ e ∈ nd.ents, e.Fit) := hfit
 generalize nd.fl = fl at *
 generalize nd.wt = wt at *
 obtain ⟨A, hA⟩ : ∃ A : Nat → Int, ∀ i, A i = ansN nd.up nd.horizon q sl sh nd.ents i := ⟨_, fun _ => rfl⟩
 rw [← hA]
 have HA : Hid (∀ i, A i = ansN nd.up nd.horizon q sl sh nd.ents i) := hA
 clear hre hfit hA
 go_enter Tryz.func94, Tryz.ntmps94
 go_wp2
 go_loopw [7, 8] (fun bv iv wr => ∃ i : Nat, i ≤ nd.ents.length ∧ iv = .int .i64 i ∧ bv = .int .i64 (A i) ∧ Hid (Kept (fun _ => False) w wr ∧ Blk wr w.heap.size 146 #[.bool nd.up, .int .u64 (nd.since : Int), .int .u64 (nd.horizon : Int), fl, wt, .slice (some ⟨ge, 0, none⟩) nd.ents.length ce, nm] ∧ Blk wr (w.heap.size + 1) 88 #[.int .u64 sl, .int .u64 sh])) (fun _ iv _ => nd.ents.length - (intOf iv).toNat)
 case atStart => exact ⟨0, Nat.zero_le _, rfl, by rw [HA.out]; rfl, (Kept.alloc _ _ (fun _ => False)).trans (Kept.alloc _ _ (fun _ => False)) (fun _ => id) (fun _ _ => id), (Blk.new _ _ _).kept (Kept.alloc _ _ (fun _ => False)) id, by simpa using Blk.new (w.alloc _) _ _⟩
 case round =>
  obtain ⟨i, hi, rfl, rfl, HB⟩ := hrel
  have d5 : wr.cell? ⟨w.heap.size, 5, none⟩ = some (.slice (some ⟨ge, 0, none⟩) nd.ents.length ce) := HB.out.2.1.cell 5
  by_cases hlt : i < nd.ents.length
  · obtain ⟨x, hx⟩ : ∃ x, x = nd.ents[i] := ⟨_, rfl⟩
    have hx' : nd.ents[i]? = some x := by rw [hx]; exact List.getElem?_eq_getElem hlt
    have hxf : x.Fit := HF.out x (by rw [hx]; exact List.getElem_mem hlt)
    have x0 : wr.cell? ⟨ge, i * 6, none⟩ = some (.string x.q) := HB.out.1.hold ((HE.out i hlt 0 (by omega)).trans (by rw [← hx]; rfl))
    have x1 : wr.cell? ⟨ge, i * 6 + 1, none⟩ = some (.int .i32 x.val) := HB.out.1.hold ((HE.out i hlt 1 (by omega)).trans (by rw [← hx]; rfl))
    have x2 : wr.cell? ⟨ge, i * 6 + 2, none⟩ = some (.int .u64 (x.fr : Int)) := HB.out.1.hold ((HE.out i hlt 2 (by omega)).trans (by rw [← hx]; rfl))
    have x3 : wr.cell? ⟨ge, i * 6 + 3, none⟩ = some (.int .u64 (x.till : Int)) := HB.out.1.hold ((HE.out i hlt 3 (by omega)).trans (by rw [← hx]; rfl))
    have x4 : wr.cell? ⟨ge, i * 6 + 4, none⟩ = some (.bool x.op) := HB.out.1.hold ((HE.out i hlt 4 (by omega)).trans (by rw [← hx]; rfl))
    have x5 : wr.cell? ⟨ge, i * 6 + 5, none⟩ = some (.int .u64 (x.kn : Int)) := HB.out.1.hold ((HE.out i hlt 5 (by omega)).trans (by rw [← hx]; rfl))
    have hi0 : (0 : Int) ≤ (i : Int) := by omega
    have hi1 : (i : Int) < (nd.ents.length : Int) := by omega
    have hbl := ansN_lt nd.up nd.horizon q sl sh nd.ents i
    have HS : Hid (A (i + 1) = if nd.up = true ∧ meetsE nd.horizon q sl sh x ∧ (A i < 0 ∨ ∃ y, nd.ents[(A i).toNat]? = some y ∧ y.fr < x.fr) then (i : Int) else A i) := by show _ = _; rw [HA.out, HA.out, ansN, hx']
    rw [← HA.out] at hbl
    obtain ⟨L, hL⟩ : ∃ L, L = lastE x nd.horizon := ⟨_, rfl⟩
    have HLA : Hid (∀ W, Calls Tryz.prog 96 #[.agg #[.string x.q, .int .i32 x.val, .int .u64 (x.fr : Int), .int .u64 (x.till : Int), .bool x.op, .int .u64 (x.kn : Int)], .int .u64 (nd.horizon : Int)] W fun e w' => e = .returned (.int .u64 (L : Int)) ∧ (∀ b f, b < W.heap.size → w'.cell? ⟨b, f, none⟩ = W.cell? ⟨b, f, none⟩) ∧ (∀ b f, b < W.heap.size → w'.frozen? ⟨b, f, none⟩ = W.frozen? ⟨b, f, none⟩) ∧ W.heap.size ≤ w'.heap.size ∧ Hid (Kept (fun _ => False) W w')) := fun W => by
     rw [hL]
     refine (rlast W (.string x.q) x.val x.fr x.till x.kn nd.horizon x.op ⟨_, rfl⟩ hxf.1 ⟨hxf.2.1, hxf.2.2, hz⟩).mono fun e w' hp => ?_
     obtain ⟨e1, hb⟩ := hp
     exact ⟨e1, fun b f hbl => World.cell?_of_block (a := ⟨b, f, none⟩) (hb.block b hbl), fun b f hbl => World.frozen?_of_block (a := ⟨b, f, none⟩) (hb.block b hbl), hb.size, Kept.of_below hb _⟩
    obtain ⟨mb, hmb⟩ : ∃ mb, mb = decide (((max sl x.fr : Nat) : Int) ≤ ((min sh L : Nat) : Int)) := ⟨_, rfl⟩
    have HLB : Hid (∀ W, Calls Tryz.prog 95 #[.agg #[.int .u64 (sl : Int), .int .u64 (sh : Int)], .agg #[.int .u64 (x.fr : Int), .int .u64 (L : Int)]] W fun e w' => e = .returned (.tuple #[.agg #[.int .u64 ((max sl x.fr : Nat) : Int), .int .u64 ((min sh L : Nat) : Int)], .bool mb]) ∧ (∀ b f, b < W.heap.size → w'.cell? ⟨b, f, none⟩ = W.cell? ⟨b, f, none⟩) ∧ (∀ b f, b < W.heap.size → w'.frozen? ⟨b, f, none⟩ = W.frozen? ⟨b, f, none⟩) ∧ W.heap.size ≤ w'.heap.size ∧ Hid (Kept (fun _ => False) W w')) := fun W => by
     rw [hmb]
     refine (rboth W sl sh x.fr L).mono fun e w' hp => ?_
     obtain ⟨e1, hb⟩ := hp
     exact ⟨e1, fun b f hbl => World.cell?_of_block (a := ⟨b, f, none⟩) (hb.block b hbl), fun b f hbl => World.frozen?_of_block (a := ⟨b, f, none⟩) (hb.block b hbl), hb.size, Kept.of_below hb _⟩
    have HM : Hid (x.q = q → (mb = true ↔ meetsE nd.horizon q sl sh x)) := by
     intro hq
     rw [hmb, hL, decide_eq_true_iff]
     exact ⟨fun h => ⟨hq, by omega⟩, fun h => by have := h.2; omega⟩
    generalize max sl x.fr = m1 at *
    generalize min sh L = m2 at *
    have hws : w.heap.size + 1 < wr.heap.size := HB.out.2.2.lt
    have hgs : ge < wr.heap.size := World.block_lt_of_cell? wr _ x0
    clear hx hx' hxf hL hmb
    go_wp2_with fail
    have HW : Hid (Kept (fun _ => False) wr (wr.alloc (.cells #[.string x.q, .int .i32 x.val, .int .u64 (x.fr : Int), .int .u64 (x.till : Int), .bool x.op, .int .u64 (x.kn : Int)] 55)) ∧ Blk (wr.alloc (.cells #[.string x.q, .int .i32 x.val, .int .u64 (x.fr : Int), .int .u64 (x.till : Int), .bool x.op, .int .u64 (x.kn : Int)] 55)) wr.heap.size 55 (entA x)) := ⟨Kept.alloc _ _ _, Blk.new _ _ _⟩
    generalize wr.alloc (.cells #[.string x.q, .int .i32 x.val, .int .u64 (x.fr : Int), .int .u64 (x.till : Int), .bool x.op, .int .u64 (x.kn : Int)] 55) = W at HW ⊢
    have e0 : W.cell? ⟨wr.heap.size, 0, none⟩ = some (.string x.q) := HW.out.2.cell 0
    have e1 : W.cell? ⟨wr.heap.size, 1, none⟩ = some (.int .i32 x.val) := HW.out.2.cell 1
    have e2 : W.cell? ⟨wr.heap.size, 2, none⟩ = some (.int .u64 (x.fr : Int)) := HW.out.2.cell 2
    have e3 : W.cell? ⟨wr.heap.size, 3, none⟩ = some (.int .u64 (x.till : Int)) := HW.out.2.cell 3
    have e4 : W.cell? ⟨wr.heap.size, 4, none⟩ = some (.bool x.op) := HW.out.2.cell 4
    have e5 : W.cell? ⟨wr.heap.size, 5, none⟩ = some (.int .u64 (x.kn : Int)) := HW.out.2.cell 5
    have n2 : W.cell? ⟨w.heap.size, 2, none⟩ = some (.int .u64 (nd.horizon : Int)) := HW.out.1.hold (HB.out.2.1.cell 2)
    have p0 : W.cell? ⟨w.heap.size + 1, 0, none⟩ = some (.int .u64 (sl : Int)) := HW.out.1.hold (HB.out.2.2.cell 0)
    have p1 : W.cell? ⟨w.heap.size + 1, 1, none⟩ = some (.int .u64 (sh : Int)) := HW.out.1.hold (HB.out.2.2.cell 1)
    have z1 : wr.heap.size < W.heap.size := HW.out.2.lt
    have z2 : w.heap.size < W.heap.size := by omega
    have z3 : w.heap.size + 1 < W.heap.size := by omega
    have t1 : wr.heap.size ≠ W.heap.size := by omega
    have t2 : w.heap.size ≠ W.heap.size := by omega
    have t3 : w.heap.size + 1 ≠ W.heap.size := by omega
    have t4 := t1.symm
    have t5 := t2.symm
    have t6 := t3.symm
    clear x0 x1 x2 x3 x4 x5 d5
    go_cut [10, 11] (fun _ v wx => v = .bool mb ∧ Hid (Kept (fun _ => False) W wx))
    case first =>
     go_region_held3 (fun w' => w'.cell? ⟨wr.heap.size, 0, none⟩ = some (.string x.q) ∧ w'.cell? ⟨wr.heap.size, 1, none⟩ = some (.int .i32 x.val) ∧ w'.cell? ⟨wr.heap.size, 2, none⟩ = some (.int .u64 (x.fr : Int)) ∧ w'.cell? ⟨wr.heap.size, 3, none⟩ = some (.int .u64 (x.till : Int)) ∧ w'.cell? ⟨wr.heap.size, 4, none⟩ = some (.bool x.op) ∧ w'.cell? ⟨wr.heap.size, 5, none⟩ = some (.int .u64 (x.kn : Int)) ∧ w'.cell? ⟨w.heap.size, 2, none⟩ = some (.int .u64 (nd.horizon : Int)) ∧ w'.cell? ⟨w.heap.size + 1, 0, none⟩ = some (.int .u64 (sl : Int)) ∧ w'.cell? ⟨w.heap.size + 1, 1, none⟩ = some (.int .u64 (sh : Int))) (first | exact ⟨hold_al b0, hold_al b1, hold_al b2, hold_al b3, hold_al b4, hold_al b5, hold_al b6, hold_al b7, hold_al b8⟩ | exact ⟨b0, b1, b2, b3, b4, b5, b6, b7, b8⟩ | exact ⟨a0, a1, a2, a3, a4, a5, a6, a7, a8⟩ | exact ⟨hold_al a0, hold_al a1, hold_al a2, hold_al a3, hold_al a4, hold_al a5, hold_al a6, hold_al a7, hold_al a8⟩ | exact ⟨hold_set2 y1 b0, hold_set2 y1 b1, hold_set2 y1 b2, hold_set2 y1 b3, hold_set2 y1 b4, hold_set2 y1 b5, hold_set2 y2 b6, hold_set2 y3 b7, hold_set2 y3 b8⟩ | exact ⟨hold_set2 z1 b0, hold_set2 z1 b1, hold_set2 z1 b2, hold_set2 z1 b3, hold_set2 z1 b4, hold_set2 z1 b5, hold_set2 z2 b6, hold_set2 z3 b7, hold_set2 z3 b8⟩ | go_keep) (first
      | (go_at_call 96; refine (HLA.out _).mono ?_; rintro e wa ⟨rfl, ca, fa, sa, HKa⟩; have za : W.heap.size ≤ wa.heap.size := (by first | exact HKa.out.size | exact Nat.le_trans (Nat.le_succ _) (by simpa using HKa.out.size)); (try have q1 : W.heap.size < wa.heap.size := (size_al sa)); have y1 : wr.heap.size < wa.heap.size := (by omega); have y2 : w.heap.size < wa.heap.size := (by omega); have y3 : w.heap.size + 1 < wa.heap.size := (by omega); have a0 := HKa.out.hold (by first | exact e0 | exact hold_al e0); have a1 := HKa.out.hold (by first | exact e1 | exact hold_al e1); have a2 := HKa.out.hold (by first | exact e2 | exact hold_al e2); have a3 := HKa.out.hold (by first | exact e3 | exact hold_al e3); have a4 := HKa.out.hold (by first | exact e4 | exact hold_al e4); have a5 := HKa.out.hold (by first | exact e5 | exact hold_al e5); have a6 := HKa.out.hold (by first | exact n2 | exact hold_al n2); have a7 := HKa.out.hold (by first | exact p0 | exact hold_al p0); have a8 := HKa.out.hold (by first | exact p1 | exact hold_al p1))
      | (go_at_call 95; refine (HLB.out _).mono ?_; rintro e wb ⟨rfl, cb, fb, sb, HKb⟩; have b0 := HKb.out.hold (by first | exact a0 | exact hold_al a0); have b1 := HKb.out.hold (by first | exact a1 | exact hold_al a1); have b2 := HKb.out.hold (by first | exact a2 | exact hold_al a2); have b3 := HKb.out.hold (by first | exact a3 | exact hold_al a3); have b4 := HKb.out.hold (by first | exact a4 | exact hold_al a4); have b5 := HKb.out.hold (by first | exact a5 | exact hold_al a5); have b6 := HKb.out.hold (by first | exact a6 | exact hold_al a6); have b7 := HKb.out.hold (by first | exact a7 | exact hold_al a7); have b8 := HKb.out.hold (by first | exact a8 | exact hold_al a8)))
     all_goals
      go_wp2
      go_meet
      case rel => exact ⟨rfl, kchain (by first | exact Kept.refl _ _ | exact (Kept.refl _ _).drew | exact (Kept.refl _ _).drew.trans (Kept.alloc _ _ (fun _ => False)) (fun _ => id) (fun _ _ => id)) HKa.out (by first | exact Kept.refl _ _ | exact (Kept.refl _ _).drew | exact Kept.alloc _ _ _ | exact (Kept.refl _ _).drew.trans (Kept.alloc _ _ (fun _ => False)) (fun _ => id) (fun _ _ => id)) HKb.out (by first | exact Kept.alloc _ _ _ | exact kset2 za | exact kset2 (Nat.le_refl _) | exact (Kept.alloc _ _ _).drew | exact (kset2 za).drew)⟩
    case rest =>
     obtain ⟨rfl, HK⟩ := hcut
     have HKB : Hid (Kept (fun _ => False) w wc ∧ Blk wc w.heap.size 146 #[.bool nd.up, .int .u64 (nd.since : Int), .int .u64 (nd.horizon : Int), fl, wt, .slice (some ⟨ge, 0, none⟩) nd.ents.length ce, nm] ∧ Blk wc (w.heap.size + 1) 88 #[.int .u64 sl, .int .u64 sh]) := by
      have kk := HW.out.1.trans HK.out (H := fun _ => False) (fun _ => id) (fun _ _ => id)
      exact ⟨HB.out.1.trans kk (fun _ => id) (fun _ _ => id), HB.out.2.1.kept kk id, HB.out.2.2.kept kk id⟩
     have u0 : wc.cell? ⟨w.heap.size, 0, none⟩ = some (.bool nd.up) := HKB.out.2.1.cell 0
     have u5 : wc.cell? ⟨w.heap.size, 5, none⟩ = some (.slice (some ⟨ge, 0, none⟩) nd.ents.length ce) := HKB.out.2.1.cell 5
     have g0 : wc.cell? ⟨wr.heap.size, 0, none⟩ = some (.string x.q) := HK.out.hold e0
     have g2 : wc.cell? ⟨wr.heap.size, 2, none⟩ = some (.int .u64 (x.fr : Int)) := HK.out.hold e2
     clear e0 e1 e2 e3 e4 e5 n2 p0 p1 z1 z2 z3 t1 t2 t3 t4 t5 t6 HK HLA HLB
     rcases Bool.eq_false_or_eq_true nd.up with hup | hup
     rotate_left
     · rw [hup] at u0
       have HN : Hid (A (i + 1) = A i) := by show _ = _; rw [HS.out, if_neg (by rw [hup]; simp)]
       clear hup
       go_wp2_with fail
       go_quiet (fail)
       go_wp2
       go_roundw
       case rel => exact ⟨i + 1, by omega, by go_num, by rw [HN.out], HKB.out.1.drewN _, HKB.out.2.1.same rfl, HKB.out.2.2.same rfl⟩
       case measure => simp [intOf]; omega
     · rw [hup] at u0
       by_cases hq : x.q = q
       · have hqb : (x.q.toList == q.toList) = true := by rw [hq]; exact beq_self_eq_true _
         cases hmb : mb with
         | false =>
          have HN : Hid (A (i + 1) = A i) := by
           show _ = _
           rw [HS.out, if_neg]
           rintro ⟨_, hm, _⟩
           have := (HM.out hq).mpr hm
           rw [hmb] at this; cases this
          clear hup hq hmb
          go_wp2_with fail
          go_quiet (fail)
          go_wp2
          go_roundw
          case rel => exact ⟨i + 1, by omega, by go_num, by rw [HN.out], HKB.out.1.drewN _, HKB.out.2.1.same rfl, HKB.out.2.2.same rfl⟩
          case measure => simp [intOf]; omega
         | true =>
          have hm := (HM.out hq).mp hmb
          by_cases ha : A i < 0
          · have hd : decide (A i < 0) = true := by simpa using ha
            have HN : Hid (A (i + 1) = (i : Int)) := by show _ = _; rw [HS.out, if_pos ⟨hup, hm, .inl ha⟩]
            clear hup hq hmb hm
            generalize A i = r at *
            go_wp2_with fail
            go_quiet (fail)
            go_wp2
            go_roundw
            case rel => exact ⟨i + 1, by omega, by go_num, by rw [HN.out], HKB.out.1.drewN _, HKB.out.2.1.same rfl, HKB.out.2.2.same rfl⟩
            case measure => simp [intOf]; omega
          · obtain ⟨j, hj⟩ : ∃ j : Nat, A i = j := ⟨(A i).toNat, by omega⟩
            have hjl : j < nd.ents.length := by omega
            obtain ⟨y, hy⟩ : ∃ y, y = nd.ents[j] := ⟨_, rfl⟩
            have hy' : nd.ents[j]? = some y := by rw [hy]; exact List.getElem?_eq_getElem hjl
            have y2 : wc.cell? ⟨ge, j * 6 + 2, none⟩ = some (.int .u64 (y.fr : Int)) := HKB.out.1.hold ((HE.out j hjl 2 (by omega)).trans (by rw [← hy]; rfl))
            have hj0 : (0 : Int) ≤ (j : Int) := by omega
            have hj1 : (j : Int) < (nd.ents.length : Int) := by omega
            have hd : decide ((j : Int) < 0) = false := by simp
            have hst := HS.out
            rw [hj, Int.toNat_natCast, hy'] at hst
            rw [hj]
            by_cases hxy : y.fr < x.fr
            · have HN : Hid (A (i + 1) = (i : Int)) := by show _ = _; rw [hst, if_pos ⟨hup, hm, .inr ⟨y, rfl, hxy⟩⟩]
              have hd1 : decide ((y.fr : Int) < (x.fr : Int)) = true := by simpa using hxy
              clear hup hq hmb hm hst hy hy' hj ha
              go_wp2_with fail
              go_quiet (fail)
              go_wp2
              go_roundw
              case rel => exact ⟨i + 1, by omega, by go_num, by rw [HN.out], HKB.out.1.drewN _, HKB.out.2.1.same rfl, HKB.out.2.2.same rfl⟩
              case measure => simp [intOf]; omega
            · have HN : Hid (A (i + 1) = (j : Int)) := by
               show _ = _
               rw [hst, if_neg]
               rintro ⟨_, _, h1 | ⟨y1, h1, h2⟩⟩
               · omega
               · injection h1 with h1; subst h1; exact hxy h2
              have hd1 : decide ((y.fr : Int) < (x.fr : Int)) = false := by simpa using hxy
              clear hup hq hmb hm hst hy hy' hj ha
              go_wp2_with fail
              go_quiet (fail)
              go_wp2
              go_roundw
              case rel => exact ⟨i + 1, by omega, by go_num, by rw [HN.out], HKB.out.1.drewN _, HKB.out.2.1.same rfl, HKB.out.2.2.same rfl⟩
              case measure => simp [intOf]; omega
       · have hqb : (x.q.toList == q.toList) = false := beq_eq_false_iff_ne.mpr fun h => hq (bytes_inj h)
         have HN : Hid (A (i + 1) = A i) := by
          show _ = _
          rw [HS.out, if_neg]
          rintro ⟨_, ⟨h1, _⟩, _⟩
          exact hq h1
         clear hup hq
         go_wp2_with fail
         go_quiet (fail)
         go_wp2
         go_roundw
         case rel => exact ⟨i + 1, by omega, by go_num, by rw [HN.out], HKB.out.1.drewN _, HKB.out.2.1.same rfl, HKB.out.2.2.same rfl⟩
         case measure => simp [intOf]; omega
  · have hin : i = nd.ents.length := by omega
    subst hin
    go_wp2
    go_ret
    exact ⟨rfl, HB.out.1⟩
abbrev set6 (W : World) (P o : Nat) (e : EntE) : World :=
 (((((W.setCell ⟨P, o, none⟩ (.string e.q)).setCell ⟨P, o + 1, none⟩ (.int .i32 e.val)).setCell ⟨P, o + 2, none⟩ (.int .u64 (e.fr : Int))).setCell ⟨P, o + 3, none⟩ (.int .u64 (e.till : Int))).setCell ⟨P, o + 4, none⟩ (.bool e.op)).setCell ⟨P, o + 5, none⟩ (.int .u64 (e.kn : Int))
theorem set6_kept (W : World) (P o : Nat) (e : EntE) : Kept (fun k => k = P) W (set6 W P o e) := by
 have st : ∀ (a : World) (f : Nat) (v : Value), Kept (fun k => k = P) W a → Kept (fun k => k = P) W (a.setCell ⟨P, f, none⟩ v) := fun a f v ha => ha.trans (Kept.setCell a _ v) (fun _ => id) (fun _ _ hk => hk)
 exact st _ _ _ (st _ _ _ (st _ _ _ (st _ _ _ (st _ _ _ (st _ _ _ (Kept.refl _ _))))))
theorem Blk.set6 {W : World} {P : Nat} {x : EntE} (h : Blk W P 55 (entA x)) (e : EntE) : Blk (set6 W P 0 e) P 55 (entA e) :=
 (((((h.set 0 _).set 1 _).set 2 _).set 3 _).set 4 _).set 5 _
theorem Row.set6 {W : World} {v : Value} {g n j : Nat} {l : List EntE} (h : Row W 55 6 v n (l.flatMap entC)) (hg : v.ownBlock = some g) (hj : j < l.length) (e : EntE) :
 Row (Go.Proofs.YtpfcacedpkaihaaGreat.set6 W g (j * 6) e) 55 6 v n ((l.set j e).flatMap entC) := by
 have s0 := flat_set entC 6 (fun _ => rfl) l j hj 0 (by omega) (.string e.q) { l[j] with q := e.q } rfl
 have r0 := h.set hg (j * 6 + 0) (.string e.q)
 rw [s0] at r0
 have l1 : j < (l.set j { l[j] with q := e.q }).length := by simpa using hj
 have s1 := flat_set entC 6 (fun _ => rfl) _ j l1 1 (by omega) (.int .i32 e.val) { l[j] with q := e.q, val := e.val } (by rw [List.getElem_set_self]; rfl)
 have r1 := r0.set hg (j * 6 + 1) (.int .i32 e.val)
 rw [s1, List.set_set] at r1
 have l2 : j < (l.set j { l[j] with q := e.q, val := e.val }).length := by simpa using hj
 have s2 := flat_set entC 6 (fun _ => rfl) _ j l2 2 (by omega) (.int .u64 (e.fr : Int)) { l[j] with q := e.q, val := e.val, fr := e.fr } (by rw [List.getElem_set_self]; rfl)
 have r2 := r1.set hg (j * 6 + 2) (.int .u64 (e.fr : Int))
 rw [s2, List.set_set] at r2
 have l3 : j < (l.set j { l[j] with q := e.q, val := e.val, fr := e.fr }).length := by simpa using hj
 have s3 := flat_set entC 6 (fun _ => rfl) _ j l3 3 (by omega) (.int .u64 (e.till : Int)) { l[j] with q := e.q, val := e.val, fr := e.fr, till := e.till } (by rw [List.getElem_set_self]; rfl)
 have r3 := r2.set hg (j * 6 + 3) (.int .u64 (e.till : Int))
 rw [s3, List.set_set] at r3
 have l4 : j < (l.set j { l[j] with q := e.q, val := e.val, fr := e.fr, till := e.till }).length := by simpa using hj
 have s4 := flat_set entC 6 (fun _ => rfl) _ j l4 4 (by omega) (.bool e.op) { l[j] with q := e.q, val := e.val, fr := e.fr, till := e.till, op := e.op } (by rw [List.getElem_set_self]; rfl)
 have r4 := r3.set hg (j * 6 + 4) (.bool e.op)
 rw [s4, List.set_set] at r4
 have l5 : j < (l.set j { l[j] with q := e.q, val := e.val, fr := e.fr, till := e.till, op := e.op }).length := by simpa using hj
 have s5 := flat_set entC 6 (fun _ => rfl) _ j l5 5 (by omega) (.int .u64 (e.kn : Int)) e (by rw [List.getElem_set_self]; rfl)
 have r5 := r4.set hg (j * 6 + 5) (.int .u64 (e.kn : Int))
 rw [s5, List.set_set] at r5
 exact r5
structure Storing (w : World) (b : Nat) (R : RefS) (W : World) (R' : RefS) (P : Nat) (p : EntE) : Prop where
 bec : Became w b R W R'
 box : Blk W P 55 (entA p)
 away : ¬ R'.fp b P
theorem Storing.next {w W W2 : World} {b P : Nat} {R R' R2 : RefS} {p : EntE} (h : Storing w b R W R' P p) (h2 : Became W b R' W2 R2) : Storing w b R W2 R2 P p :=
 ⟨h.bec.trans h2, h.box.kept h2.2.1 h.away, fun hp => by
  rcases h2.2.2 P hp with h1 | h1
  · exact h.away h1
  · have := h.box.lt; omega⟩
theorem Became.kept {w w1 : World} {b : Nat} {R : RefS} (h : Ref w b R) (k : Kept (fun _ => False) w w1) : Became w b R w1 R := ⟨h.kept k (fun _ _ => id), k.mono (fun _ => False.elim), fun _ hx => .inl hx⟩
theorem Storing.same {w W W2 : World} {b P : Nat} {R R' : RefS} {p : EntE} (h : Storing w b R W R' P p) (k : Kept (fun _ => False) W W2) : Storing w b R W2 R' P p := h.next (Became.kept h.bec.1 k)
theorem Storing.setBox {w W : World} {b P : Nat} {R R' : RefS} {p : EntE} (h : Storing w b R W R' P p) (hP : w.heap.size ≤ P) (p' : EntE) : Storing w b R (Go.Proofs.YtpfcacedpkaihaaGreat.set6 W P 0 p') R' P p' := by
 have k := set6_kept W P 0 p'
 refine ⟨⟨h.bec.1.kept k fun j hj e => h.away (e ▸ hj), h.bec.2.1.trans k (fun _ => id) (fun i hi e => by omega), h.bec.2.2⟩, h.box.set6 p', h.away⟩
theorem Ref.turnEnts {w w1 : World} {b k : Nat} {R : RefS} {nd : NodeE} (h : Ref w b R) (hnd : R.nodes[k]? = some nd) (l : List EntE) (k1 : Kept (fun j => nd.en.ownBlock = some j) w w1) (hr : Row w1 55 6 nd.en l.length (l.flatMap entC)) : Became w b R w1 (R.putN k (nd.setEnts l nd.en)) := by
 obtain ⟨hk, hnd'⟩ := List.getElem?_eq_some_iff.mp hnd
 have hrn : Row w1 146 7 R.vn R.nodes.length (R.nodes.flatMap nodeC) := h.nodes.kept k1 fun j hj he => by
  have := (h.ents nd (List.mem_of_getElem? hnd)).ne_row h.nodes (by decide) j he
  exact this hj
 refine h.putF hnd (f := 2) (r := ⟨55, 6, nd.en, nd.ents.length, nd.ents.flatMap entC⟩) (r' := ⟨55, 6, nd.en, l.length, l.flatMap entC⟩) (by omega) rfl rfl k1 hr (fun x hx => .inl hx) (Kept.refl _ _) ?_
 rw [List.length_set]
 have e : (R.nodes.set k (nd.setEnts l nd.en)).flatMap nodeC = R.nodes.flatMap nodeC := by
  have := flat_set nodeC 7 (fun _ => rfl) R.nodes k hk 0 (by omega) (.bool nd.up) (nd.setEnts l nd.en) (by rw [hnd']; rfl)
  rw [← this]
  refine List.ext_getElem? fun j => ?_
  rw [List.getElem?_set]
  split
  · rename_i e
    subst e
    split
    · rename_i hlt
      have := flat_at nodeC 7 (fun _ => rfl) R.nodes k hk 0 (by omega)
      rw [hnd'] at this
      exact this.symm
    · rename_i hlt
      exact (List.getElem?_eq_none (by omega)).symm
  · rfl
 rw [e]
 exact hrn
def RefS.pushUse (R : RefS) (x : Int) (v : Value) : RefS := { R with uses := R.uses ++ [x], vs := v }
theorem Ref.pushUse {w w' : World} {b : Nat} {R : RefS} (h : Ref w b R) (x : Int) (v : Value) (hA : Appended w w' 3 1 R.vs v R.uses.length 1 (i64s R.uses) [.int .i64 x]) : Became w b R (w'.setCell ⟨b, 6, none⟩ v) (R.pushUse x v) := by
 have hr : Row w' 3 1 v (R.uses ++ [x]).length (i64s (R.uses ++ [x])) := by
  rw [List.length_append, show i64s (R.uses ++ [x]) = i64s R.uses ++ [.int .i64 x] by simp [i64s]]
  exact hA.row
 exact h.put 4 6 ⟨3, 1, R.vs, R.uses.length, i64s R.uses⟩ ⟨3, 1, v, (R.uses ++ [x]).length, i64s (R.uses ++ [x])⟩ rfl hA.kept hr (fun y hy => by
  rcases hA.own with e | e
  · exact .inl (by rw [← e]; exact hy)
  · exact .inr (e y hy)) rfl (by dsimp only; decide) rfl
theorem Ref.next1 {w : World} {b : Nat} {R : RefS} (h : Ref w b R) (x : Int) : Became w b R (w.setCell ⟨b, 7, none⟩ (.int .i64 x)) { R with next := x } := by
 have k := Kept.setCell w ⟨b, 7, none⟩ (.int .i64 x)
 refine ⟨⟨h.blk.set 7 _, h.all.kept k ?_⟩, k.mono fun j hj => .inl hj, fun _ hx => .inl hx⟩
 rintro j ⟨r, hr, hj⟩ he
 subst he
 exact h.ne r hr hj
theorem Ref.pushEnt {w w1 : World} {b k g : Nat} {R : RefS} {nd : NodeE} (h : Ref w b R) (hnd : R.nodes[k]? = some nd) (ho : R.vn.ownBlock = some g) (p : EntE) (v : Value) (hA : Appended w w1 55 6 nd.en v nd.ents.length 1 (nd.ents.flatMap entC) (entC p)) :
 Became w b R (w1.setCell ⟨g, k * 7 + 5, none⟩ v) (R.putN k (nd.setEnts (nd.ents ++ [p]) v)) :=
 h.setEnts hnd ho _ v hA.kept (by rw [List.length_append, List.flatMap_append, List.flatMap_singleton]; exact hA.row) fun y hy => by
  rcases hA.own with e | e
  · exact .inl (by rw [← e]; exact hy)
  · exact .inr (e y hy)
theorem Ref.pushNm {w w1 : World} {b k g : Nat} {R : RefS} {nd : NodeE} (h : Ref w b R) (hnd : R.nodes[k]? = some nd) (ho : R.vn.ownBlock = some g) (x : Int) (v : Value) (hA : Appended w w1 3 1 nd.nm v nd.nms.length 1 (i64s nd.nms) [.int .i64 x]) :
 Became w b R (w1.setCell ⟨g, k * 7 + 6, none⟩ v) (R.putN k (nd.setNms (nd.nms ++ [x]) v)) :=
 h.setNms hnd ho _ v hA.kept (by rw [List.length_append, show i64s (nd.nms ++ [x]) = i64s nd.nms ++ [.int .i64 x] by simp [i64s]]; exact hA.row) fun y hy => by
  rcases hA.own with e | e
  · exact .inl (by rw [← e]; exact hy)
  · exact .inr (e y hy)
structure RNode where
 up : Bool
 since : Nat
 horizon : Nat
 fls : List Nat
 wts : List Nat
 ents : List EntE
 nms : List Int
def NodeE.p (n : NodeE) : RNode := ⟨n.up, n.since, n.horizon, n.fls, n.wts, n.ents, n.nms⟩
def RTurns (w : World) (b : Nat) (R : RefS) (k : Nat) (p : RNode) (w' : World) : Prop := ∃ nd', nd'.p = p ∧ Became w b R w' (R.putN k nd')
theorem u64s_at {l : List Nat} {j : Nat} (hj : j < l.length) : (u64s l)[j]? = some (.int .u64 (l[j] : Int)) := by
 unfold u64s
 rw [List.getElem?_map, List.getElem?_eq_getElem hj]
 rfl
end Go.Proofs.YtpfcacedpkaihaaGreat
