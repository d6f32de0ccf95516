import Derived.Test.YtpfcacedpkaihaaGreatC26
namespace Go.Proofs.YtpfcacedpkaihaaGreat
open Go.RowKit
set_option maxRecDepth 100000
set_option maxHeartbeats 16000000
def bestC (l : List EntE) : Nat → Int
 | 0 => -1
 | n + 1 => match l[n]? with
  | some x => if x.op = false ∧ (bestC l n < 0 ∨ ∃ y, l[(bestC l n).toNat]? = some y ∧ x.till < y.till) then (n : Int) else bestC l n
  | none => bestC l n
def bestU (uses nms : List Int) : Nat → Nat
 | 0 => 0
 | n + 1 => match nms[n]?, nms[bestU uses nms n]? with
  | some x, some y => if lastN uses x uses.length < lastN uses y uses.length then n else bestU uses nms n
  | _, _ => bestU uses nms n
def goesN (uses : List Int) (nd : NodeE) : Int := if 0 ≤ bestC nd.ents nd.ents.length then bestC nd.ents nd.ents.length else (bestU uses nd.nms nd.ents.length : Int)
theorem bestC_lt (l : List EntE) (n : Nat) : -1 ≤ bestC l n ∧ bestC l n < (n : Int) := by
 induction n with
 | zero => simp [bestC]
 | succ n ih =>
  simp only [bestC]
  split
  · split <;> omega
  · omega
theorem bestU_lt (uses nms : List Int) (n : Nat) : bestU uses nms n = 0 ∨ bestU uses nms n < n := by
 induction n with
 | zero => simp [bestU]
 | succ n ih =>
  simp only [bestU]
  split
  · split <;> omega
  · omega
theorem rgoes (w : World) (b : Nat) (R : RefS) (nd : NodeE) (ae am : Option Addr) (ce cm : Nat) (h : Ref w b R) (hu : R.uses.length ≤ 4611686018427387904) (hve : nd.en = .slice ae nd.ents.length ce) (hvm : nd.nm = .slice am nd.nms.length cm) (hre : Row w 55 6 nd.en nd.ents.length (nd.ents.flatMap entC)) (hrm : Row w 3 1 nd.nm nd.nms.length (i64s nd.nms)) (hl : nd.nms.length = nd.ents.length) (hn : nd.ents.length ≤ 1000) (h1 : 0 < nd.ents.length) :
  Calls Tryz.prog 105 #[.pointer (some ⟨b, 0, none⟩), .agg #[.bool nd.up, .int .u64 (nd.since : Int), .int .u64 (nd.horizon : Int), nd.fl, nd.wt, .slice ae nd.ents.length ce, .slice am nd.nms.length cm]] w fun e w' => e = .returned (.int .i64 (goesN R.uses nd)) ∧ Kept (fun _ => False) w w' := by
 obtain ⟨lu, hlu⟩ : ∃ lu : Int → Int, ∀ x, lu x = lastN R.uses x R.uses.length := ⟨fun x => lastN R.uses x R.uses.length, fun _ => rfl⟩
 have HLU : Hid (∀ W x, Kept (fun _ => False) w W → Calls Tryz.prog 148 #[.pointer (some ⟨b, 0, none⟩), .int .i64 x] W fun e w' => e = .returned (.int .i64 (lu x)) ∧ W = w') := fun W x hW => by rw [hlu]; exact rlastUse W b R x (h.kept hW fun _ _ => id) hu
 have HL2 : Hid (∀ x, lu x = lastN R.uses x R.uses.length) := hlu
 clear hlu
 obtain ⟨ge, cpe, e1, e2, _⟩ := hre.block h1
 rw [hve] at e1
 injection e1 with e1 _ e1c
 subst e1
 subst e1c
 obtain ⟨gm, cpm, e3, e4, _⟩ := hrm.block (by omega)
 rw [hvm] at e3
 injection e3 with e3 _ e3c
 subst e3
 subst e3c
 have HE : Hid (∀ i (hi : i < nd.ents.length), ∀ f, f < 6 → w.cell? ⟨ge, i * 6 + f, none⟩ = (entC nd.ents[i])[f]?) := fun i hi f hf => by
  have hx := flat_at entC 6 (fun _ => rfl) nd.ents i hi f hf
  obtain ⟨u, hu⟩ : ∃ u, (entC nd.ents[i])[f]? = some u := ⟨_, List.getElem?_eq_getElem (show f < 6 from hf)⟩
  rw [hu] at hx
  rw [hu]
  exact hre.cell e2 _ _ hx
 have HM : Hid (∀ i (hi : i < nd.nms.length), w.cell? ⟨gm, i, none⟩ = some (.int .i64 nd.nms[i])) := fun i hi => hrm.cell e4 i _ (by rw [i64s, List.getElem?_map, List.getElem?_eq_getElem hi]; rfl)
 have HLN : Hid (nd.nms.length = nd.ents.length) := hl
 have HGO : Hid (goesN R.uses nd = if 0 ≤ bestC nd.ents nd.ents.length then bestC nd.ents nd.ents.length else (bestU R.uses nd.nms nd.ents.length : Int)) := rfl
 generalize goesN R.uses nd = G at *
 generalize nd.fl = fl at *
 generalize nd.wt = wt at *
 clear h hre hrm hve hvm e2 e4 hl hu
 go_enter Tryz.func105, Tryz.ntmps105
 go_wp2
 go_loopw [5, 6] (fun bv iv wr => ∃ i : Nat, i ≤ nd.ents.length ∧ iv = .int .i64 i ∧ bv = .int .i64 (bestC nd.ents i) ∧ Hid (Kept (fun _ => False) w wr ∧ Blk wr w.heap.size 146 #[.bool nd.up, .int .u64 (nd.since : Int), .int .u64 (nd.horizon : Int), fl, wt, .slice (some ⟨ge, 0, none⟩) nd.ents.length ce, .slice (some ⟨gm, 0, none⟩) nd.nms.length cm])) (fun _ iv _ => nd.ents.length - (intOf iv).toNat)
 case atStart => exact ⟨0, Nat.zero_le _, rfl, rfl, Kept.alloc _ _ _, Blk.new _ _ _⟩
 case round =>
  obtain ⟨i, hi, rfl, rfl, HB⟩ := hrel
  have d5 : wr.cell? ⟨w.heap.size, 5, none⟩ = some (.slice (some ⟨ge, 0, none⟩) nd.ents.length ce) := HB.out.2.cell 5
  by_cases hlt : i < nd.ents.length
  · obtain ⟨x, hx⟩ : ∃ x, x = nd.ents[i] := ⟨_, rfl⟩
   have hx' : nd.ents[i]? = some x := by rw [hx]; exact List.getElem?_eq_getElem hlt
   have x4 : wr.cell? ⟨ge, i * 6 + 4, none⟩ = some (.bool x.op) := HB.out.1.hold ((HE.out i hlt 4 (by omega)).trans (by rw [← hx]; rfl))
   have x3 : wr.cell? ⟨ge, i * 6 + 3, none⟩ = some (.int .u64 (x.till : Int)) := HB.out.1.hold ((HE.out i hlt 3 (by omega)).trans (by rw [← hx]; rfl))
   have hi0 : (0 : Int) ≤ (i : Int) := by omega
   have hi1 : (i : Int) < (nd.ents.length : Int) := by omega
   have hbl := bestC_lt nd.ents i
   have hstep : bestC nd.ents (i + 1) = if x.op = false ∧ (bestC nd.ents i < 0 ∨ ∃ y, nd.ents[(bestC nd.ents i).toNat]? = some y ∧ x.till < y.till) then (i : Int) else bestC nd.ents i := by rw [bestC, hx']
   cases hop : x.op with
   | true =>
    rw [hop] at x4
    have HS : Hid (bestC nd.ents (i + 1) = bestC nd.ents i) := by show _ = _; rw [hstep, if_neg (by rw [hop]; simp)]
    clear hstep hx hx' hop x3 hbl
    generalize bestC nd.ents i = q at *
    go_wp2_with fail
    go_quiet (fail)
    go_wp2
    go_roundw
    case rel => exact ⟨i + 1, by omega, by go_num, by rw [HS.out], HB.out.1.drewN _, HB.out.2.same rfl⟩
    case measure => simp [intOf]; omega
   | false =>
    rw [hop] at x4
    by_cases hq : bestC nd.ents i < 0
    · have HS : Hid (bestC nd.ents (i + 1) = (i : Int)) := by show _ = _; rw [hstep, if_pos ⟨hop, .inl hq⟩]
     have hd : decide (bestC nd.ents i < 0) = true := by simpa using hq
     clear hstep hx hx' hop x3 hbl
     generalize bestC nd.ents i = q at *
     go_wp2_with fail
     go_quiet (fail)
     go_wp2
     go_roundw
     case rel => exact ⟨i + 1, by omega, by go_num, by rw [HS.out], HB.out.1.drewN _, HB.out.2.same rfl⟩
     case measure => simp [intOf]; omega
    · obtain ⟨j, hj⟩ : ∃ j : Nat, bestC nd.ents i = j := ⟨(bestC nd.ents i).toNat, by omega⟩
     have hjl : j < nd.ents.length := by omega
     obtain ⟨y, hy⟩ : ∃ y, y = nd.ents[j] := ⟨_, rfl⟩
     have hy' : nd.ents[j]? = some y := by rw [hy]; exact List.getElem?_eq_getElem hjl
     have y3 : wr.cell? ⟨ge, j * 6 + 3, none⟩ = some (.int .u64 (y.till : Int)) := HB.out.1.hold ((HE.out j hjl 3 (by omega)).trans (by rw [← hy]; rfl))
     have hj0 : (0 : Int) ≤ (j : Int) := by omega
     have hj1 : (j : Int) < (nd.ents.length : Int) := by omega
     have hd : decide ((j : Int) < 0) = false := by simp
     rw [hj, Int.toNat_natCast, hy'] at hstep
     rw [hj]
     by_cases hxy : x.till < y.till
     · have HS : Hid (bestC nd.ents (i + 1) = (i : Int)) := by show _ = _; rw [hstep, if_pos ⟨hop, .inr ⟨y, rfl, hxy⟩⟩]
      have hd2 : decide ((x.till : Int) < (y.till : Int)) = true := by simpa using hxy
      clear hstep hx hx' hop hbl hy hy' hj hq
      go_wp2_with fail
      go_quiet (fail)
      go_wp2
      go_roundw
      case rel => exact ⟨i + 1, by omega, by go_num, by rw [HS.out], HB.out.1.drewN _, HB.out.2.same rfl⟩
      case measure => simp [intOf]; omega
     · have HS : Hid (bestC nd.ents (i + 1) = (j : Int)) := by
       show _ = _
       rw [hstep, if_neg]
       rintro ⟨_, h1 | ⟨y', e, h2⟩⟩
       · omega
       · injection e with e; subst e; exact hxy h2
      have hd2 : decide ((x.till : Int) < (y.till : Int)) = false := by simpa using hxy
      clear hstep hx hx' hop hbl hy hy' hj hq
      go_wp2_with fail
      go_quiet (fail)
      go_wp2
      go_roundw
      case rel => exact ⟨i + 1, by omega, by go_num, by rw [HS.out], HB.out.1.drewN _, HB.out.2.same rfl⟩
      case measure => simp [intOf]; omega
  · have hii : i = nd.ents.length := by omega
   subst hii
   by_cases hq : 0 ≤ bestC nd.ents nd.ents.length
   · have hd : decide (0 ≤ bestC nd.ents nd.ents.length) = true := by simpa using hq
    have HG : Hid (G = bestC nd.ents nd.ents.length) := by show _ = _; rw [HGO.out, if_pos hq]
    go_wp2
    go_ret
    refine ⟨?_, HB.out.1⟩
    rw [HG.out]
    rfl
   · have hd : decide (0 ≤ bestC nd.ents nd.ents.length) = false := by simpa using hq
    have HG : Hid (G = (bestU R.uses nd.nms nd.ents.length : Int)) := by show _ = _; rw [HGO.out, if_neg hq]
    clear hq
    go_wp2
    go_loopw [5, 7] (fun bv iv wr => ∃ i : Nat, i ≤ nd.ents.length ∧ iv = .int .i64 i ∧ bv = .int .i64 (bestU R.uses nd.nms i : Int) ∧ Hid (Kept (fun _ => False) w wr ∧ Blk wr w.heap.size 146 #[.bool nd.up, .int .u64 (nd.since : Int), .int .u64 (nd.horizon : Int), fl, wt, .slice (some ⟨ge, 0, none⟩) nd.ents.length ce, .slice (some ⟨gm, 0, none⟩) nd.nms.length cm])) (fun _ iv _ => nd.ents.length - (intOf iv).toNat)
    case atStart => exact ⟨0, Nat.zero_le _, rfl, rfl, HB⟩
    case round =>
     obtain ⟨i, hi, rfl, rfl, HB2⟩ := hrel
     have d5' : wr.cell? ⟨w.heap.size, 5, none⟩ = some (.slice (some ⟨ge, 0, none⟩) nd.ents.length ce) := HB2.out.2.cell 5
     have d6' : wr.cell? ⟨w.heap.size, 6, none⟩ = some (.slice (some ⟨gm, 0, none⟩) nd.nms.length cm) := HB2.out.2.cell 6
     by_cases hlt : i < nd.ents.length
     · have hln := HLN.out
      have hb := bestU_lt R.uses nd.nms i
      have hil : i < nd.nms.length := by omega
      have hbl : bestU R.uses nd.nms i < nd.nms.length := by omega
      have x0 : wr.cell? ⟨gm, i, none⟩ = some (.int .i64 nd.nms[i]) := HB2.out.1.hold (HM.out i hil)
      have y0 : wr.cell? ⟨gm, bestU R.uses nd.nms i, none⟩ = some (.int .i64 nd.nms[bestU R.uses nd.nms i]) := HB2.out.1.hold (HM.out _ hbl)
      have HST : Hid (bestU R.uses nd.nms (i + 1) = if lu nd.nms[i] < lu nd.nms[bestU R.uses nd.nms i] then i else bestU R.uses nd.nms i) := by
       show _ = _
       rw [bestU, List.getElem?_eq_getElem hil, List.getElem?_eq_getElem hbl, HL2.out, HL2.out]
      generalize nd.nms[i] = x at *
      generalize nd.nms[bestU R.uses nd.nms i] = y at *
      have hi0 : (0 : Int) ≤ (i : Int) := by omega
      have hi1 : (i : Int) < (nd.nms.length : Int) := by omega
      have hb0 : (0 : Int) ≤ (bestU R.uses nd.nms i : Int) := by omega
      have hb1 : (bestU R.uses nd.nms i : Int) < (nd.nms.length : Int) := by omega
      clear hln hb hil hbl
      generalize bestU R.uses nd.nms i = q at *
      by_cases hxy : lu x < lu y
      · have hd2 : decide (lu x < lu y) = true := by simpa using hxy
       have HS : Hid (bestU R.uses nd.nms (i + 1) = i) := by show _ = _; rw [HST.out, if_pos hxy]
       clear HST hxy
       go_wp2_with (go_at_call 148; refine (HLU.out _ _ HB2.out.1).mono ?_; rintro e w' ⟨rfl, rfl⟩)
       go_roundw
       case rel => exact ⟨i + 1, by omega, by go_num, by rw [HS.out], HB2⟩
       case measure => simp [intOf]; omega
      · have hd2 : decide (lu x < lu y) = false := by simpa using hxy
       have HS : Hid (bestU R.uses nd.nms (i + 1) = q) := by show _ = _; rw [HST.out, if_neg hxy]
       clear HST hxy
       go_wp2_with (go_at_call 148; refine (HLU.out _ _ HB2.out.1).mono ?_; rintro e w' ⟨rfl, rfl⟩)
       go_roundw
       case rel => exact ⟨i + 1, by omega, by go_num, by rw [HS.out], HB2⟩
       case measure => simp [intOf]; omega
     · have hii : i = nd.ents.length := by omega
      subst hii
      go_wp2
      go_ret
      refine ⟨?_, HB2.out.1⟩
      rw [HG.out]
      rfl
end Go.Proofs.YtpfcacedpkaihaaGreat
