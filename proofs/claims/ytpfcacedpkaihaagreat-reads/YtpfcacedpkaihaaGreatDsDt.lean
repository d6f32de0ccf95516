import Derived.Test.YtpfcacedpkaihaaGreatDqDr
import Derived.Deep.RegionHeld3
/- The program's nodes (package memory): same, latest, leastWorth, walked. -/
namespace Go.Proofs.YtpfcacedpkaihaaGreat
open Go.RowKit

/-- an entry's cells in a world that a call has left as it was. -/
theorem Dev.block_of {w : World} {b k j : Nat} {D : DevS} {nd : DNodeE} (h : Dev w b D) (hnd : D.nodes[k]? = some nd) (hj : j < nd.p.ents.length) : ∃ ge cap, nd.en = .slice (some ⟨ge, 0, none⟩) nd.p.ents.length cap ∧ nd.en.ownBlock = some ge := by
  obtain ⟨ge, cap, e1, e2, _⟩ := (h.ents nd (List.mem_of_getElem? hnd)).block (by omega)
  exact ⟨ge, cap, e1, e2⟩

theorem drew_cell0 {w : World} {a : Addr} {v : Value} (h : w.cell? a = some v) : w.drew.cell? a = some v := h
theorem kdrew1 {W w : World} (h : Kept (fun _ => False) W.drew w) : Kept (fun _ => False) W w := ((Kept.refl (fun _ => False) W).drew).trans h (fun _ => id) (fun _ _ => id)
theorem Kept.hold' {w w' : World} (h : Kept (fun _ => False) w w') {a : Addr} {l : List Value} {f : Nat} (hc : w.cell? a = l[f]?) (hf : f < l.length) : w'.cell? a = l[f]? := by
  rw [List.getElem?_eq_getElem hf] at hc ⊢
  exact h.hold hc

def DSamePost (w : World) (nd : DNodeE) (p : EntE) (e : Ending) (w' : World) : Prop := Kept (fun _ => False) w w' ∧
  (((∀ (t : Nat) (y : HeldE), nd.p.ents[t]? = some y → ¬ sameE y.e p) ∧ e = .returned (.pointer none)) ∨
   (∃ (j : Nat) (x : HeldE) (ge : Nat), nd.p.ents[j]? = some x ∧ nd.en.ownBlock = some ge ∧ sameE x.e p ∧ (∀ (t : Nat) (y : HeldE), t < j → nd.p.ents[t]? = some y → ¬ sameE y.e p) ∧ e = .returned (.pointer (some ⟨ge, j * 7, none⟩))))

theorem hnot_next {l : List HeldE} {p : EntE} {x : HeldE} {j : Nat} (h : ∀ (t : Nat) (y : HeldE), t < j → l[t]? = some y → ¬ sameE y.e p) (hx : l[j]? = some x) (hn : ¬ sameE x.e p) : ∀ (t : Nat) (y : HeldE), t < j + 1 → l[t]? = some y → ¬ sameE y.e p := by
  intro t y ht hy
  by_cases e : t = j
  · subst e; rw [hx] at hy; injection hy with hy; subst hy; exact hn
  · exact h t y (by omega) hy

set_option maxRecDepth 100000 in
set_option maxHeartbeats 1000000 in
theorem dsame (w : World) (b k g : Nat) (D : DevS) (nd : DNodeE) (p : EntE) (h : Dev w b D) (hnd : D.nodes[k]? = some nd) (ho : D.vn.ownBlock = some g) (hn : nd.p.ents.length ≤ 1000) :
    Calls Tryz.prog 143 #[.pointer (some ⟨g, k * 8, none⟩), .agg #[.string p.q, .int .i32 p.val, .int .u64 (p.fr : Int), .int .u64 (p.till : Int), .bool p.op, .int .u64 (p.kn : Int)]] w fun e w' => DSamePost w nd p e w' := by
  obtain ⟨ae, ce, hve, _⟩ := (h.ents nd (List.mem_of_getElem? hnd)).form
  have c4 : w.cell? ⟨g, k * 8 + 5, none⟩ = some nd.en := h.nodeC hnd ho 5 (by omega) _ rfl
  rw [hve] at c4
  have HE : Hid (∀ j (hj : j < nd.p.ents.length), ∃ ge, ae = some ⟨ge, 0, none⟩ ∧ nd.en.ownBlock = some ge ∧ w.cell? ⟨ge, j * 7, none⟩ = some (.string nd.p.ents[j].e.q) ∧ w.cell? ⟨ge, j * 7 + 2, none⟩ = some (.int .u64 (nd.p.ents[j].e.fr : Int))) := fun j hj => by
    obtain ⟨ge, cap, e1, e2⟩ := h.block_of hnd hj
    rw [hve] at e1
    injection e1 with e1 e1b e1c
    have hx : nd.p.ents[j]? = some nd.p.ents[j] := List.getElem?_eq_getElem hj
    exact ⟨ge, e1, e2, h.heldC hnd e2 hx 0 (by omega) _ rfl, h.heldC hnd e2 hx 2 (by omega) _ rfl⟩
  have c4a : ∀ o : Obj, (w.alloc o).cell? ⟨g, k * 8 + 5, none⟩ = some (.slice ae nd.p.ents.length ce) := fun o => hold_al c4
  clear h hnd ho hve
  go_enter Tryz.func143, Tryz.ntmps143
  go_wp2
  go_loopw [12] (fun jv wr => ∃ j : Nat, j ≤ nd.p.ents.length ∧ jv = .int .i64 j ∧ Hid ((∀ (t : Nat) (y : HeldE), t < j → nd.p.ents[t]? = some y → ¬ sameE y.e p) ∧ Kept (fun _ => False) w wr ∧ Blk wr w.heap.size 55 (entA p))) (fun jv _ => nd.p.ents.length - (intOf jv).toNat)
  case atStart => exact ⟨0, Nat.zero_le _, rfl, fun t y ht => absurd ht (Nat.not_lt_zero _), Kept.alloc _ _ _, Blk.new _ _ _⟩
  case round =>
    obtain ⟨j, hj, rfl, HL⟩ := hrel
    have d4 := HL.out.2.1.hold c4
    have y0 : wr.cell? ⟨w.heap.size, 0, none⟩ = some (.string p.q) := HL.out.2.2.cell 0
    have y2 : wr.cell? ⟨w.heap.size, 2, none⟩ = some (.int .u64 (p.fr : Int)) := HL.out.2.2.cell 2
    by_cases hlt : j < nd.p.ents.length
    · obtain ⟨ge, hae, hown, z0, z2⟩ := HE.out j hlt
      obtain ⟨x, hx⟩ : ∃ x, x = nd.p.ents[j] := ⟨_, rfl⟩
      rw [← hx] at z0 z2
      have HX : Hid (nd.p.ents[j]? = some x ∧ nd.en.ownBlock = some ge) := ⟨by rw [hx]; exact List.getElem?_eq_getElem hlt, hown⟩
      have x0 := HL.out.2.1.hold z0
      have x2 := HL.out.2.1.hold z2
      have hj0 : (0 : Int) ≤ (j : Int) := by omega
      have hj1 : (j : Int) < (nd.p.ents.length : Int) := by omega
      clear hx z0 z2 hown
      subst hae
      by_cases hq1 : x.e.q = p.q
      · have hqb : (x.e.q.toList == p.q.toList) = true := by rw [hq1]; exact beq_self_eq_true _
        by_cases hfr : x.e.fr = p.fr
        · have HSM : Hid (sameE x.e p) := ⟨hq1, hfr⟩
          have hfb : ((x.e.fr : Int) == (p.fr : Int)) = true := by rw [hfr]; exact beq_self_eq_true _
          clear hq1 hfr
          go_wp2_with fail
          go_quiet (fail)
          go_wp2
          go_ret
          exact ⟨HL.out.2.1.drewN _, .inr ⟨j, x, ge, HX.out.1, HX.out.2, HSM.out, HL.out.1, rfl⟩⟩
        · have hfb : ((x.e.fr : Int) == (p.fr : Int)) = false := beq_eq_false_iff_ne.mpr fun e => hfr (by omega)
          have HNS : Hid (¬ sameE x.e p) := fun h => hfr h.2
          clear hq1 hfr
          go_wp2_with fail
          go_quiet (fail)
          go_wp2
          go_roundw
          case rel => exact ⟨j + 1, by omega, by go_num, hnot_next HL.out.1 HX.out.1 HNS.out, HL.out.2.1.drewN _, HL.out.2.2.same rfl⟩
          case measure => simp [intOf]; omega
      · have hqb : (x.e.q.toList == p.q.toList) = false := beq_eq_false_iff_ne.mpr fun h => hq1 (bytes_inj h)
        have HNS : Hid (¬ sameE x.e p) := fun h => hq1 h.1
        clear hq1
        go_wp2_with fail
        go_quiet (fail)
        go_wp2
        go_roundw
        case rel => exact ⟨j + 1, by omega, by go_num, hnot_next HL.out.1 HX.out.1 HNS.out, HL.out.2.1.drewN _, HL.out.2.2.same rfl⟩
        case measure => simp [intOf]; omega
    · have hjn : j = nd.p.ents.length := by omega
      have HALL : Hid (∀ (t : Nat) (y : HeldE), nd.p.ents[t]? = some y → ¬ sameE y.e p) := fun t y hy => HL.out.1 t y (by have := (List.getElem?_eq_some_iff.mp hy).1; omega) hy
      subst hjn
      go_wp2
      go_ret
      exact ⟨HL.out.2.1, .inl ⟨HALL.out, rfl⟩⟩

theorem heldBlk {w : World} {ge o : Nat} {x : HeldE} (h : ∀ f, f < 7 → w.cell? ⟨ge, o + f, none⟩ = (Go.Proofs.YtpfcacedpkaihaaGreat.heldC x)[f]?) : w.cell? ⟨ge, o, none⟩ = some (.string x.e.q) ∧ w.cell? ⟨ge, o + 1, none⟩ = some (.int .i32 x.e.val) ∧ w.cell? ⟨ge, o + 2, none⟩ = some (.int .u64 (x.e.fr : Int)) ∧ w.cell? ⟨ge, o + 3, none⟩ = some (.int .u64 (x.e.till : Int)) ∧ w.cell? ⟨ge, o + 4, none⟩ = some (.bool x.e.op) ∧ w.cell? ⟨ge, o + 5, none⟩ = some (.int .u64 (x.e.kn : Int)) ∧ w.cell? ⟨ge, o + 6, none⟩ = some (.int .u64 (x.used : Int)) :=
  ⟨h 0 (by omega), h 1 (by omega), h 2 (by omega), h 3 (by omega), h 4 (by omega), h 5 (by omega), h 6 (by omega)⟩

set_option maxRecDepth 100000 in
set_option maxHeartbeats 1000000 in
theorem dleast (w : World) (b k g : Nat) (D : DevS) (nd : DNodeE) (h : Dev w b D) (hnd : D.nodes[k]? = some nd) (ho : D.vn.ownBlock = some g) (hn : nd.p.ents.length ≤ 1000) (h1 : 0 < nd.p.ents.length) :
    Calls Tryz.prog 162 #[.pointer (some ⟨g, k * 8, none⟩)] w fun e w' => e = .returned (.int .i64 (leastD nd.p.ents nd.p.ents.length : Int)) ∧ Kept (fun _ => False) w w' := by
  obtain ⟨ge, ce, hve, hown⟩ := h.block_of hnd h1
  have c4 : w.cell? ⟨g, k * 8 + 5, none⟩ = some nd.en := h.nodeC hnd ho 5 (by omega) _ rfl
  rw [hve] at c4
  have HE : Hid (∀ j (hj : j < nd.p.ents.length), ∀ f, f < 7 → w.cell? ⟨ge, j * 7 + f, none⟩ = (Go.Proofs.YtpfcacedpkaihaaGreat.heldC nd.p.ents[j])[f]?) := fun j hj f hf => by
    have hx : nd.p.ents[j]? = some nd.p.ents[j] := List.getElem?_eq_getElem hj
    obtain ⟨u, hu⟩ : ∃ u, (Go.Proofs.YtpfcacedpkaihaaGreat.heldC nd.p.ents[j])[f]? = some u := ⟨_, List.getElem?_eq_getElem (show f < 7 from hf)⟩
    rw [hu]
    exact h.heldC hnd hown hx f hf u hu
  have HAH : Hid (∀ (W : World) (x y : HeldE), Calls Tryz.prog 168 #[.agg #[.string x.e.q, .int .i32 x.e.val, .int .u64 (x.e.fr : Int), .int .u64 (x.e.till : Int), .bool x.e.op, .int .u64 (x.e.kn : Int), .int .u64 (x.used : Int)], .agg #[.string y.e.q, .int .i32 y.e.val, .int .u64 (y.e.fr : Int), .int .u64 (y.e.till : Int), .bool y.e.op, .int .u64 (y.e.kn : Int), .int .u64 (y.used : Int)]] W fun e w' => e = .returned (.bool (aheadB x y)) ∧ Kept (fun _ => False) W w') := fun W x y => dahead W x y
  obtain ⟨A, hA⟩ : ∃ A : Nat → Nat, ∀ i, A i = leastD nd.p.ents i := ⟨_, fun _ => rfl⟩
  rw [← hA]
  have HA : Hid (∀ i, A i = leastD nd.p.ents i) := hA
  clear h hnd ho hve hA hown
  go_enter Tryz.func162, Tryz.ntmps162
  go_wp2
  go_loopw [3, 11] (fun bv jv wr => ∃ j : Nat, j ≤ nd.p.ents.length ∧ jv = .int .i64 j ∧ bv = .int .i64 (A j : Int) ∧ Hid (Kept (fun _ => False) w wr)) (fun _ jv _ => nd.p.ents.length - (intOf jv).toNat)
  case atStart => exact ⟨0, Nat.zero_le _, rfl, by rw [HA.out]; rfl, Kept.refl _ _⟩
  case round =>
    obtain ⟨j, hj, rfl, rfl, HK⟩ := hrel
    by_cases hlt : j < nd.p.ents.length
    · obtain ⟨x, hx⟩ : ∃ x, x = nd.p.ents[j] := ⟨_, rfl⟩
      obtain ⟨i, hi⟩ : ∃ i, i = A j := ⟨_, rfl⟩
      have hil : i < nd.p.ents.length := by have := leastD_lt nd.p.ents j; rw [← HA.out, ← hi] at this; omega
      obtain ⟨y, hy⟩ : ∃ y, y = nd.p.ents[i] := ⟨_, rfl⟩
      have HS : Hid (A (j + 1) = if aheadB x y then j else i) := by
        show _ = _
        rw [HA.out, leastD, List.getElem?_eq_getElem hlt, ← HA.out j, ← hi, List.getElem?_eq_getElem hil, ← hx, ← hy]
      obtain ⟨x0, x1, x2, x3, x4, x5, x6⟩ := heldBlk (w := wr) (ge := ge) (o := j * 7) (x := x) fun f hf => by rw [hx]; exact HK.out.hold' (HE.out j hlt f hf) hf
      have HY : Hid (∀ o, (wr.alloc o).cell? ⟨ge, i * 7, none⟩ = some (.string y.e.q) ∧ (wr.alloc o).cell? ⟨ge, i * 7 + 1, none⟩ = some (.int .i32 y.e.val) ∧ (wr.alloc o).cell? ⟨ge, i * 7 + 2, none⟩ = some (.int .u64 (y.e.fr : Int)) ∧ (wr.alloc o).cell? ⟨ge, i * 7 + 3, none⟩ = some (.int .u64 (y.e.till : Int)) ∧ (wr.alloc o).cell? ⟨ge, i * 7 + 4, none⟩ = some (.bool y.e.op) ∧ (wr.alloc o).cell? ⟨ge, i * 7 + 5, none⟩ = some (.int .u64 (y.e.kn : Int)) ∧ (wr.alloc o).cell? ⟨ge, i * 7 + 6, none⟩ = some (.int .u64 (y.used : Int))) := fun o => heldBlk fun f hf => by rw [hy]; exact (HK.out.allocNew o).hold' (HE.out i hil f hf) hf
      have d4 := HK.out.hold c4
      have hj0 : (0 : Int) ≤ (j : Int) := by omega
      have hj1 : (j : Int) < (nd.p.ents.length : Int) := by omega
      have hi0 : (0 : Int) ≤ (i : Int) := by omega
      have hi1 : (i : Int) < (nd.p.ents.length : Int) := by omega
      rw [← hi]
      obtain ⟨ah, hah⟩ : ∃ ah, ah = aheadB x y := ⟨_, rfl⟩
      rw [← hah] at HS
      have HAH1 : Hid (∀ W, Calls Tryz.prog 168 #[.agg #[.string x.e.q, .int .i32 x.e.val, .int .u64 (x.e.fr : Int), .int .u64 (x.e.till : Int), .bool x.e.op, .int .u64 (x.e.kn : Int), .int .u64 (x.used : Int)], .agg #[.string y.e.q, .int .i32 y.e.val, .int .u64 (y.e.fr : Int), .int .u64 (y.e.till : Int), .bool y.e.op, .int .u64 (y.e.kn : Int), .int .u64 (y.used : Int)]] W fun e w' => e = .returned (.bool ah) ∧ Kept (fun _ => False) W w') := fun W => by rw [hah]; exact HAH.out W x y
      clear hx hy hi hah
      go_wp2_with fail
      obtain ⟨W, hW⟩ : ∃ W, W = wr.alloc (.cells #[.string x.e.q, .int .i32 x.e.val, .int .u64 (x.e.fr : Int), .int .u64 (x.e.till : Int), .bool x.e.op, .int .u64 (x.e.kn : Int), .int .u64 (x.used : Int)] 227) := ⟨_, rfl⟩
      have HB : Hid (Kept (fun _ => False) w W ∧ Blk W wr.heap.size 227 #[.string x.e.q, .int .i32 x.e.val, .int .u64 (x.e.fr : Int), .int .u64 (x.e.till : Int), .bool x.e.op, .int .u64 (x.e.kn : Int), .int .u64 (x.used : Int)]) := by rw [hW]; exact ⟨HK.out.allocNew _, Blk.new _ _ _⟩
      obtain ⟨y0, y1, y2, y3, y4, y5, y6⟩ := HY.out (.cells #[.string x.e.q, .int .i32 x.e.val, .int .u64 (x.e.fr : Int), .int .u64 (x.e.till : Int), .bool x.e.op, .int .u64 (x.e.kn : Int), .int .u64 (x.used : Int)] 227)
      rw [← hW] at y0 y1 y2 y3 y4 y5 y6 ⊢
      have z4 := HB.out.1.hold c4
      have b0 : W.cell? ⟨wr.heap.size, 0, none⟩ = some (.string x.e.q) := HB.out.2.cell 0
      have b1 : W.cell? ⟨wr.heap.size, 1, none⟩ = some (.int .i32 x.e.val) := HB.out.2.cell 1
      have b2 : W.cell? ⟨wr.heap.size, 2, none⟩ = some (.int .u64 (x.e.fr : Int)) := HB.out.2.cell 2
      have b3 : W.cell? ⟨wr.heap.size, 3, none⟩ = some (.int .u64 (x.e.till : Int)) := HB.out.2.cell 3
      have b4 : W.cell? ⟨wr.heap.size, 4, none⟩ = some (.bool x.e.op) := HB.out.2.cell 4
      have b5 : W.cell? ⟨wr.heap.size, 5, none⟩ = some (.int .u64 (x.e.kn : Int)) := HB.out.2.cell 5
      have b6 : W.cell? ⟨wr.heap.size, 6, none⟩ = some (.int .u64 (x.used : Int)) := HB.out.2.cell 6
      clear hW x0 x1 x2 x3 x4 x5 x6 d4
      have d0 := drew_cell0 z4
      have d1 := drew_cell0 b0
      have d2 := drew_cell0 b1
      have d3 := drew_cell0 b2
      have d4 := drew_cell0 b3
      have d5 := drew_cell0 b4
      have d6 := drew_cell0 b5
      have d7 := drew_cell0 b6
      have d8 := drew_cell0 y0
      have d9 := drew_cell0 y1
      have d10 := drew_cell0 y2
      have d11 := drew_cell0 y3
      have d12 := drew_cell0 y4
      have d13 := drew_cell0 y5
      have d14 := drew_cell0 y6
      cases ah with
      | true =>
        go_region_held3 (fun w' => w'.cell? ⟨g, k * 8 + 5, none⟩ = some (.slice (some ⟨ge, 0, none⟩) nd.p.ents.length ce) ∧ w'.cell? ⟨wr.heap.size, 0, none⟩ = some (.string x.e.q) ∧ w'.cell? ⟨wr.heap.size, 1, none⟩ = some (.int .i32 x.e.val) ∧ w'.cell? ⟨wr.heap.size, 2, none⟩ = some (.int .u64 (x.e.fr : Int)) ∧ w'.cell? ⟨wr.heap.size, 3, none⟩ = some (.int .u64 (x.e.till : Int)) ∧ w'.cell? ⟨wr.heap.size, 4, none⟩ = some (.bool x.e.op) ∧ w'.cell? ⟨wr.heap.size, 5, none⟩ = some (.int .u64 (x.e.kn : Int)) ∧ w'.cell? ⟨wr.heap.size, 6, none⟩ = some (.int .u64 (x.used : Int)) ∧ w'.cell? ⟨ge, i * 7, none⟩ = some (.string y.e.q) ∧ w'.cell? ⟨ge, i * 7 + 1, none⟩ = some (.int .i32 y.e.val) ∧ w'.cell? ⟨ge, i * 7 + 2, none⟩ = some (.int .u64 (y.e.fr : Int)) ∧ w'.cell? ⟨ge, i * 7 + 3, none⟩ = some (.int .u64 (y.e.till : Int)) ∧ w'.cell? ⟨ge, i * 7 + 4, none⟩ = some (.bool y.e.op) ∧ w'.cell? ⟨ge, i * 7 + 5, none⟩ = some (.int .u64 (y.e.kn : Int)) ∧ w'.cell? ⟨ge, i * 7 + 6, none⟩ = some (.int .u64 (y.used : Int))) (first | with_reducible exact ⟨s0, s1, s2, s3, s4, s5, s6, s7, s8, s9, s10, s11, s12, s13, s14⟩ | with_reducible exact ⟨d0, d1, d2, d3, d4, d5, d6, d7, d8, d9, d10, d11, d12, d13, d14⟩ | fail) ((go_at_call 168; refine (HAH1.out _).mono ?_; rintro e w4 ⟨rfl, hk4⟩; have HK4 : Hid (Kept (fun _ => False) w w4) := HB.out.1.trans (kdrew1 hk4) (fun _ => id) (fun _ _ => id); have s0 := hk4.hold d0; have s1 := hk4.hold d1; have s2 := hk4.hold d2; have s3 := hk4.hold d3; have s4 := hk4.hold d4; have s5 := hk4.hold d5; have s6 := hk4.hold d6; have s7 := hk4.hold d7; have s8 := hk4.hold d8; have s9 := hk4.hold d9; have s10 := hk4.hold d10; have s11 := hk4.hold d11; have s12 := hk4.hold d12; have s13 := hk4.hold d13; have s14 := hk4.hold d14))
        all_goals
          go_wp2
          go_roundw
          case rel => exact ⟨j + 1, by omega, by go_num, by rw [HS.out]; rfl, HK4.out⟩
          case measure => simp [intOf]; omega
      | false =>
        go_region_held3 (fun w' => w'.cell? ⟨g, k * 8 + 5, none⟩ = some (.slice (some ⟨ge, 0, none⟩) nd.p.ents.length ce) ∧ w'.cell? ⟨wr.heap.size, 0, none⟩ = some (.string x.e.q) ∧ w'.cell? ⟨wr.heap.size, 1, none⟩ = some (.int .i32 x.e.val) ∧ w'.cell? ⟨wr.heap.size, 2, none⟩ = some (.int .u64 (x.e.fr : Int)) ∧ w'.cell? ⟨wr.heap.size, 3, none⟩ = some (.int .u64 (x.e.till : Int)) ∧ w'.cell? ⟨wr.heap.size, 4, none⟩ = some (.bool x.e.op) ∧ w'.cell? ⟨wr.heap.size, 5, none⟩ = some (.int .u64 (x.e.kn : Int)) ∧ w'.cell? ⟨wr.heap.size, 6, none⟩ = some (.int .u64 (x.used : Int)) ∧ w'.cell? ⟨ge, i * 7, none⟩ = some (.string y.e.q) ∧ w'.cell? ⟨ge, i * 7 + 1, none⟩ = some (.int .i32 y.e.val) ∧ w'.cell? ⟨ge, i * 7 + 2, none⟩ = some (.int .u64 (y.e.fr : Int)) ∧ w'.cell? ⟨ge, i * 7 + 3, none⟩ = some (.int .u64 (y.e.till : Int)) ∧ w'.cell? ⟨ge, i * 7 + 4, none⟩ = some (.bool y.e.op) ∧ w'.cell? ⟨ge, i * 7 + 5, none⟩ = some (.int .u64 (y.e.kn : Int)) ∧ w'.cell? ⟨ge, i * 7 + 6, none⟩ = some (.int .u64 (y.used : Int))) (first | with_reducible exact ⟨s0, s1, s2, s3, s4, s5, s6, s7, s8, s9, s10, s11, s12, s13, s14⟩ | with_reducible exact ⟨d0, d1, d2, d3, d4, d5, d6, d7, d8, d9, d10, d11, d12, d13, d14⟩ | fail) ((go_at_call 168; refine (HAH1.out _).mono ?_; rintro e w4 ⟨rfl, hk4⟩; have HK4 : Hid (Kept (fun _ => False) w w4) := HB.out.1.trans (kdrew1 hk4) (fun _ => id) (fun _ _ => id); have s0 := hk4.hold d0; have s1 := hk4.hold d1; have s2 := hk4.hold d2; have s3 := hk4.hold d3; have s4 := hk4.hold d4; have s5 := hk4.hold d5; have s6 := hk4.hold d6; have s7 := hk4.hold d7; have s8 := hk4.hold d8; have s9 := hk4.hold d9; have s10 := hk4.hold d10; have s11 := hk4.hold d11; have s12 := hk4.hold d12; have s13 := hk4.hold d13; have s14 := hk4.hold d14))
        all_goals
          go_wp2
          go_roundw
          case rel => exact ⟨j + 1, by omega, by go_num, by rw [HS.out]; rfl, HK4.out⟩
          case measure => simp [intOf]; omega
    · have hjn : j = nd.p.ents.length := by omega
      subst hjn
      go_wp2
      go_ret
      exact ⟨rfl, HK.out⟩

end Go.Proofs.YtpfcacedpkaihaaGreat

/- The program's nodes and links (packages memory, links): Up, Horizon, Lags, Rise, Fall, Clear, full, waits, wrote, walked. -/
namespace Go.Proofs.YtpfcacedpkaihaaGreat
open Go.RowKit

/-- the cells of a row of pairs. -/
theorem Row.pairs {w : World} {T : TypeId} {v : Value} {l : List (Nat × Int)} (h : Row w T 2 v l.length (l.flatMap histC)) : ∃ ao cap, v = .slice ao l.length cap ∧ ∀ j (hj : j < l.length), ∃ gw, ao = some ⟨gw, 0, none⟩ ∧ gw < w.heap.size ∧ w.cell? ⟨gw, j * 2, none⟩ = some (.int .u64 (l[j].1 : Int)) ∧ w.cell? ⟨gw, j * 2 + 1, none⟩ = some (.int .u8 l[j].2) := by
  obtain ⟨ao, cap, hv, _⟩ := h.form
  refine ⟨ao, cap, hv, fun j hj => ?_⟩
  obtain ⟨gw, cap', hv', ho, hl⟩ := h.block (by omega)
  rw [hv] at hv'
  injection hv' with e1 e2 e3
  have hc : ∀ f, f < 2 → ∀ u, (histC l[j])[f]? = some u → w.cell? ⟨gw, j * 2 + f, none⟩ = some u := fun f hf u hu => h.cell ho _ u (by rw [flat_at histC 2 (fun _ => rfl) l j hj f hf]; exact hu)
  exact ⟨gw, e1, hl, hc 0 (by omega) _ rfl, hc 1 (by omega) _ rfl⟩

set_option maxHeartbeats 400000 in
theorem dup (w : World) (g o : Nat) (u : Bool) (hc : w.cell? ⟨g, o, none⟩ = some (.bool u)) :
    Calls Tryz.prog 118 #[.pointer (some ⟨g, o, none⟩)] w fun e w' => e = .returned (.bool u) ∧ w = w' := by
  go_enter Tryz.func118, Tryz.ntmps118
  go_wp2
  go_ret
  exact ⟨rfl, rfl⟩

set_option maxHeartbeats 400000 in
theorem dhorizon (w : World) (g o : Nat) (z : Nat) (hc : w.cell? ⟨g, o + 2, none⟩ = some (.int .u64 (z : Int))) :
    Calls Tryz.prog 120 #[.pointer (some ⟨g, o, none⟩)] w fun e w' => e = .returned (.int .u64 (z : Int)) ∧ w = w' := by
  go_enter Tryz.func120, Tryz.ntmps120
  go_wp2
  go_ret
  exact ⟨rfl, rfl⟩

set_option maxHeartbeats 400000 in
theorem dlags (w : World) (g o : Nat) (p : NodeP) (t : Nat) (c0 : w.cell? ⟨g, o, none⟩ = some (.bool p.up)) (c2 : w.cell? ⟨g, o + 2, none⟩ = some (.int .u64 (p.horizon : Int))) (hz : p.horizon ≤ 1000000) :
    Calls Tryz.prog 130 #[.pointer (some ⟨g, o, none⟩), .int .u64 t] w fun e w' => e = .returned (.bool (p.lags t)) ∧ w = w' := by
  have HL : Hid (∀ u z, p.up = u → p.horizon = z → p.lags t = (u && decide ((z : Int) + 40 < (t : Int)))) := fun u z hu hz => by
    unfold NodeP.lags
    rw [hu, hz]
    congr 1
    by_cases h : z + 40 < t
    · rw [decide_eq_true h, decide_eq_true (by omega)]
    · rw [decide_eq_false h, decide_eq_false (by omega)]
  obtain ⟨u, hu⟩ : ∃ u, p.up = u := ⟨_, rfl⟩
  obtain ⟨z, hz'⟩ : ∃ z, p.horizon = z := ⟨_, rfl⟩
  have HE : Hid (p.lags t = (u && decide ((z : Int) + 40 < (t : Int)))) := HL.out u z hu hz'
  rw [hu] at c0
  rw [hz'] at c2 hz
  clear HL hu hz'
  cases u with
  | false =>
    go_enter Tryz.func130, Tryz.ntmps130
    go_wp2
    go_ret
    exact ⟨rt_bool (by rw [HE.out]; rfl), rfl⟩
  | true =>
    go_enter Tryz.func130, Tryz.ntmps130
    go_wp2
    go_ret
    exact ⟨rt_bool (by rw [HE.out]; rfl), rfl⟩

/-- a node with nothing but its link. -/
def DNodeE.bare (nd : DNodeE) (u : Bool) (hz : Nat) : DNodeE := ⟨⟨u, nd.p.room, hz, [], [], [], 0, nd.p.flight⟩, nilV, nilV, nilV, nd.fl⟩
def set7 (w : World) (g o : Nat) (u : Bool) (r : Int) (hz : Nat) : World :=
  (((((((w.setCell ⟨g, o, none⟩ (.bool u)).setCell ⟨g, o + 1, none⟩ (.int .i64 r)).setCell ⟨g, o + 2, none⟩ (.int .u64 (hz : Int))).setCell ⟨g, o + 3, none⟩ (.slice none 0 0)).setCell ⟨g, o + 4, none⟩ (.slice none 0 0)).setCell ⟨g, o + 5, none⟩ (.slice none 0 0)).setCell ⟨g, o + 6, none⟩ (.int .u64 0))
theorem nil_own {x : Nat} {P : Prop} (h : Value.ownBlock (.slice none 0 0) = some x) : P := by simp [Value.ownBlock] at h
theorem Dev.reset {w : World} {b k g : Nat} {D : DevS} {nd : DNodeE} (h : Dev w b D) (hnd : D.nodes[k]? = some nd) (ho : D.vn.ownBlock = some g) (u : Bool) (hz : Nat) : DBecame w b D (set7 w g (k * 8) u nd.p.room hz) (D.putN k (nd.bare u hz)) := by
  have s1 := h.cellN hnd ho 0 (by omega) (.bool u) (y := { nd with p := { nd.p with up := u } }) rfl rfl
  have s2 := s1.1.cellN (putN_at _ hnd) ho 1 (by omega) (.int .i64 nd.p.room) (y := { nd with p := { nd.p with up := u } }) rfl rfl
  rw [putN_putN] at s2
  have s3 := s2.1.cellN (putN_at _ hnd) ho 2 (by omega) (.int .u64 (hz : Int)) (y := { nd with p := { nd.p with up := u, horizon := hz } }) rfl rfl
  rw [putN_putN] at s3
  have s4 := s3.1.rowN (putN_at _ hnd) ho 0 3 (by omega) (by omega) ⟨244, 2, nd.hs, nd.p.hists.length, nd.p.hists.flatMap histC⟩ ⟨244, 2, nilV, 0, []⟩ nilV rfl (y := { nd with p := { nd.p with up := u, horizon := hz, hists := [] }, hs := nilV }) rfl rfl (Kept.refl _ _) (Row.nil _ _ _) (fun x hx => nil_own hx)
  rw [putN_putN] at s4
  have s5 := s4.1.rowN (putN_at _ hnd) ho 1 4 (by omega) (by omega) ⟨244, 2, nd.wt, nd.p.waits.length, nd.p.waits.flatMap histC⟩ ⟨244, 2, nilV, 0, []⟩ nilV rfl (y := { nd with p := { nd.p with up := u, horizon := hz, hists := [], waits := [] }, hs := nilV, wt := nilV }) rfl rfl (Kept.refl _ _) (Row.nil _ _ _) (fun x hx => nil_own hx)
  rw [putN_putN] at s5
  have s6 := s5.1.rowN (putN_at _ hnd) ho 2 5 (by omega) (by omega) ⟨227, 7, nd.en, nd.p.ents.length, nd.p.ents.flatMap Go.Proofs.YtpfcacedpkaihaaGreat.heldC⟩ ⟨227, 7, nilV, 0, []⟩ nilV rfl (y := { nd with p := { nd.p with up := u, horizon := hz, hists := [], waits := [], ents := [] }, hs := nilV, wt := nilV, en := nilV }) rfl rfl (Kept.refl _ _) (Row.nil _ _ _) (fun x hx => nil_own hx)
  rw [putN_putN] at s6
  have s7 := s6.1.cellN (putN_at _ hnd) ho 6 (by omega) (.int .u64 0) (y := nd.bare u hz) rfl rfl
  rw [putN_putN] at s7
  exact (((((s1.trans s2).trans s3).trans s4).trans s5).trans s6).trans s7

set_option maxRecDepth 100000 in
set_option maxHeartbeats 1000000 in
theorem drise (w : World) (b k g : Nat) (D : DevS) (nd : DNodeE) (z : Nat) (h : Dev w b D) (hnd : D.nodes[k]? = some nd) (ho : D.vn.ownBlock = some g) :
    Calls Tryz.prog 119 #[.pointer (some ⟨g, k * 8, none⟩), .int .u64 z] w fun e w' => e = .returned (.tuple #[]) ∧ Hid (Turns w b D k (nd.p.rise z) w') := by
  have HP : Hid (Turns w b D k (nd.p.rise z) (set7 w g (k * 8) true nd.p.room z)) := ⟨nd.bare true z, rfl, h.reset hnd ho true z⟩
  have c0 : w.cell? ⟨g, k * 8, none⟩ = some (.bool nd.p.up) := h.nodeC hnd ho 0 (by omega) _ rfl
  have c1 : w.cell? ⟨g, k * 8 + 1, none⟩ = some (.int .i64 nd.p.room) := h.nodeC hnd ho 1 (by omega) _ rfl
  have c2 : w.cell? ⟨g, k * 8 + 2, none⟩ = some (.int .u64 (nd.p.horizon : Int)) := h.nodeC hnd ho 2 (by omega) _ rfl
  have c3 : w.cell? ⟨g, k * 8 + 3, none⟩ = some nd.hs := h.nodeC hnd ho 3 (by omega) _ rfl
  have c4 : w.cell? ⟨g, k * 8 + 4, none⟩ = some nd.wt := h.nodeC hnd ho 4 (by omega) _ rfl
  have c5 : w.cell? ⟨g, k * 8 + 5, none⟩ = some nd.en := h.nodeC hnd ho 5 (by omega) _ rfl
  have c6 : w.cell? ⟨g, k * 8 + 6, none⟩ = some (.int .u64 (nd.p.uses : Int)) := h.nodeC hnd ho 6 (by omega) _ rfl
  have fr : ∀ i, w.frozen? ⟨g, i, none⟩ = false := fun i => h.nodeF ho i
  obtain ⟨a3, q3, e3, _⟩ := (h.hists nd (List.mem_of_getElem? hnd)).form
  obtain ⟨a4, q4, e4, _⟩ := (h.waits nd (List.mem_of_getElem? hnd)).form
  obtain ⟨a5, q5, e5, _⟩ := (h.ents nd (List.mem_of_getElem? hnd)).form
  rw [e3] at c3
  rw [e4] at c4
  rw [e5] at c5
  clear h hnd ho e3 e4 e5
  go_enter Tryz.func119, Tryz.ntmps119
  go_wp2
  go_end0
  exact ⟨rfl, HP.out⟩

set_option maxRecDepth 100000 in
set_option maxHeartbeats 1000000 in
theorem dfall (w : World) (b k g : Nat) (D : DevS) (nd : DNodeE) (h : Dev w b D) (hnd : D.nodes[k]? = some nd) (ho : D.vn.ownBlock = some g) :
    Calls Tryz.prog 155 #[.pointer (some ⟨g, k * 8, none⟩)] w fun e w' => e = .returned (.tuple #[]) ∧ Hid (Turns w b D k nd.p.fall w') := by
  have HP : Hid (Turns w b D k nd.p.fall (set7 w g (k * 8) false nd.p.room 0)) := ⟨nd.bare false 0, rfl, h.reset hnd ho false 0⟩
  have c0 : w.cell? ⟨g, k * 8, none⟩ = some (.bool nd.p.up) := h.nodeC hnd ho 0 (by omega) _ rfl
  have c1 : w.cell? ⟨g, k * 8 + 1, none⟩ = some (.int .i64 nd.p.room) := h.nodeC hnd ho 1 (by omega) _ rfl
  have c2 : w.cell? ⟨g, k * 8 + 2, none⟩ = some (.int .u64 (nd.p.horizon : Int)) := h.nodeC hnd ho 2 (by omega) _ rfl
  have c3 : w.cell? ⟨g, k * 8 + 3, none⟩ = some nd.hs := h.nodeC hnd ho 3 (by omega) _ rfl
  have c4 : w.cell? ⟨g, k * 8 + 4, none⟩ = some nd.wt := h.nodeC hnd ho 4 (by omega) _ rfl
  have c5 : w.cell? ⟨g, k * 8 + 5, none⟩ = some nd.en := h.nodeC hnd ho 5 (by omega) _ rfl
  have c6 : w.cell? ⟨g, k * 8 + 6, none⟩ = some (.int .u64 (nd.p.uses : Int)) := h.nodeC hnd ho 6 (by omega) _ rfl
  have fr : ∀ i, w.frozen? ⟨g, i, none⟩ = false := fun i => h.nodeF ho i
  obtain ⟨a3, q3, e3, _⟩ := (h.hists nd (List.mem_of_getElem? hnd)).form
  obtain ⟨a4, q4, e4, _⟩ := (h.waits nd (List.mem_of_getElem? hnd)).form
  obtain ⟨a5, q5, e5, _⟩ := (h.ents nd (List.mem_of_getElem? hnd)).form
  rw [e3] at c3
  rw [e4] at c4
  rw [e5] at c5
  clear h hnd ho e3 e4 e5
  go_enter Tryz.func155, Tryz.ntmps155
  go_wp2
  go_end0
  exact ⟨rfl, HP.out⟩

set_option maxHeartbeats 400000 in
theorem dclear (w : World) (b k g : Nat) (D : DevS) (nd : DNodeE) (h : Dev w b D) (hnd : D.nodes[k]? = some nd) (ho : D.vn.ownBlock = some g) :
    Calls Tryz.prog 156 #[.pointer (some ⟨g, k * 8 + 7, none⟩)] w fun e w' => e = .returned (.tuple #[]) ∧ Hid (Turns w b D k nd.p.clear w') := by
  have c7 : w.cell? ⟨g, k * 8 + 7, none⟩ = some nd.fl := h.nodeC hnd ho 7 (by omega) _ rfl
  have f7 : w.frozen? ⟨g, k * 8 + 7, none⟩ = false := h.nodeF ho _
  have HP : Hid (Turns w b D k nd.p.clear (w.setCell ⟨g, k * 8 + 7, none⟩ (.slice none 0 0))) :=
    ⟨{ nd with p := nd.p.clear, fl := nilV }, rfl, h.rowN hnd ho 3 7 (by omega) (by omega) ⟨192, 2, nd.fl, nd.p.flight.length, nd.p.flight.flatMap histC⟩ ⟨192, 2, nilV, 0, []⟩ nilV rfl rfl rfl (Kept.refl _ _) (Row.nil _ _ _) (fun x hx => nil_own hx)⟩
  obtain ⟨a7, q7, e7, _⟩ := (h.flight nd (List.mem_of_getElem? hnd)).form
  rw [e7] at c7
  clear h hnd ho e7
  go_enter Tryz.func156, Tryz.ntmps156
  go_wp2
  go_end0
  exact ⟨rfl, HP.out⟩

set_option maxHeartbeats 400000 in
theorem dfull (w : World) (g o : Nat) (ao : Option Addr) (n cap : Nat) (hc : w.cell? ⟨g, o, none⟩ = some (.slice ao n cap)) :
    Calls Tryz.prog 152 #[.pointer (some ⟨g, o, none⟩)] w fun e w' => e = .returned (.bool (decide ((12 : Int) ≤ (n : Int)))) ∧ w = w' := by
  go_enter Tryz.func152, Tryz.ntmps152
  go_wp2
  go_ret
  exact ⟨rfl, rfl⟩

theorem waitsB_take {l : List (Nat × Int)} {t j : Nat} (hj : j < l.length) : waitsB (l.take (j + 1)) t = (waitsB (l.take j) t || decide (l[j].1 = t)) := by
  unfold waitsB
  rw [List.take_succ_eq_append_getElem hj, List.any_append]
  simp
theorem waitsB_hit {l : List (Nat × Int)} {t j : Nat} (hj : j < l.length) (h : l[j].1 = t) : waitsB l t = true := by
  unfold waitsB
  rw [List.any_eq_true]
  exact ⟨l[j], List.getElem_mem hj, by simpa using h⟩

set_option maxRecDepth 100000 in
set_option maxHeartbeats 1000000 in
theorem dwaits (w : World) (g o : Nat) (v : Value) (l : List (Nat × Int)) (t : Nat) (hc : w.cell? ⟨g, o + 4, none⟩ = some v) (hr : Row w 244 2 v l.length (l.flatMap histC)) (hl : l.length ≤ 1000) :
    Calls Tryz.prog 151 #[.pointer (some ⟨g, o, none⟩), .int .u64 t] w fun e w' => e = .returned (.bool (waitsB l t)) ∧ Kept (fun _ => False) w w' := by
  obtain ⟨ao, cap, hv, hp⟩ := hr.pairs
  have HP : Hid (∀ j (hj : j < l.length), ∃ gw, ao = some ⟨gw, 0, none⟩ ∧ gw < w.heap.size ∧ w.cell? ⟨gw, j * 2, none⟩ = some (.int .u64 (l[j].1 : Int)) ∧ w.cell? ⟨gw, j * 2 + 1, none⟩ = some (.int .u8 l[j].2)) := hp
  subst hv
  clear hp hr
  go_enter Tryz.func151, Tryz.ntmps151
  go_wp2
  go_loopw [12] (fun iv wr => ∃ j : Nat, j ≤ l.length ∧ iv = .int .i64 j ∧ Hid (waitsB (l.take j) t = false ∧ Kept (fun _ => False) w wr)) (fun iv _ => l.length - (intOf iv).toNat)
  case atStart => exact ⟨0, Nat.zero_le _, rfl, rfl, Kept.refl _ _⟩
  case round =>
    obtain ⟨j, hj, rfl, HK⟩ := hrel
    by_cases hlt : j < l.length
    · obtain ⟨gw, hao, hgl, p0, p1⟩ := HP.out j hlt
      obtain ⟨x, hx⟩ : ∃ x, x = l[j] := ⟨_, rfl⟩
      rw [← hx] at p0 p1
      have d0 := HK.out.2.hold p0
      have d1 := HK.out.2.hold p1
      have HX : Hid (l[j].1 = x.1) := by rw [hx]; rfl
      have hj0 : (0 : Int) ≤ (j : Int) := by omega
      have hj1 : (j : Int) < (l.length : Int) := by omega
      clear hx p0 p1 hgl
      subst hao
      by_cases he : x.1 = t
      · have hb : ((x.1 : Int) == (t : Int)) = true := by rw [he]; exact beq_self_eq_true _
        have HW : Hid (waitsB l t = true) := waitsB_hit hlt (HX.out.trans he)
        clear he
        go_wp2
        go_ret
        exact ⟨rt_bool HW.out.symm, HK.out.2.allocNew _⟩
      · have hb : ((x.1 : Int) == (t : Int)) = false := beq_eq_false_iff_ne.mpr (by omega)
        have HW : Hid (waitsB (l.take (j + 1)) t = false) := by
          show _ = _
          rw [waitsB_take hlt, HK.out.1, HX.out]
          simpa using he
        clear he
        go_wp2
        go_roundw
        case rel => exact ⟨j + 1, by omega, by go_num, HW.out, HK.out.2.allocNew _⟩
        case measure => simp [intOf]; omega
    · have hjn : j = l.length := by omega
      subst hjn
      have HW : Hid (waitsB l t = false) := by have := HK.out.1; rwa [List.take_length] at this
      go_wp2
      go_ret
      exact ⟨rt_bool HW.out.symm, HK.out.2⟩

theorem wroteL_take {l : List (Nat × Int)} {t j : Nat} (hj : j < l.length) (h : wroteL (l.take j) t = none) : wroteL (l.take (j + 1)) t = if l[j].1 = t then some l[j].2 else none := by
  unfold wroteL at h ⊢
  rw [List.take_succ_eq_append_getElem hj, List.find?_append]
  have : (l.take j).find? (fun c => decide (c.1 = t)) = none := by simpa using h
  rw [this]
  by_cases he : l[j].1 = t <;> simp [he]
theorem wroteL_hit {l : List (Nat × Int)} {t j : Nat} (hj : j < l.length) (h : wroteL (l.take j) t = none) (he : l[j].1 = t) : wroteL l t = some l[j].2 := by
  have h1 := wroteL_take hj h
  rw [if_pos he] at h1
  have e : l = l.take (j + 1) ++ l.drop (j + 1) := (List.take_append_drop _ _).symm
  obtain ⟨y0, hy0⟩ : ∃ y, y = l[j].2 := ⟨_, rfl⟩
  rw [← hy0] at h1 ⊢
  clear hy0 he h
  unfold wroteL at h1 ⊢
  rw [e, List.find?_append]
  cases hh : (l.take (j + 1)).find? (fun c => decide (c.1 = t)) with
  | none => rw [hh] at h1; simp at h1
  | some y => rw [hh] at h1; simpa using h1

def wroteV (r : Option Int) : Value := .tuple #[.int .u8 (r.getD 0), .bool r.isSome]
set_option maxRecDepth 100000 in
set_option maxHeartbeats 1000000 in
theorem dwrote (w : World) (g o : Nat) (v : Value) (l : List (Nat × Int)) (t : Nat) (hc : w.cell? ⟨g, o + 3, none⟩ = some v) (hr : Row w 244 2 v l.length (l.flatMap histC)) (hl : l.length ≤ 1000) :
    Calls Tryz.prog 161 #[.pointer (some ⟨g, o, none⟩), .int .u64 t] w fun e w' => e = .returned (wroteV (wroteL l t)) ∧ Kept (fun _ => False) w w' := by
  obtain ⟨ao, cap, hv, hp⟩ := hr.pairs
  have HP : Hid (∀ j (hj : j < l.length), ∃ gw, ao = some ⟨gw, 0, none⟩ ∧ gw < w.heap.size ∧ w.cell? ⟨gw, j * 2, none⟩ = some (.int .u64 (l[j].1 : Int)) ∧ w.cell? ⟨gw, j * 2 + 1, none⟩ = some (.int .u8 l[j].2)) := hp
  subst hv
  clear hp hr
  go_enter Tryz.func161, Tryz.ntmps161
  go_wp2
  go_loopw [13] (fun iv wr => ∃ j : Nat, j ≤ l.length ∧ iv = .int .i64 j ∧ Hid (wroteL (l.take j) t = none ∧ Kept (fun _ => False) w wr)) (fun iv _ => l.length - (intOf iv).toNat)
  case atStart => exact ⟨0, Nat.zero_le _, rfl, rfl, Kept.refl _ _⟩
  case round =>
    obtain ⟨j, hj, rfl, HK⟩ := hrel
    by_cases hlt : j < l.length
    · obtain ⟨gw, hao, hgl, p0, p1⟩ := HP.out j hlt
      obtain ⟨x, hx⟩ : ∃ x, x = l[j] := ⟨_, rfl⟩
      rw [← hx] at p0 p1
      have d0 := HK.out.2.hold p0
      have d1 := HK.out.2.hold p1
      have HX : Hid (l[j] = x) := hx.symm
      have hj0 : (0 : Int) ≤ (j : Int) := by omega
      have hj1 : (j : Int) < (l.length : Int) := by omega
      clear hx p0 p1 hgl
      subst hao
      by_cases he : x.1 = t
      · have hb : ((x.1 : Int) == (t : Int)) = true := by rw [he]; exact beq_self_eq_true _
        have HW : Hid (wroteL l t = some x.2) := by
          have := wroteL_hit hlt HK.out.1 (by rw [HX.out]; exact he)
          rwa [HX.out] at this
        clear he
        go_wp2
        go_ret2
        exact ⟨by rw [HW.out]; rfl, HK.out.2.allocNew _⟩
      · have hb : ((x.1 : Int) == (t : Int)) = false := beq_eq_false_iff_ne.mpr (by omega)
        have HW : Hid (wroteL (l.take (j + 1)) t = none) := by
          show _ = _
          rw [wroteL_take hlt HK.out.1, HX.out, if_neg he]
        clear he
        go_wp2
        go_roundw
        case rel => exact ⟨j + 1, by omega, by go_num, HW.out, HK.out.2.allocNew _⟩
        case measure => simp [intOf]; omega
    · have hjn : j = l.length := by omega
      subst hjn
      have HW : Hid (wroteL l t = none) := by have := HK.out.1; rwa [List.take_length] at this
      go_wp2
      go_ret2
      exact ⟨by rw [HW.out]; rfl, HK.out.2⟩

end Go.Proofs.YtpfcacedpkaihaaGreat
