import Derived.Test.YtpfcacedpkaihaaGreatC10
namespace Go.Proofs.YtpfcacedpkaihaaGreat
open Go.RowKit
set_option maxRecDepth 100000
set_option maxHeartbeats 16000000
def DLatestPost (w : World) (nd : DNodeE) (q : ByteArray) (lo hi : Nat) (e : Ending) (w' : World) : Prop := Kept (fun _ => False) w w' ∧
 ((nd.p.ans q lo hi nd.p.ents.length < 0 ∧ e = .returned (.pointer none)) ∨ (∃ (j : Nat) (x : HeldE) (ge : Nat), nd.p.ans q lo hi nd.p.ents.length = j ∧ nd.p.ents[j]? = some x ∧ nd.en.ownBlock = some ge ∧ e = .returned (.pointer (some ⟨ge, j * 7, none⟩))))
theorem map_e {l : List HeldE} {j : Nat} {x : HeldE} (h : l[j]? = some x) : (l.map (·.e))[j]? = some x.e := by rw [List.getElem?_map, h]; rfl
theorem ans_next (p : NodeP) (q : ByteArray) (lo hi j : Nat) (x : HeldE) (hx : p.ents[j]? = some x) :
  p.ans q lo hi (j + 1) = if meetsE p.horizon q lo hi x.e ∧ (p.ans q lo hi j < 0 ∨ ∃ y : HeldE, p.ents[(p.ans q lo hi j).toNat]? = some y ∧ y.e.fr < x.e.fr) then (j : Int) else p.ans q lo hi j := by
 show ansN true p.horizon q lo hi (p.ents.map (·.e)) (j + 1) = _
 rw [ansN, map_e hx]
 have e : (∃ y : EntE, (p.ents.map (·.e))[(ansN true p.horizon q lo hi (p.ents.map (·.e)) j).toNat]? = some y ∧ y.fr < x.e.fr) ↔ ∃ y : HeldE, p.ents[(p.ans q lo hi j).toNat]? = some y ∧ y.e.fr < x.e.fr := by
  constructor
  · rintro ⟨y, h1, h2⟩
   rw [List.getElem?_map] at h1
   cases hh : p.ents[(ansN true p.horizon q lo hi (p.ents.map (·.e)) j).toNat]? with
   | none => rw [hh] at h1; simp at h1
   | some z => rw [hh] at h1; simp at h1; exact ⟨z, hh, by rw [h1]; exact h2⟩
  · rintro ⟨y, h1, h2⟩
   exact ⟨y.e, map_e h1, h2⟩
 have e2 : (true = true ∧ meetsE p.horizon q lo hi x.e ∧ (ansN true p.horizon q lo hi (p.ents.map (·.e)) j < 0 ∨ ∃ y : EntE, (p.ents.map (·.e))[(ansN true p.horizon q lo hi (p.ents.map (·.e)) j).toNat]? = some y ∧ y.fr < x.e.fr)) ↔ (meetsE p.horizon q lo hi x.e ∧ (p.ans q lo hi j < 0 ∨ ∃ y : HeldE, p.ents[(p.ans q lo hi j).toNat]? = some y ∧ y.e.fr < x.e.fr)) := by
  rw [← e]
  exact ⟨fun h => h.2, fun h => ⟨rfl, h⟩⟩
 by_cases hc : meetsE p.horizon q lo hi x.e ∧ (p.ans q lo hi j < 0 ∨ ∃ y : HeldE, p.ents[(p.ans q lo hi j).toNat]? = some y ∧ y.e.fr < x.e.fr)
 · rw [if_pos hc]
  exact if_pos (e2.mpr hc)
 · rw [if_neg hc]
  exact if_neg fun h => hc (e2.mp h)
theorem dlatest (w : World) (b k g : Nat) (D : DevS) (nd : DNodeE) (q : ByteArray) (lo hi : Nat) (h : Dev w b D) (hnd : D.nodes[k]? = some nd) (ho : D.vn.ownBlock = some g) (hn : nd.p.ents.length ≤ 1000) (hfit : ∀ x ∈ nd.p.ents, x.e.Fit ∧ x.e.fr ≤ lastE x.e nd.p.horizon) (hlo : lo ≤ hi) :
  Calls Tryz.prog 135 #[.pointer (some ⟨g, k * 8, none⟩), .string q, .agg #[.int .u64 (lo : Int), .int .u64 (hi : Int)]] w fun e w' => DLatestPost w nd q lo hi e w' := by
 have c5 : w.cell? ⟨g, k * 8 + 5, none⟩ = some nd.en := h.nodeC hnd ho 5 (by omega) _ rfl
 have c2 : w.cell? ⟨g, k * 8 + 2, none⟩ = some (.int .u64 (nd.p.horizon : Int)) := h.nodeC hnd ho 2 (by omega) _ rfl
 obtain ⟨ae, ce, hve, hp⟩ := (h.ents nd (List.mem_of_getElem? hnd)).helds
 rw [hve] at c5
 have HP : Hid (∀ j (hj : j < nd.p.ents.length), ∃ ge, ae = some ⟨ge, 0, none⟩ ∧ ge < w.heap.size ∧ ∀ f, f < 7 → w.cell? ⟨ge, j * 7 + f, none⟩ = (Go.Proofs.YtpfcacedpkaihaaGreat.heldC nd.p.ents[j])[f]?) := hp
 have HOWN : Hid (∀ ge, ae = some ⟨ge, 0, none⟩ → nd.en.ownBlock = some ge) := fun ge e => by rw [hve, e]; rfl
 have HF : Hid (∀ x ∈ nd.p.ents, x.e.Fit ∧ x.e.fr ≤ lastE x.e nd.p.horizon) := hfit
 obtain ⟨A, hA⟩ : ∃ A : Nat → Int, ∀ i, A i = nd.p.ans q lo hi i := ⟨_, fun _ => rfl⟩
 have HA : Hid (∀ i, A i = nd.p.ans q lo hi i) := hA
 have HAL : Hid (∀ j, -1 ≤ A j ∧ A j < (j : Int)) := fun j => by rw [hA]; exact ansN_lt true nd.p.horizon q lo hi (nd.p.ents.map (·.e)) j
 have HNX : Hid (∀ j x, nd.p.ents[j]? = some x → A (j + 1) = if meetsE nd.p.horizon q lo hi x.e ∧ (A j < 0 ∨ ∃ y : HeldE, nd.p.ents[(A j).toNat]? = some y ∧ y.e.fr < x.e.fr) then (j : Int) else A j) := fun j x hx => by rw [hA, hA]; exact ans_next nd.p q lo hi j x hx
 have c5a : ∀ o : Obj, (w.alloc o).cell? ⟨g, k * 8 + 5, none⟩ = some (.slice ae nd.p.ents.length ce) := fun o => hold_al c5
 have hgl : g < w.heap.size := World.block_lt_of_cell? w _ c5
 clear h hnd ho hve hA hp hfit
 go_enter Tryz.func135, Tryz.ntmps135
 go_wp2
 go_loopw [7, 16] (fun bv jv wr => ∃ j : Nat, j ≤ nd.p.ents.length ∧ jv = .int .i64 j ∧ ((A j < 0 ∧ bv = .pointer none) ∨ ∃ (i ge : Nat), A j = (i : Int) ∧ ae = some ⟨ge, 0, none⟩ ∧ bv = .pointer (some ⟨ge, i * 7, none⟩)) ∧ Hid (Kept (fun _ => False) w wr ∧ Blk wr w.heap.size 88 #[.int .u64 (lo : Int), .int .u64 (hi : Int)])) (fun _ jv _ => nd.p.ents.length - (intOf jv).toNat)
 case atStart => exact ⟨0, Nat.zero_le _, rfl, .inl ⟨by rw [HA.out]; exact (by decide : (-1 : Int) < 0), rfl⟩, Kept.alloc _ _ _, Blk.new _ _ _⟩
 case round =>
  obtain ⟨j, hj, rfl, hbest, HK⟩ := hrel
  by_cases hlt : j < nd.p.ents.length
  · obtain ⟨ge, hae, hgel, hce⟩ := HP.out j hlt
   obtain ⟨x, hx⟩ : ∃ x, x = nd.p.ents[j] := ⟨_, rfl⟩
   have hx' : nd.p.ents[j]? = some x := by rw [hx]; exact List.getElem?_eq_getElem hlt
   obtain ⟨hxf, hfl⟩ := HF.out x (List.mem_of_getElem? hx')
   rw [← hx] at hce
   obtain ⟨x0, x1, x2, x3, x4, x5, x6⟩ := heldBlk (w := wr) (ge := ge) (o := j * 7) (x := x) fun f hf => HK.out.1.hold' (hce f hf) hf
   have d5 := HK.out.1.hold c5
   have d2 := HK.out.1.hold c2
   have hj0 : (0 : Int) ≤ (j : Int) := by omega
   have hj1 : (j : Int) < (nd.p.ents.length : Int) := by omega
   have HS := HNX.out j x hx'
   obtain ⟨L, hL⟩ : ∃ L, L = lastE x.e nd.p.horizon := ⟨_, rfl⟩
   have HCO : Hid (∀ W, W.cell? ⟨g, k * 8 + 2, none⟩ = some (.int .u64 (nd.p.horizon : Int)) → Calls Tryz.prog 137 #[.pointer (some ⟨g, k * 8, none⟩), .agg #[.string x.e.q, .int .i32 x.e.val, .int .u64 (x.e.fr : Int), .int .u64 (x.e.till : Int), .bool x.e.op, .int .u64 (x.e.kn : Int)]] W fun e w' => e = .returned (.agg #[.int .u64 (x.e.fr : Int), .int .u64 (L : Int)]) ∧ Kept (fun _ => False) W w') := fun W hc => by rw [hL]; exact dcover W g (k * 8) x.e nd.p.horizon hxf hc
   have HM : Hid (x.e.q = q → x.e.fr ≤ hi → lo ≤ L → meetsE nd.p.horizon q lo hi x.e) := fun hq h1 h2 => ⟨hq, by rw [← hL]; rw [← hL] at hfl; omega⟩
   have HM2 : Hid (meetsE nd.p.horizon q lo hi x.e → x.e.q = q ∧ x.e.fr ≤ hi ∧ lo ≤ L) := fun hm => ⟨hm.1, by have := hm.2; rw [← hL] at this; omega⟩
   have HS' : Hid (A (j + 1) = if meetsE nd.p.horizon q lo hi x.e ∧ (A j < 0 ∨ ∃ y : HeldE, nd.p.ents[(A j).toNat]? = some y ∧ y.e.fr < x.e.fr) then (j : Int) else A j) := HS
   clear hx hxf hfl hL hce hx' HS
   subst hae
   have HBEST : Hid ((A j < 0 ∧ u7 = .pointer none) ∨ ∃ (i ge' : Nat), A j = (i : Int) ∧ (some ⟨ge, 0, none⟩ : Option Addr) = some ⟨ge', 0, none⟩ ∧ u7 = .pointer (some ⟨ge', i * 7, none⟩)) := hbest
   have HCALL : Hid (∀ W, Kept (fun _ => False) wr W → Calls Tryz.prog 137 #[.pointer (some ⟨g, k * 8, none⟩), .agg #[.string x.e.q, .int .i32 x.e.val, .int .u64 (x.e.fr : Int), .int .u64 (x.e.till : Int), .bool x.e.op, .int .u64 (x.e.kn : Int)]] W fun e w' => e = .returned (.agg #[.int .u64 (x.e.fr : Int), .int .u64 (L : Int)]) ∧ Kept (fun _ => False) W w') := fun W hW => HCO.out W (hW.hold d2)
   by_cases hm : x.e.q = q ∧ x.e.fr ≤ hi ∧ lo ≤ L
   · obtain ⟨m1, m2, m3⟩ := hm
    have HMT : Hid (meetsE nd.p.horizon q lo hi x.e) := HM.out m1 m2 m3
    have hqb : (x.e.q.toList != q.toList) = false := by rw [m1]; simp
    have hqb' : (x.e.q.toList == q.toList) = true := by rw [m1]; simp
    have hd1 : decide ((hi : Int) < (x.e.fr : Int)) = false := by simp; omega
    have hd2 : decide ((L : Int) < (lo : Int)) = false := by simp; omega
    clear m1 hbest
    rcases HBEST.out with ⟨hneg, rfl⟩ | ⟨i, ge', hi', hge', rfl⟩
    · have HRES : Hid (A (j + 1) = (j : Int)) := by show _ = _; rw [HS'.out, if_pos ⟨HMT.out, .inl hneg⟩]
     clear hneg
     go_wp2_with (go_at_call 137; refine (HCALL.out _ (Kept.refl _ _)).mono ?_; rintro e w1 ⟨rfl, hk1⟩; have HK1 : Hid (Kept (fun _ => False) w w1 ∧ Blk w1 w.heap.size 88 #[.int .u64 (lo : Int), .int .u64 (hi : Int)]) := ⟨HK.out.1.trans hk1 (fun _ => id) (fun _ _ => id), HK.out.2.kept hk1 id⟩; have v0 := hk1.hold x0; have v2 := hk1.hold x2; have s0 : w1.cell? ⟨w.heap.size, 0, none⟩ = some (.int .u64 (lo : Int)) := HK1.out.2.cell 0; have s1 : w1.cell? ⟨w.heap.size, 1, none⟩ = some (.int .u64 (hi : Int)) := HK1.out.2.cell 1; have ssz : w.heap.size < w1.heap.size := HK1.out.2.lt; have gsz : ge < w1.heap.size := World.block_lt_of_cell? w1 _ v0; clear hk1)
     go_quiet (fail)
     go_wp2
     go_roundw
     case rel => exact ⟨j + 1, by omega, by go_num, .inr ⟨j, ge, HRES.out, rfl, rfl⟩, (HK1.out.1.allocNew _).drewN _, HK1.out.2.kept ((Kept.alloc _ _ (fun _ => False)).drewN _) id⟩
     case measure => simp [intOf]; omega
    · obtain rfl : ge = ge' := by injection hge' with e1; injection e1
     have hil : i < j := by have := (HAL.out j).2; omega
     obtain ⟨ge2, hae2, _, hce2⟩ := HP.out i (by omega)
     obtain rfl : ge = ge2 := by injection hae2 with e1; injection e1
     obtain ⟨y, hy⟩ : ∃ y, y = nd.p.ents[i]'(by omega) := ⟨_, rfl⟩
     rw [← hy] at hce2
     have z2 : wr.cell? ⟨ge, i * 7 + 2, none⟩ = some (.int .u64 (y.e.fr : Int)) := HK.out.1.hold (hce2 2 (by omega))
     have HY : Hid (nd.p.ents[i]? = some y) := by show _ = _; rw [hy]; exact List.getElem?_eq_getElem (by omega)
     clear hy hce2 hae2 hge'
     by_cases hfr : y.e.fr < x.e.fr
     · have HRES : Hid (A (j + 1) = (j : Int)) := by show _ = _; rw [HS'.out, if_pos ⟨HMT.out, .inr ⟨y, by rw [hi']; exact HY.out, hfr⟩⟩]
      have hd4 : (y.e.fr : Int) < (x.e.fr : Int) := by omega
      clear hi'
      go_wp2_with (go_at_call 137; refine (HCALL.out _ (Kept.refl _ _)).mono ?_; rintro e w1 ⟨rfl, hk1⟩; have HK1 : Hid (Kept (fun _ => False) w w1 ∧ Blk w1 w.heap.size 88 #[.int .u64 (lo : Int), .int .u64 (hi : Int)]) := ⟨HK.out.1.trans hk1 (fun _ => id) (fun _ _ => id), HK.out.2.kept hk1 id⟩; have v0 := hk1.hold x0; have v2 := hk1.hold x2; have v3 := hk1.hold z2; have s0 : w1.cell? ⟨w.heap.size, 0, none⟩ = some (.int .u64 (lo : Int)) := HK1.out.2.cell 0; have s1 : w1.cell? ⟨w.heap.size, 1, none⟩ = some (.int .u64 (hi : Int)) := HK1.out.2.cell 1; have ssz : w.heap.size < w1.heap.size := HK1.out.2.lt; have gsz : ge < w1.heap.size := World.block_lt_of_cell? w1 _ v0; clear hk1)
      go_quiet (fail)
      go_wp2
      go_roundw
      case rel => exact ⟨j + 1, by omega, by go_num, .inr ⟨j, ge, HRES.out, rfl, rfl⟩, (HK1.out.1.allocNew _).drewN _, HK1.out.2.kept ((Kept.alloc _ _ (fun _ => False)).drewN _) id⟩
      case measure => simp [intOf]; omega
     · have HRES : Hid (A (j + 1) = (i : Int)) := by
       show _ = _
       rw [HS'.out, if_neg, hi']
       rintro ⟨_, h1 | ⟨y', h1, h2⟩⟩
       · omega
       · rw [hi'] at h1
        have : nd.p.ents[i]? = some y' := h1
        rw [HY.out] at this
        injection this with this
        subst this
        exact hfr h2
      have hd3 : x.e.fr ≤ y.e.fr := by omega
      have hd4 : ¬ (y.e.fr : Int) < (x.e.fr : Int) := by omega
      clear hi'
      go_wp2_with (go_at_call 137; refine (HCALL.out _ (Kept.refl _ _)).mono ?_; rintro e w1 ⟨rfl, hk1⟩; have HK1 : Hid (Kept (fun _ => False) w w1 ∧ Blk w1 w.heap.size 88 #[.int .u64 (lo : Int), .int .u64 (hi : Int)]) := ⟨HK.out.1.trans hk1 (fun _ => id) (fun _ _ => id), HK.out.2.kept hk1 id⟩; have v0 := hk1.hold x0; have v2 := hk1.hold x2; have v3 := hk1.hold z2; have s0 : w1.cell? ⟨w.heap.size, 0, none⟩ = some (.int .u64 (lo : Int)) := HK1.out.2.cell 0; have s1 : w1.cell? ⟨w.heap.size, 1, none⟩ = some (.int .u64 (hi : Int)) := HK1.out.2.cell 1; have ssz : w.heap.size < w1.heap.size := HK1.out.2.lt; have gsz : ge < w1.heap.size := World.block_lt_of_cell? w1 _ v0; clear hk1)
      go_quiet (fail)
      go_wp2
      go_roundw
      case rel => exact ⟨j + 1, by omega, by go_num, .inr ⟨i, ge, HRES.out, rfl, rfl⟩, (HK1.out.1.allocNew _).drewN _, HK1.out.2.kept ((Kept.alloc _ _ (fun _ => False)).drewN _) id⟩
      case measure => simp [intOf]; omega
   · have HRES : Hid (A (j + 1) = A j) := by show _ = _; rw [HS'.out, if_neg]; rintro ⟨h1, _⟩; exact hm (HM2.out h1)
    have hcs : ((x.e.q.toList != q.toList) = true ∧ (x.e.q.toList == q.toList) = false) ∨ ((x.e.q.toList != q.toList) = false ∧ (x.e.q.toList == q.toList) = true ∧ hi < x.e.fr) ∨ ((x.e.q.toList != q.toList) = false ∧ (x.e.q.toList == q.toList) = true ∧ x.e.fr ≤ hi ∧ L < lo) := by
     by_cases h1 : x.e.q = q
     · by_cases h2 : x.e.fr ≤ hi
      · refine .inr (.inr ⟨by rw [h1]; simp, by rw [h1]; simp, h2, ?_⟩)
       have : ¬ lo ≤ L := fun h3 => hm ⟨h1, h2, h3⟩
       omega
      · exact .inr (.inl ⟨by rw [h1]; simp, by rw [h1]; simp, by omega⟩)
     · have h2 : (x.e.q.toList == q.toList) = false := beq_eq_false_iff_ne.mpr fun h => h1 (bytes_inj h)
      exact .inl ⟨by rw [bne, h2]; rfl, h2⟩
    have HB2 : Hid ((A (j + 1) < 0 ∧ u7 = .pointer none) ∨ ∃ (i ge' : Nat), A (j + 1) = (i : Int) ∧ (some ⟨ge, 0, none⟩ : Option Addr) = some ⟨ge', 0, none⟩ ∧ u7 = .pointer (some ⟨ge', i * 7, none⟩)) := by rw [HRES.out]; exact HBEST.out
    clear hm hbest
    rcases hcs with ⟨hq1, hq2⟩ | ⟨hq1, hq2, hq3⟩ | ⟨hq1, hq2, hq3, hq4⟩ <;>
    · go_wp2_with (go_at_call 137; refine (HCALL.out _ (Kept.refl _ _)).mono ?_; rintro e w1 ⟨rfl, hk1⟩; have HK1 : Hid (Kept (fun _ => False) w w1 ∧ Blk w1 w.heap.size 88 #[.int .u64 (lo : Int), .int .u64 (hi : Int)]) := ⟨HK.out.1.trans hk1 (fun _ => id) (fun _ _ => id), HK.out.2.kept hk1 id⟩; have v0 := hk1.hold x0; have v2 := hk1.hold x2; have s0 : w1.cell? ⟨w.heap.size, 0, none⟩ = some (.int .u64 (lo : Int)) := HK1.out.2.cell 0; have s1 : w1.cell? ⟨w.heap.size, 1, none⟩ = some (.int .u64 (hi : Int)) := HK1.out.2.cell 1; have ssz : w.heap.size < w1.heap.size := HK1.out.2.lt; have gsz : ge < w1.heap.size := World.block_lt_of_cell? w1 _ v0; clear hk1)
     go_roundw
     case rel => exact ⟨j + 1, by omega, by go_num, HB2.out, HK1.out.1.allocNew _, HK1.out.2.kept (Kept.alloc _ _ (fun _ => False)) id⟩
     case measure => simp [intOf]; omega
  · have hjn : j = nd.p.ents.length := by omega
   subst hjn
   have HPO : Hid (∀ e, ((A nd.p.ents.length < 0 ∧ e = .returned (.pointer none)) ∨ ∃ (i ge : Nat), A nd.p.ents.length = (i : Int) ∧ ae = some ⟨ge, 0, none⟩ ∧ e = .returned (.pointer (some ⟨ge, i * 7, none⟩))) → DLatestPost w nd q lo hi e wr) := fun e he => by
    refine ⟨HK.out.1, ?_⟩
    rw [← HA.out]
    rcases he with h1 | ⟨i, ge, h1, h2, h3⟩
    · exact .inl h1
    · have hil : i < nd.p.ents.length := by have := (HAL.out nd.p.ents.length).2; omega
     exact .inr ⟨i, nd.p.ents[i], ge, h1, List.getElem?_eq_getElem hil, HOWN.out ge h2, h3⟩
   rcases hbest with ⟨h1, rfl⟩ | ⟨i, ge, h1, h2, rfl⟩
   · have H1 : Hid (A nd.p.ents.length < 0) := h1
    clear h1
    go_wp2
    go_ret
    exact HPO.out _ (.inl ⟨H1.out, rfl⟩)
   · have H1 : Hid (A nd.p.ents.length = (i : Int) ∧ ae = some ⟨ge, 0, none⟩) := ⟨h1, h2⟩
    clear h1 h2
    go_wp2
    go_ret
    exact HPO.out _ (.inr ⟨i, ge, H1.out.1, H1.out.2, rfl⟩)
def caughtV (r : Option EntE) : Value := match r with
 | none => .tuple #[.agg #[.string ⟨#[]⟩, .int .i32 0, .int .u64 0, .int .u64 0, .bool false, .int .u64 0], .bool false]
 | some y => .tuple #[.agg #[.string y.q, .int .i32 y.val, .int .u64 (y.fr : Int), .int .u64 (y.till : Int), .bool y.op, .int .u64 (y.kn : Int)], .bool true]
structure Catch (w wr : World) (y : EntE) : Prop where
 kept : Kept (fun _ => False) w wr
 put : Blk wr w.heap.size 55 #[.string y.q, .int .i32 y.val, .int .u64 (y.fr : Int), .int .u64 (y.till : Int), .bool y.op, .int .u64 (y.kn : Int)]
 res : Blk wr (w.heap.size + 1) 55 #[.string ⟨#[]⟩, .int .i32 0, .int .u64 0, .int .u64 0, .bool false, .int .u64 0]
theorem Catch.more {w wr w' : World} {y : EntE} (h : Catch w wr y) (k : Kept (fun _ => False) wr w') : Catch w w' y := ⟨h.kept.trans k (fun _ => id) (fun _ _ => id), h.put.kept k id, h.res.kept k id⟩
theorem Catch.set {w wr : World} {y y' : EntE} (h : Catch w wr y) (f : Nat) (v : Value) (he : (#[.string y.q, .int .i32 y.val, .int .u64 (y.fr : Int), .int .u64 (y.till : Int), .bool y.op, .int .u64 (y.kn : Int)] : Array Value).setIfInBounds f v = #[.string y'.q, .int .i32 y'.val, .int .u64 (y'.fr : Int), .int .u64 (y'.till : Int), .bool y'.op, .int .u64 (y'.kn : Int)]) : Catch w (wr.setCell ⟨w.heap.size, f, none⟩ v) y' :=
 ⟨h.kept.setNew _ f v (Nat.le_refl _), by rw [← he]; exact h.put.set f v, h.res.kept (Kept.setCell wr ⟨w.heap.size, f, none⟩ v) (by simp)⟩
theorem Catch.cells {w wr : World} {y : EntE} (h : Catch w wr y) : wr.cell? ⟨w.heap.size, 0, none⟩ = some (.string y.q) ∧ wr.cell? ⟨w.heap.size, 1, none⟩ = some (.int .i32 y.val) ∧ wr.cell? ⟨w.heap.size, 2, none⟩ = some (.int .u64 (y.fr : Int)) ∧ wr.cell? ⟨w.heap.size, 3, none⟩ = some (.int .u64 (y.till : Int)) ∧ wr.cell? ⟨w.heap.size, 4, none⟩ = some (.bool y.op) ∧ wr.cell? ⟨w.heap.size, 5, none⟩ = some (.int .u64 (y.kn : Int)) ∧ (∀ f, wr.frozen? ⟨w.heap.size, f, none⟩ = false) ∧ w.heap.size + 1 < wr.heap.size :=
 ⟨h.put.cell 0, h.put.cell 1, h.put.cell 2, h.put.cell 3, h.put.cell 4, h.put.cell 5, fun f => h.put.free f, h.res.lt⟩
theorem Catch.rcells {w wr : World} {y : EntE} (h : Catch w wr y) : wr.cell? ⟨w.heap.size + 1, 0, none⟩ = some (.string ⟨#[]⟩) ∧ wr.cell? ⟨w.heap.size + 1, 1, none⟩ = some (.int .i32 0) ∧ wr.cell? ⟨w.heap.size + 1, 2, none⟩ = some (.int .u64 0) ∧ wr.cell? ⟨w.heap.size + 1, 3, none⟩ = some (.int .u64 0) ∧ wr.cell? ⟨w.heap.size + 1, 4, none⟩ = some (.bool false) ∧ wr.cell? ⟨w.heap.size + 1, 5, none⟩ = some (.int .u64 0) ∧ (∀ f, wr.frozen? ⟨w.heap.size + 1, f, none⟩ = false) :=
 ⟨h.res.cell 0, h.res.cell 1, h.res.cell 2, h.res.cell 3, h.res.cell 4, h.res.cell 5, fun f => h.res.free f⟩
theorem kept_six' (w W : World) (k : Kept (fun _ => False) w W) (v0 v1 v2 v3 v4 v5 : Value) : Kept (fun _ => False) w ((((((W.setCell ⟨w.heap.size + 1, 0, none⟩ v0).setCell ⟨w.heap.size + 1, 1, none⟩ v1).setCell ⟨w.heap.size + 1, 2, none⟩ v2).setCell ⟨w.heap.size + 1, 3, none⟩ v3).setCell ⟨w.heap.size + 1, 4, none⟩ v4).setCell ⟨w.heap.size + 1, 5, none⟩ v5) :=
 (((((k.setNew _ 0 v0 (by omega)).setNew _ 1 v1 (by omega)).setNew _ 2 v2 (by omega)).setNew _ 3 v3 (by omega)).setNew _ 4 v4 (by omega)).setNew _ 5 v5 (by omega)
theorem Catch.start (w : World) (e : EntE) : Catch w ((w.alloc (.cells #[.string e.q, .int .i32 e.val, .int .u64 (e.fr : Int), .int .u64 (e.till : Int), .bool e.op, .int .u64 (e.kn : Int)] 55)).alloc (.cells #[.string ⟨#[]⟩, .int .i32 0, .int .u64 0, .int .u64 0, .bool false, .int .u64 0] 55)) e := by
 refine ⟨(Kept.alloc _ _ _).allocNew _, (Blk.new w _ _).kept (Kept.alloc _ _ (fun _ => False)) id, ?_⟩
 have := Blk.new (w.alloc (.cells #[.string e.q, .int .i32 e.val, .int .u64 (e.fr : Int), .int .u64 (e.till : Int), .bool e.op, .int .u64 (e.kn : Int)] 55)) 55 #[.string ⟨#[]⟩, .int .i32 0, .int .u64 0, .int .u64 0, .bool false, .int .u64 0]
 simp only [World.size_alloc] at this
 exact this
theorem dcaught_same (w : World) (g o : Nat) (p : NodeP) (e : EntE) (hc2 : w.cell? ⟨g, o + 2, none⟩ = some (.int .u64 (p.horizon : Int))) (hs : e.op = false ∨ p.horizon ≤ e.kn) :
  Calls Tryz.prog 142 #[.pointer (some ⟨g, o, none⟩), .agg #[.string e.q, .int .i32 e.val, .int .u64 (e.fr : Int), .int .u64 (e.till : Int), .bool e.op, .int .u64 (e.kn : Int)]] w fun e' w' => e' = .returned (caughtV (p.caught e)) ∧ Kept (fun _ => False) w w' := by
 have HE : Hid (p.caught e = some e) := by show _ = _; rw [NodeP.caught, if_pos hs]
 have hgl : g < w.heap.size := World.block_lt_of_cell? w _ hc2
 have HV : Hid (caughtV (some e) = .tuple #[.agg #[.string e.q, .int .i32 e.val, .int .u64 (e.fr : Int), .int .u64 (e.till : Int), .bool e.op, .int .u64 (e.kn : Int)], .bool true]) := rfl
 have HST := Catch.start w e
 have HS : Hid (Catch w ((w.alloc (.cells #[.string e.q, .int .i32 e.val, .int .u64 (e.fr : Int), .int .u64 (e.till : Int), .bool e.op, .int .u64 (e.kn : Int)] 55)).alloc (.cells #[.string ⟨#[]⟩, .int .i32 0, .int .u64 0, .int .u64 0, .bool false, .int .u64 0] 55)) e) := HST
 clear HST
 rcases hs with hs | hs
 · obtain ⟨q, val, fr, till, op, kn⟩ := e
  dsimp only at *
  subst hs
  go_enter Tryz.func142, Tryz.ntmps142
  go_wp2_with fail
  have hcs := HS.out.kept.hold hc2
  obtain ⟨y0, y1, y2, y3, y4, y5, yf, ysz⟩ := HS.out.cells
  obtain ⟨z0, z1, z2, z3, z4, z5, zf⟩ := HS.out.rcells
  generalize ((w.alloc (.cells #[.string q, .int .i32 val, .int .u64 (fr : Int), .int .u64 (till : Int), .bool false, .int .u64 (kn : Int)] 55)).alloc (.cells #[.string ⟨#[]⟩, .int .i32 0, .int .u64 0, .int .u64 0, .bool false, .int .u64 0] 55)) = W at HS hcs y0 y1 y2 y3 y4 y5 yf ysz z0 z1 z2 z3 z4 z5 zf ⊢
  go_quiet (fail)
  go_wp2
  refine bodyPost_ret (v := .tuple #[.agg #[.string q, .int .i32 val, .int .u64 (fr : Int), .int .u64 (till : Int), .bool false, .int .u64 (kn : Int)], .bool true]) (by simp [results, Tryz.results142, go_sem, *]) rfl ⟨by rw [HE.out, HV.out], ?_⟩
  exact kept_six' w _ (HS.out.kept.drewN _) _ _ _ _ _ _
 · cases hop : e.op with
  | false =>
   obtain ⟨q, val, fr, till, op, kn⟩ := e
   dsimp only at *
   subst hop
   go_enter Tryz.func142, Tryz.ntmps142
   go_wp2_with fail
   have hcs := HS.out.kept.hold hc2
   obtain ⟨y0, y1, y2, y3, y4, y5, yf, ysz⟩ := HS.out.cells
   obtain ⟨z0, z1, z2, z3, z4, z5, zf⟩ := HS.out.rcells
   generalize ((w.alloc (.cells #[.string q, .int .i32 val, .int .u64 (fr : Int), .int .u64 (till : Int), .bool false, .int .u64 (kn : Int)] 55)).alloc (.cells #[.string ⟨#[]⟩, .int .i32 0, .int .u64 0, .int .u64 0, .bool false, .int .u64 0] 55)) = W at HS hcs y0 y1 y2 y3 y4 y5 yf ysz z0 z1 z2 z3 z4 z5 zf ⊢
   go_quiet (fail)
   go_wp2
   refine bodyPost_ret (v := .tuple #[.agg #[.string q, .int .i32 val, .int .u64 (fr : Int), .int .u64 (till : Int), .bool false, .int .u64 (kn : Int)], .bool true]) (by simp [results, Tryz.results142, go_sem, *]) rfl ⟨by rw [HE.out, HV.out], ?_⟩
   exact kept_six' w _ (HS.out.kept.drewN _) _ _ _ _ _ _
  | true =>
   obtain ⟨q, val, fr, till, op, kn⟩ := e
   dsimp only at *
   subst hop
   have hd : decide ((p.horizon : Int) ≤ (kn : Int)) = true := by simpa using hs
   have hd' : decide (p.horizon ≤ kn) = true := by simpa using hs
   go_enter Tryz.func142, Tryz.ntmps142
   go_wp2_with fail
   have hcs := HS.out.kept.hold hc2
   obtain ⟨y0, y1, y2, y3, y4, y5, yf, ysz⟩ := HS.out.cells
   obtain ⟨z0, z1, z2, z3, z4, z5, zf⟩ := HS.out.rcells
   generalize ((w.alloc (.cells #[.string q, .int .i32 val, .int .u64 (fr : Int), .int .u64 (till : Int), .bool true, .int .u64 (kn : Int)] 55)).alloc (.cells #[.string ⟨#[]⟩, .int .i32 0, .int .u64 0, .int .u64 0, .bool false, .int .u64 0] 55)) = W at HS hcs y0 y1 y2 y3 y4 y5 yf ysz z0 z1 z2 z3 z4 z5 zf ⊢
   go_quiet (fail)
   go_wp2
   refine bodyPost_ret (v := .tuple #[.agg #[.string q, .int .i32 val, .int .u64 (fr : Int), .int .u64 (till : Int), .bool true, .int .u64 (kn : Int)], .bool true]) (by simp [results, Tryz.results142, go_sem, *]) rfl ⟨by rw [HE.out, HV.out], ?_⟩
   exact kept_six' w _ (HS.out.kept.drewN _) _ _ _ _ _ _
end Go.Proofs.YtpfcacedpkaihaaGreat
