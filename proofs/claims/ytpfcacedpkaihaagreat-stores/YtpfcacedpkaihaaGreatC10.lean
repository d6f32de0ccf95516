import Derived.Test.YtpfcacedpkaihaaGreatC9
import Derived.Deep.DeepCutAuto
import Derived.Deep.DrawnRows
namespace Go.Proofs.YtpfcacedpkaihaaGreat
open Go.RowKit
set_option maxRecDepth 100000
set_option maxHeartbeats 16000000
theorem Row.pairs {w : World} {T : TypeId} {v : Value} {l : List (Nat × Int)} (h : Row w T 2 v l.length (l.flatMap histC)) : ∃ ao cap, v = .slice ao l.length cap ∧ ∀ j (hj : j < l.length), ∃ gw, ao = some ⟨gw, 0, none⟩ ∧ gw < w.heap.size ∧ w.cell? ⟨gw, j * 2, none⟩ = some (.int .u64 (l[j].1 : Int)) ∧ w.cell? ⟨gw, j * 2 + 1, none⟩ = some (.int .u8 l[j].2) := by
 obtain ⟨ao, cap, hv, _⟩ := h.form
 refine ⟨ao, cap, hv, fun j hj => ?_⟩
 obtain ⟨gw, cap', hv', ho, hl⟩ := h.block (by omega)
 rw [hv] at hv'
 injection hv' with e1 e2 e3
 have hc : ∀ f, f < 2 → ∀ u, (histC l[j])[f]? = some u → w.cell? ⟨gw, j * 2 + f, none⟩ = some u := fun f hf u hu => h.cell ho _ u (by rw [flat_at histC 2 (fun _ => rfl) l j hj f hf]; exact hu)
 exact ⟨gw, e1, hl, hc 0 (by omega) _ rfl, hc 1 (by omega) _ rfl⟩
theorem dlags (w : World) (g o : Nat) (p : NodeP) (t : Nat) (c0 : w.cell? ⟨g, o, none⟩ = some (.bool p.up)) (c2 : w.cell? ⟨g, o + 2, none⟩ = some (.int .u64 (p.horizon : Int))) (hz : p.horizon ≤ 1000000) :
  Calls Tryz.prog 130 #[.pointer (some ⟨g, o, none⟩), .int .u64 t] w fun e w' => e = .returned (.bool (p.lags t)) ∧ w = w' := by
 have HL : Hid (∀ u z, p.up = u → p.horizon = z → p.lags t = (u && decide ((z : Int) + 40 < (t : Int)))) := fun u z hu hz => by
  unfold NodeP.lags
  rw [hu, hz]
  congr 1
  by_cases h : z + 40 < t
  · rw [decide_eq_true h, decide_eq_true (by omega)]
  · rw [decide_eq_false h, decide_eq_false (by omega)]
 obtain ⟨u, hu⟩ : ∃ u, p.up = u := ⟨_, rfl⟩
 obtain ⟨z, hz'⟩ : ∃ z, p.horizon = z := ⟨_, rfl⟩
 have HE : Hid (p.lags t = (u && decide ((z : Int) + 40 < (t : Int)))) := HL.out u z hu hz'
 rw [hu] at c0
 rw [hz'] at c2 hz
 clear HL hu hz'
 cases u with
 | false =>
  go_enter Tryz.func130, Tryz.ntmps130
  go_wp2
  go_ret
  exact ⟨rt_bool (by rw [HE.out]; rfl), rfl⟩
 | true =>
  go_enter Tryz.func130, Tryz.ntmps130
  go_wp2
  go_ret
  exact ⟨rt_bool (by rw [HE.out]; rfl), rfl⟩
def DNodeE.bare (nd : DNodeE) (u : Bool) (hz : Nat) : DNodeE := ⟨⟨u, nd.p.room, hz, [], [], [], 0, nd.p.flight⟩, nilV, nilV, nilV, nd.fl⟩
def set7 (w : World) (g o : Nat) (u : Bool) (r : Int) (hz : Nat) : World :=
 (((((((w.setCell ⟨g, o, none⟩ (.bool u)).setCell ⟨g, o + 1, none⟩ (.int .i64 r)).setCell ⟨g, o + 2, none⟩ (.int .u64 (hz : Int))).setCell ⟨g, o + 3, none⟩ (.slice none 0 0)).setCell ⟨g, o + 4, none⟩ (.slice none 0 0)).setCell ⟨g, o + 5, none⟩ (.slice none 0 0)).setCell ⟨g, o + 6, none⟩ (.int .u64 0))
theorem nil_own {x : Nat} {P : Prop} (h : Value.ownBlock (.slice none 0 0) = some x) : P := by simp [Value.ownBlock] at h
theorem Dev.reset {w : World} {b k g : Nat} {D : DevS} {nd : DNodeE} (h : Dev w b D) (hnd : D.nodes[k]? = some nd) (ho : D.vn.ownBlock = some g) (u : Bool) (hz : Nat) : DBecame w b D (set7 w g (k * 8) u nd.p.room hz) (D.putN k (nd.bare u hz)) := by
 have s1 := h.cellN hnd ho 0 (by omega) (.bool u) (y := { nd with p := { nd.p with up := u } }) rfl rfl
 have s2 := s1.1.cellN (putN_at _ hnd) ho 1 (by omega) (.int .i64 nd.p.room) (y := { nd with p := { nd.p with up := u } }) rfl rfl
 rw [putN_putN] at s2
 have s3 := s2.1.cellN (putN_at _ hnd) ho 2 (by omega) (.int .u64 (hz : Int)) (y := { nd with p := { nd.p with up := u, horizon := hz } }) rfl rfl
 rw [putN_putN] at s3
 have s4 := s3.1.rowN (putN_at _ hnd) ho 0 3 (by omega) (by omega) ⟨244, 2, nd.hs, nd.p.hists.length, nd.p.hists.flatMap histC⟩ ⟨244, 2, nilV, 0, []⟩ nilV rfl (y := { nd with p := { nd.p with up := u, horizon := hz, hists := [] }, hs := nilV }) rfl rfl (Kept.refl _ _) (Row.nil _ _ _) (fun x hx => nil_own hx)
 rw [putN_putN] at s4
 have s5 := s4.1.rowN (putN_at _ hnd) ho 1 4 (by omega) (by omega) ⟨244, 2, nd.wt, nd.p.waits.length, nd.p.waits.flatMap histC⟩ ⟨244, 2, nilV, 0, []⟩ nilV rfl (y := { nd with p := { nd.p with up := u, horizon := hz, hists := [], waits := [] }, hs := nilV, wt := nilV }) rfl rfl (Kept.refl _ _) (Row.nil _ _ _) (fun x hx => nil_own hx)
 rw [putN_putN] at s5
 have s6 := s5.1.rowN (putN_at _ hnd) ho 2 5 (by omega) (by omega) ⟨227, 7, nd.en, nd.p.ents.length, nd.p.ents.flatMap Go.Proofs.YtpfcacedpkaihaaGreat.heldC⟩ ⟨227, 7, nilV, 0, []⟩ nilV rfl (y := { nd with p := { nd.p with up := u, horizon := hz, hists := [], waits := [], ents := [] }, hs := nilV, wt := nilV, en := nilV }) rfl rfl (Kept.refl _ _) (Row.nil _ _ _) (fun x hx => nil_own hx)
 rw [putN_putN] at s6
 have s7 := s6.1.cellN (putN_at _ hnd) ho 6 (by omega) (.int .u64 0) (y := nd.bare u hz) rfl rfl
 rw [putN_putN] at s7
 exact (((((s1.trans s2).trans s3).trans s4).trans s5).trans s6).trans s7
theorem drise (w : World) (b k g : Nat) (D : DevS) (nd : DNodeE) (z : Nat) (h : Dev w b D) (hnd : D.nodes[k]? = some nd) (ho : D.vn.ownBlock = some g) :
  Calls Tryz.prog 119 #[.pointer (some ⟨g, k * 8, none⟩), .int .u64 z] w fun e w' => e = .returned (.tuple #[]) ∧ Hid (Turns w b D k (nd.p.rise z) w') := by
 have HP : Hid (Turns w b D k (nd.p.rise z) (set7 w g (k * 8) true nd.p.room z)) := ⟨nd.bare true z, rfl, h.reset hnd ho true z⟩
 have c0 : w.cell? ⟨g, k * 8, none⟩ = some (.bool nd.p.up) := h.nodeC hnd ho 0 (by omega) _ rfl
 have c1 : w.cell? ⟨g, k * 8 + 1, none⟩ = some (.int .i64 nd.p.room) := h.nodeC hnd ho 1 (by omega) _ rfl
 have c2 : w.cell? ⟨g, k * 8 + 2, none⟩ = some (.int .u64 (nd.p.horizon : Int)) := h.nodeC hnd ho 2 (by omega) _ rfl
 have c3 : w.cell? ⟨g, k * 8 + 3, none⟩ = some nd.hs := h.nodeC hnd ho 3 (by omega) _ rfl
 have c4 : w.cell? ⟨g, k * 8 + 4, none⟩ = some nd.wt := h.nodeC hnd ho 4 (by omega) _ rfl
 have c5 : w.cell? ⟨g, k * 8 + 5, none⟩ = some nd.en := h.nodeC hnd ho 5 (by omega) _ rfl
 have c6 : w.cell? ⟨g, k * 8 + 6, none⟩ = some (.int .u64 (nd.p.uses : Int)) := h.nodeC hnd ho 6 (by omega) _ rfl
 have fr : ∀ i, w.frozen? ⟨g, i, none⟩ = false := fun i => h.nodeF ho i
 obtain ⟨a3, q3, e3, _⟩ := (h.hists nd (List.mem_of_getElem? hnd)).form
 obtain ⟨a4, q4, e4, _⟩ := (h.waits nd (List.mem_of_getElem? hnd)).form
 obtain ⟨a5, q5, e5, _⟩ := (h.ents nd (List.mem_of_getElem? hnd)).form
 rw [e3] at c3
 rw [e4] at c4
 rw [e5] at c5
 clear h hnd ho e3 e4 e5
 go_enter Tryz.func119, Tryz.ntmps119
 go_wp2
 go_end0
 exact ⟨rfl, HP.out⟩
theorem dfall (w : World) (b k g : Nat) (D : DevS) (nd : DNodeE) (h : Dev w b D) (hnd : D.nodes[k]? = some nd) (ho : D.vn.ownBlock = some g) :
  Calls Tryz.prog 155 #[.pointer (some ⟨g, k * 8, none⟩)] w fun e w' => e = .returned (.tuple #[]) ∧ Hid (Turns w b D k nd.p.fall w') := by
 have HP : Hid (Turns w b D k nd.p.fall (set7 w g (k * 8) false nd.p.room 0)) := ⟨nd.bare false 0, rfl, h.reset hnd ho false 0⟩
 have c0 : w.cell? ⟨g, k * 8, none⟩ = some (.bool nd.p.up) := h.nodeC hnd ho 0 (by omega) _ rfl
 have c1 : w.cell? ⟨g, k * 8 + 1, none⟩ = some (.int .i64 nd.p.room) := h.nodeC hnd ho 1 (by omega) _ rfl
 have c2 : w.cell? ⟨g, k * 8 + 2, none⟩ = some (.int .u64 (nd.p.horizon : Int)) := h.nodeC hnd ho 2 (by omega) _ rfl
 have c3 : w.cell? ⟨g, k * 8 + 3, none⟩ = some nd.hs := h.nodeC hnd ho 3 (by omega) _ rfl
 have c4 : w.cell? ⟨g, k * 8 + 4, none⟩ = some nd.wt := h.nodeC hnd ho 4 (by omega) _ rfl
 have c5 : w.cell? ⟨g, k * 8 + 5, none⟩ = some nd.en := h.nodeC hnd ho 5 (by omega) _ rfl
 have c6 : w.cell? ⟨g, k * 8 + 6, none⟩ = some (.int .u64 (nd.p.uses : Int)) := h.nodeC hnd ho 6 (by omega) _ rfl
 have fr : ∀ i, w.frozen? ⟨g, i, none⟩ = false := fun i => h.nodeF ho i
 obtain ⟨a3, q3, e3, _⟩ := (h.hists nd (List.mem_of_getElem? hnd)).form
 obtain ⟨a4, q4, e4, _⟩ := (h.waits nd (List.mem_of_getElem? hnd)).form
 obtain ⟨a5, q5, e5, _⟩ := (h.ents nd (List.mem_of_getElem? hnd)).form
 rw [e3] at c3
 rw [e4] at c4
 rw [e5] at c5
 clear h hnd ho e3 e4 e5
 go_enter Tryz.func155, Tryz.ntmps155
 go_wp2
 go_end0
 exact ⟨rfl, HP.out⟩
theorem dclear (w : World) (b k g : Nat) (D : DevS) (nd : DNodeE) (h : Dev w b D) (hnd : D.nodes[k]? = some nd) (ho : D.vn.ownBlock = some g) :
  Calls Tryz.prog 156 #[.pointer (some ⟨g, k * 8 + 7, none⟩)] w fun e w' => e = .returned (.tuple #[]) ∧ Hid (Turns w b D k nd.p.clear w') := by
 have c7 : w.cell? ⟨g, k * 8 + 7, none⟩ = some nd.fl := h.nodeC hnd ho 7 (by omega) _ rfl
 have f7 : w.frozen? ⟨g, k * 8 + 7, none⟩ = false := h.nodeF ho _
 have HP : Hid (Turns w b D k nd.p.clear (w.setCell ⟨g, k * 8 + 7, none⟩ (.slice none 0 0))) :=
  ⟨{ nd with p := nd.p.clear, fl := nilV }, rfl, h.rowN hnd ho 3 7 (by omega) (by omega) ⟨192, 2, nd.fl, nd.p.flight.length, nd.p.flight.flatMap histC⟩ ⟨192, 2, nilV, 0, []⟩ nilV rfl rfl rfl (Kept.refl _ _) (Row.nil _ _ _) (fun x hx => nil_own hx)⟩
 obtain ⟨a7, q7, e7, _⟩ := (h.flight nd (List.mem_of_getElem? hnd)).form
 rw [e7] at c7
 clear h hnd ho e7
 go_enter Tryz.func156, Tryz.ntmps156
 go_wp2
 go_end0
 exact ⟨rfl, HP.out⟩
theorem dfull (w : World) (g o : Nat) (ao : Option Addr) (n cap : Nat) (hc : w.cell? ⟨g, o, none⟩ = some (.slice ao n cap)) :
  Calls Tryz.prog 152 #[.pointer (some ⟨g, o, none⟩)] w fun e w' => e = .returned (.bool (decide ((12 : Int) ≤ (n : Int)))) ∧ w = w' := by
 go_enter Tryz.func152, Tryz.ntmps152
 go_wp2
 go_ret
 exact ⟨rfl, rfl⟩
theorem waitsB_take {l : List (Nat × Int)} {t j : Nat} (hj : j < l.length) : waitsB (l.take (j + 1)) t = (waitsB (l.take j) t || decide (l[j].1 = t)) := by
 unfold waitsB
 rw [List.take_succ_eq_append_getElem hj, List.any_append]
 simp
theorem waitsB_hit {l : List (Nat × Int)} {t j : Nat} (hj : j < l.length) (h : l[j].1 = t) : waitsB l t = true := by
 unfold waitsB
 rw [List.any_eq_true]
 exact ⟨l[j], List.getElem_mem hj, by simpa using h⟩
theorem dwaits (w : World) (g o : Nat) (v : Value) (l : List (Nat × Int)) (t : Nat) (hc : w.cell? ⟨g, o + 4, none⟩ = some v) (hr : Row w 244 2 v l.length (l.flatMap histC)) (hl : l.length ≤ 1000) :
  Calls Tryz.prog 151 #[.pointer (some ⟨g, o, none⟩), .int .u64 t] w fun e w' => e = .returned (.bool (waitsB l t)) ∧ Kept (fun _ => False) w w' := by
 obtain ⟨ao, cap, hv, hp⟩ := hr.pairs
 have HP : Hid (∀ j (hj : j < l.length), ∃ gw, ao = some ⟨gw, 0, none⟩ ∧ gw < w.heap.size ∧ w.cell? ⟨gw, j * 2, none⟩ = some (.int .u64 (l[j].1 : Int)) ∧ w.cell? ⟨gw, j * 2 + 1, none⟩ = some (.int .u8 l[j].2)) := hp
 subst hv
 clear hp hr
 go_enter Tryz.func151, Tryz.ntmps151
 go_wp2
 go_loopw [12] (fun iv wr => ∃ j : Nat, j ≤ l.length ∧ iv = .int .i64 j ∧ Hid (waitsB (l.take j) t = false ∧ Kept (fun _ => False) w wr)) (fun iv _ => l.length - (intOf iv).toNat)
 case atStart => exact ⟨0, Nat.zero_le _, rfl, rfl, Kept.refl _ _⟩
 case round =>
  obtain ⟨j, hj, rfl, HK⟩ := hrel
  by_cases hlt : j < l.length
  · obtain ⟨gw, hao, hgl, p0, p1⟩ := HP.out j hlt
   obtain ⟨x, hx⟩ : ∃ x, x = l[j] := ⟨_, rfl⟩
   rw [← hx] at p0 p1
   have d0 := HK.out.2.hold p0
   have d1 := HK.out.2.hold p1
   have HX : Hid (l[j].1 = x.1) := by rw [hx]; rfl
   have hj0 : (0 : Int) ≤ (j : Int) := by omega
   have hj1 : (j : Int) < (l.length : Int) := by omega
   clear hx p0 p1 hgl
   subst hao
   by_cases he : x.1 = t
   · have hb : ((x.1 : Int) == (t : Int)) = true := by rw [he]; exact beq_self_eq_true _
    have HW : Hid (waitsB l t = true) := waitsB_hit hlt (HX.out.trans he)
    clear he
    go_wp2
    go_ret
    exact ⟨rt_bool HW.out.symm, HK.out.2.allocNew _⟩
   · have hb : ((x.1 : Int) == (t : Int)) = false := beq_eq_false_iff_ne.mpr (by omega)
    have HW : Hid (waitsB (l.take (j + 1)) t = false) := by
     show _ = _
     rw [waitsB_take hlt, HK.out.1, HX.out]
     simpa using he
    clear he
    go_wp2
    go_roundw
    case rel => exact ⟨j + 1, by omega, by go_num, HW.out, HK.out.2.allocNew _⟩
    case measure => simp [intOf]; omega
  · have hjn : j = l.length := by omega
   subst hjn
   have HW : Hid (waitsB l t = false) := by have := HK.out.1; rwa [List.take_length] at this
   go_wp2
   go_ret
   exact ⟨rt_bool HW.out.symm, HK.out.2⟩
theorem wroteL_take {l : List (Nat × Int)} {t j : Nat} (hj : j < l.length) (h : wroteL (l.take j) t = none) : wroteL (l.take (j + 1)) t = if l[j].1 = t then some l[j].2 else none := by
 unfold wroteL at h ⊢
 rw [List.take_succ_eq_append_getElem hj, List.find?_append]
 have : (l.take j).find? (fun c => decide (c.1 = t)) = none := by simpa using h
 rw [this]
 by_cases he : l[j].1 = t <;> simp [he]
theorem wroteL_hit {l : List (Nat × Int)} {t j : Nat} (hj : j < l.length) (h : wroteL (l.take j) t = none) (he : l[j].1 = t) : wroteL l t = some l[j].2 := by
 have h1 := wroteL_take hj h
 rw [if_pos he] at h1
 have e : l = l.take (j + 1) ++ l.drop (j + 1) := (List.take_append_drop _ _).symm
 obtain ⟨y0, hy0⟩ : ∃ y, y = l[j].2 := ⟨_, rfl⟩
 rw [← hy0] at h1 ⊢
 clear hy0 he h
 unfold wroteL at h1 ⊢
 rw [e, List.find?_append]
 cases hh : (l.take (j + 1)).find? (fun c => decide (c.1 = t)) with
 | none => rw [hh] at h1; simp at h1
 | some y => rw [hh] at h1; simpa using h1
def wroteV (r : Option Int) : Value := .tuple #[.int .u8 (r.getD 0), .bool r.isSome]
theorem dwrote (w : World) (g o : Nat) (v : Value) (l : List (Nat × Int)) (t : Nat) (hc : w.cell? ⟨g, o + 3, none⟩ = some v) (hr : Row w 244 2 v l.length (l.flatMap histC)) (hl : l.length ≤ 1000) :
  Calls Tryz.prog 161 #[.pointer (some ⟨g, o, none⟩), .int .u64 t] w fun e w' => e = .returned (wroteV (wroteL l t)) ∧ Kept (fun _ => False) w w' := by
 obtain ⟨ao, cap, hv, hp⟩ := hr.pairs
 have HP : Hid (∀ j (hj : j < l.length), ∃ gw, ao = some ⟨gw, 0, none⟩ ∧ gw < w.heap.size ∧ w.cell? ⟨gw, j * 2, none⟩ = some (.int .u64 (l[j].1 : Int)) ∧ w.cell? ⟨gw, j * 2 + 1, none⟩ = some (.int .u8 l[j].2)) := hp
 subst hv
 clear hp hr
 go_enter Tryz.func161, Tryz.ntmps161
 go_wp2
 go_loopw [13] (fun iv wr => ∃ j : Nat, j ≤ l.length ∧ iv = .int .i64 j ∧ Hid (wroteL (l.take j) t = none ∧ Kept (fun _ => False) w wr)) (fun iv _ => l.length - (intOf iv).toNat)
 case atStart => exact ⟨0, Nat.zero_le _, rfl, rfl, Kept.refl _ _⟩
 case round =>
  obtain ⟨j, hj, rfl, HK⟩ := hrel
  by_cases hlt : j < l.length
  · obtain ⟨gw, hao, hgl, p0, p1⟩ := HP.out j hlt
   obtain ⟨x, hx⟩ : ∃ x, x = l[j] := ⟨_, rfl⟩
   rw [← hx] at p0 p1
   have d0 := HK.out.2.hold p0
   have d1 := HK.out.2.hold p1
   have HX : Hid (l[j] = x) := hx.symm
   have hj0 : (0 : Int) ≤ (j : Int) := by omega
   have hj1 : (j : Int) < (l.length : Int) := by omega
   clear hx p0 p1 hgl
   subst hao
   by_cases he : x.1 = t
   · have hb : ((x.1 : Int) == (t : Int)) = true := by rw [he]; exact beq_self_eq_true _
    have HW : Hid (wroteL l t = some x.2) := by
     have := wroteL_hit hlt HK.out.1 (by rw [HX.out]; exact he)
     rwa [HX.out] at this
    clear he
    go_wp2
    go_ret2
    exact ⟨by rw [HW.out]; rfl, HK.out.2.allocNew _⟩
   · have hb : ((x.1 : Int) == (t : Int)) = false := beq_eq_false_iff_ne.mpr (by omega)
    have HW : Hid (wroteL (l.take (j + 1)) t = none) := by
     show _ = _
     rw [wroteL_take hlt HK.out.1, HX.out, if_neg he]
    clear he
    go_wp2
    go_roundw
    case rel => exact ⟨j + 1, by omega, by go_num, HW.out, HK.out.2.allocNew _⟩
    case measure => simp [intOf]; omega
  · have hjn : j = l.length := by omega
   subst hjn
   have HW : Hid (wroteL l t = none) := by have := HK.out.1; rwa [List.take_length] at this
   go_wp2
   go_ret2
   exact ⟨by rw [HW.out]; rfl, HK.out.2⟩
structure Grow {α : Type} (T : TypeId) (size : Nat) (C : α → List Value) (w wr : World) (v : Value) (l : List α) : Prop where
 row : Row wr T size v l.length (l.flatMap C)
 kept : Kept (fun _ => False) w wr
 new : ∀ k, v.ownBlock = some k → w.heap.size ≤ k
theorem Grow.start {α : Type} (T : TypeId) (size : Nat) (C : α → List Value) (w : World) : Grow T size C w w (.slice none 0 0) [] := ⟨Row.nil _ _ _, Kept.refl _ _, fun _ hk => nil_own hk⟩
theorem Grow.more {α : Type} {T : TypeId} {size : Nat} {C : α → List Value} {w wr w' : World} {v : Value} {l : List α} (h : Grow T size C w wr v l) (hk : Kept (fun _ => False) wr w') : Grow T size C w w' v l :=
 ⟨h.row.kept hk (fun _ _ => id), h.kept.trans hk (fun _ => id) (fun _ _ => id), h.new⟩
theorem Grow.next {α : Type} {T : TypeId} {size : Nat} {C : α → List Value} {w wr w' : World} {v v' : Value} {l : List α} {x : α} (h : Grow T size C w wr v l) (hA : Appended wr w' T size v v' l.length 1 (l.flatMap C) (C x)) : Grow T size C w w' v' (l ++ [x]) := by
 refine ⟨by rw [List.length_append, List.flatMap_append]; simpa using hA.row, h.kept.trans hA.kept (fun _ => id) (fun k hk he => by have := h.new k he; omega), fun k hk => ?_⟩
 rcases hA.own with e | e
 · exact h.new k (by rw [← e]; exact hk)
 · exact Nat.le_trans h.kept.size (e k hk)
theorem Grow.own {α : Type} {T : TypeId} {size : Nat} {C : α → List Value} {w wr : World} {v : Value} {l : List α} (h : Grow T size C w wr v l) {P : Nat → Prop} : ∀ x, v.ownBlock = some x → P x ∨ w.heap.size ≤ x := fun x hx => .inr (h.new x hx)
theorem oneCell_pair (x : Nat × Int) : ∀ u ∈ histC x, u.oneCell' = true := by
 intro u hu; simp [histC] at hu; rcases hu with rfl | rfl <;> rfl
theorem news_pair (w : World) (x : Nat × Int) (t : TypeId) : ∀ j u, (histC x)[j]? = some u → (w.alloc (.cells #[.int .u64 (x.1 : Int), .int .u8 x.2] t)).cell? ((⟨w.heap.size, 0, none⟩ : Addr).add j) = some u := by
 intro j u hj
 have e' : (⟨w.heap.size, 0, none⟩ : Addr).add j = ⟨w.heap.size, j, none⟩ := by cases j <;> simp [Addr.add]
 rw [e', World.cell?_alloc_at _ _ _ _ rfl]
 simpa [histC] using hj
theorem oneCell_held (x : HeldE) : ∀ u ∈ heldC x, u.oneCell' = true := by
 intro u hu; simp [heldC] at hu; rcases hu with rfl | rfl | rfl | rfl | rfl | rfl | rfl <;> rfl
theorem news_held (w : World) (x : HeldE) (t : TypeId) : ∀ j u, (heldC x)[j]? = some u → (w.alloc (.cells #[.string x.e.q, .int .i32 x.e.val, .int .u64 (x.e.fr : Int), .int .u64 (x.e.till : Int), .bool x.e.op, .int .u64 (x.e.kn : Int), .int .u64 (x.used : Int)] t)).cell? ((⟨w.heap.size, 0, none⟩ : Addr).add j) = some u := by
 intro j u hj
 have e' : (⟨w.heap.size, 0, none⟩ : Addr).add j = ⟨w.heap.size, j, none⟩ := by cases j <;> simp [Addr.add]
 rw [e', World.cell?_alloc_at _ _ _ _ rfl]
 simpa [heldC] using hj
theorem Tryz.infoSent : (Tryz.prog.info? 192).map (fun i => (i.zero, i.size, i.bytes)) = some (some (.agg #[.int .u64 0, .int .u8 0]), 2, 16) := by kernel_rfl
theorem Tryz.infoHeld : (Tryz.prog.info? 227).map (fun i => (i.zero, i.size, i.bytes)) = some (some (.agg #[.string ByteArray.empty, .int .i32 0, .int .u64 0, .int .u64 0, .bool false, .int .u64 0, .int .u64 0]), 7, 64) := by kernel_rfl
def tkL {α : Type} (l : List α) (i k : Nat) : List α := (l.take k).eraseIdx i
theorem tkL_all {α : Type} (l : List α) (i : Nat) : tkL l i l.length = l.eraseIdx i := by rw [tkL, List.take_length]
theorem tkL_skip {α : Type} (l : List α) (i : Nat) (h : i < l.length) : tkL l i (i + 1) = tkL l i i := by
 have hl : (l.take i).length = i := by rw [List.length_take]; omega
 have e2 : (l.take i).eraseIdx i = l.take i := List.eraseIdx_of_length_le (by omega)
 have e1 : (l.take i ++ [l[i]]).eraseIdx i = l.take i ++ [l[i]].eraseIdx (i - (l.take i).length) := List.eraseIdx_append_of_length_le (by omega) _
 rw [hl, Nat.sub_self] at e1
 unfold tkL
 rw [List.take_succ_eq_append_getElem h, e1, e2]
 simp
theorem tkL_next {α : Type} (l : List α) (i k : Nat) (hk : k < l.length) (hne : k ≠ i) : tkL l i (k + 1) = tkL l i k ++ [l[k]] := by
 unfold tkL
 rw [List.take_succ_eq_append_getElem hk]
 by_cases h : i < k
 · rw [List.eraseIdx_append_of_lt_length (by simp; omega)]
 · rw [List.eraseIdx_of_length_le (by simp; omega), List.eraseIdx_of_length_le (by simp; omega)]
theorem tkL_len {α : Type} (l : List α) (i k : Nat) : (tkL l i k).length ≤ l.length := by
 unfold tkL
 have h1 := List.length_eraseIdx_le (l.take k) i
 have h2 : (l.take k).length ≤ l.length := by rw [List.length_take]; omega
 omega
theorem filter_take {α : Type} (l : List α) (f : α → Bool) (k : Nat) (hk : k < l.length) : (l.take (k + 1)).filter f = (l.take k).filter f ++ if f l[k] then [l[k]] else [] := by
 rw [List.take_succ_eq_append_getElem hk, List.filter_append]
 congr 1
 cases h : f l[k] <;> simp [h]
theorem filter_len {α : Type} (l : List α) (f : α → Bool) (k : Nat) : ((l.take k).filter f).length ≤ l.length := by
 have h1 := List.length_filter_le f (l.take k)
 have h2 : (l.take k).length ≤ l.length := by rw [List.length_take]; omega
 omega
theorem Appended.from {W W1 w' : World} {T : TypeId} {size : Nat} {v v' : Value} {n m : Nat} {xs news : List Value} (hk : Kept (fun _ => False) W W1) (h : Appended W1 w' T size v v' n m xs news) : Appended W w' T size v v' n m xs news :=
 ⟨h.row, hk.trans h.kept (fun _ => False.elim) (fun _ _ => id), h.own.imp id fun hh k hk' => Nat.le_trans hk.size (hh k hk')⟩
theorem Appended.new {W w' : World} {T : TypeId} {size : Nat} {v v' : Value} {n m : Nat} {xs news : List Value} (h : Appended W w' T size v v' n m xs news) : ∀ x, v'.ownBlock = some x → v.ownBlock = some x ∨ W.heap.size ≤ x := fun x hx => h.own.imp (fun e => by rw [← e]; exact hx) (fun e => e x hx)
theorem Dev.appIn {W W1 w' : World} {b k g : Nat} {D : DevS} {nd : DNodeE} {T : TypeId} {size : Nat} {v v' : Value} {n m : Nat} {xs news : List Value} (h : Dev W b D) (hnd : D.nodes[k]? = some nd) (ho : D.vn.ownBlock = some g) (f : Nat) (r : RowD) (hr : (dnodeR nd)[f]? = some r) (hv : r.v = v) (hk : Kept (fun _ => False) W W1) (hA : Appended W1 w' T size v v' n m xs news) :
  (∀ c u, c < 8 → (dnodeC nd)[c]? = some u → w'.cell? ⟨g, k * 8 + c, none⟩ = some u) ∧ (∀ i, w'.frozen? ⟨g, i, none⟩ = false) ∧ Appended W w' T size v v' n m xs news := by
 have hA' := Appended.from hk hA
 have hm := dnodeR_mem' hnd hr
 obtain ⟨hkl, hnd'⟩ := List.getElem?_eq_some_iff.mp hnd
 have hrn : Row w' 139 8 D.vn D.nodes.length (D.nodes.flatMap dnodeC) := h.nodes.kept hA'.kept fun j hj he => (h.all.row r hm).ne_row h.nodes (dnodeR_ne (List.mem_of_getElem? hr)) j (by rw [hv]; exact he) hj
 exact ⟨fun c u hc hu => hrn.cell ho _ u (by rw [dnode_at D.nodes k hkl c hc, hnd']; exact hu), fun i => hrn.free ho i, hA'⟩
theorem Dev.putEnts {w wr : World} {b k g : Nat} {D : DevS} {nd : DNodeE} (h : Dev w b D) (hnd : D.nodes[k]? = some nd) (ho : D.vn.ownBlock = some g) (l : List HeldE) (v : Value) (hk : Kept (fun j => nd.en.ownBlock = some j) w wr) (hr : Row wr 227 7 v l.length (l.flatMap Go.Proofs.YtpfcacedpkaihaaGreat.heldC)) (hw : ∀ x, v.ownBlock = some x → nd.en.ownBlock = some x ∨ w.heap.size ≤ x) : DBecame w b D (wr.setCell ⟨g, k * 8 + 5, none⟩ v) (D.putN k { nd with p := { nd.p with ents := l }, en := v }) :=
 h.rowN hnd ho 2 5 (by omega) (by omega) ⟨227, 7, nd.en, nd.p.ents.length, nd.p.ents.flatMap Go.Proofs.YtpfcacedpkaihaaGreat.heldC⟩ ⟨227, 7, v, l.length, l.flatMap Go.Proofs.YtpfcacedpkaihaaGreat.heldC⟩ v rfl rfl rfl hk hr hw
theorem Dev.putFl {w wr : World} {b k g : Nat} {D : DevS} {nd : DNodeE} (h : Dev w b D) (hnd : D.nodes[k]? = some nd) (ho : D.vn.ownBlock = some g) (l : List (Nat × Int)) (v : Value) (hk : Kept (fun j => nd.fl.ownBlock = some j) w wr) (hr : Row wr 192 2 v l.length (l.flatMap histC)) (hw : ∀ x, v.ownBlock = some x → nd.fl.ownBlock = some x ∨ w.heap.size ≤ x) : DBecame w b D (wr.setCell ⟨g, k * 8 + 7, none⟩ v) (D.putN k { nd with p := { nd.p with flight := l }, fl := v }) :=
 h.rowN hnd ho 3 7 (by omega) (by omega) ⟨192, 2, nd.fl, nd.p.flight.length, nd.p.flight.flatMap histC⟩ ⟨192, 2, v, l.length, l.flatMap histC⟩ v rfl rfl rfl hk hr hw
theorem row_snoc {α : Type} {w : World} {T : TypeId} {size : Nat} {C : α → List Value} {v : Value} {l : List α} {x : α} (h : Row w T size v (l.length + 1) (l.flatMap C ++ C x)) : Row w T size v (l ++ [x]).length ((l ++ [x]).flatMap C) := by
 rw [List.length_append, List.flatMap_append]; simpa using h
theorem Row.helds {w : World} {T : TypeId} {v : Value} {l : List HeldE} (h : Row w T 7 v l.length (l.flatMap heldC)) : ∃ ao cap, v = .slice ao l.length cap ∧ ∀ j (hj : j < l.length), ∃ ge, ao = some ⟨ge, 0, none⟩ ∧ ge < w.heap.size ∧ ∀ f, f < 7 → w.cell? ⟨ge, j * 7 + f, none⟩ = (heldC l[j])[f]? := by
 obtain ⟨ao, cap, hv, _⟩ := h.form
 refine ⟨ao, cap, hv, fun j hj => ?_⟩
 obtain ⟨ge, cap', hv', ho, hl⟩ := h.block (by omega)
 rw [hv] at hv'
 injection hv' with e1 e2 e3
 refine ⟨ge, e1, hl, fun f hf => ?_⟩
 obtain ⟨u, hu⟩ : ∃ u, (heldC l[j])[f]? = some u := ⟨_, List.getElem?_eq_getElem (show f < 7 from hf)⟩
 rw [hu]
 exact h.cell ho _ u (by rw [held_at l j hj f hf]; exact hu)
theorem dremove (w : World) (b k g : Nat) (D : DevS) (nd : DNodeE) (i : Nat) (h : Dev w b D) (hnd : D.nodes[k]? = some nd) (ho : D.vn.ownBlock = some g) (hl : nd.p.ents.length ≤ 1000) :
  Calls Tryz.prog 149 #[.pointer (some ⟨g, k * 8, none⟩), .int .i64 (i : Int)] w fun e w' => e = .returned (.tuple #[]) ∧ Hid (Turns w b D k (nd.p.remove i) w') := by
 have hr := h.ents nd (List.mem_of_getElem? hnd)
 obtain ⟨ao, cap, hv, hp⟩ := hr.helds
 have c7 : w.cell? ⟨g, k * 8 + 5, none⟩ = some nd.en := h.nodeC hnd ho 5 (by omega) _ rfl
 have f7 : w.frozen? ⟨g, k * 8 + 5, none⟩ = false := h.nodeF ho _
 have hgl : g < w.heap.size := World.block_lt_of_cell? w _ c7
 have HC : Hid (∀ W, Kept (fun _ => False) w W → W.cell? ⟨g, k * 8 + 5, none⟩ = some nd.en ∧ W.frozen? ⟨g, k * 8 + 5, none⟩ = false) := fun W hW => ⟨hW.hold c7, (World.frozen?_of_block (a := ⟨g, k * 8 + 5, none⟩) (hW.block g hgl id)).trans f7⟩
 rw [hv] at c7 HC
 obtain ⟨l, hll⟩ : ∃ l, l = nd.p.ents := ⟨_, rfl⟩
 have HP : Hid (∀ j (hj : j < l.length), ∃ ge, ao = some ⟨ge, 0, none⟩ ∧ ge < w.heap.size ∧ ∀ f, f < 7 → w.cell? ⟨ge, j * 7 + f, none⟩ = (heldC l[j])[f]?) := by rw [hll]; exact hp
 have HF : Hid (∀ (v : Value) (wr : World), Grow 227 7 heldC w wr v (l.eraseIdx i) → Turns w b D k (nd.p.remove i) (wr.setCell ⟨g, k * 8 + 5, none⟩ v)) := fun v wr hG => by rw [hll] at hG; exact ⟨_, rfl, h.putEnts hnd ho _ v (hG.kept.mono (fun _ => False.elim)) hG.row hG.own⟩
 rw [← hll] at hl c7 HC
 obtain ⟨i0, hi, hz0, hz1, hz2⟩ := info_parts Tryz.infoHeld
 have HI : Hid (Tryz.prog.info? 227 = some i0 ∧ i0.zero = some (.agg #[.string ByteArray.empty, .int .i32 0, .int .u64 0, .int .u64 0, .bool false, .int .u64 0, .int .u64 0]) ∧ i0.size = 7 ∧ i0.bytes = 64) := ⟨hi, hz0, hz1, hz2⟩
 clear hi hz0 hz1 hz2 h hnd ho hr hp hv hll f7
 go_enter Tryz.func149, Tryz.ntmps149
 go_wp2
 go_loopw [4, 12] (fun v iv wr => ∃ j : Nat, j ≤ l.length ∧ iv = .int .i64 j ∧ Hid (Grow 227 7 heldC w wr v (tkL l i j))) (fun _ iv _ => l.length - (intOf iv).toNat)
 case atStart => exact ⟨0, Nat.zero_le _, rfl, by rw [show tkL l i 0 = [] by simp [tkL]]; exact Grow.start _ _ _ _⟩
 case round =>
  obtain ⟨j, hj, rfl, HG⟩ := hrel
  obtain ⟨av, cv, hvv, _⟩ := HG.out.row.form
  have hfl := tkL_len l i j
  obtain ⟨n, hn⟩ : ∃ n, n = (tkL l i j).length := ⟨_, rfl⟩
  rw [← hn] at hvv hfl
  subst hvv
  by_cases hlt : j < l.length
  · obtain ⟨ge, hao, hgw, hce⟩ := HP.out j hlt
   have HTN := tkL_next l i j hlt
   have HTS := tkL_skip l i
   obtain ⟨y, hy⟩ : ∃ y, y = l[j] := ⟨_, rfl⟩
   rw [← hy] at hce HTN
   obtain ⟨x0, x1, x2, x3, x4, x5, x6⟩ := heldBlk (w := wr) (ge := ge) (o := j * 7) (x := y) fun f hf => HG.out.kept.hold' (hce f hf) hf
   have hj0 : (0 : Int) ≤ (j : Int) := by omega
   have hj1 : (j : Int) < (l.length : Int) := by omega
   clear hy hce hgw
   subst hao
   by_cases he : j = i
   · have HX : Hid (tkL l i (j + 1) = tkL l i j) := by show _ = _; rw [he]; exact HTS (by omega)
    have hb : (((j : Int)) != (i : Int)) = false := by simp [he]
    clear HTN HTS he hn
    go_wp2
    go_roundw
    case rel => exact ⟨j + 1, by omega, by go_num, by rw [HX.out]; exact HG.out.more (Kept.alloc _ _ _)⟩
    case measure => simp [intOf]; omega
   · have HX : Hid (tkL l i (j + 1) = tkL l i j ++ [y]) := HTN he
    have hb : (((j : Int)) != (i : Int)) = true := by simp; omega
    have HROW : Hid (∀ o o', Row ((wr.alloc o).alloc o') 227 7 (.slice av n cv) n ((tkL l i j).flatMap heldC)) := fun o o' => by have := (HG.out.row.kept (Kept.alloc wr o (fun _ => False)) (fun _ _ => id)).kept (Kept.alloc _ o' (fun _ => False)) (fun _ _ => id); rw [← hn] at this; exact this
    have HNX : Hid (∀ (o o' : Obj) (w' : World) (v' : Value), Appended ((wr.alloc o).alloc o') w' 227 7 (.slice av n cv) v' n 1 ((tkL l i j).flatMap heldC) (heldC y) → Grow 227 7 heldC w w' v' (tkL l i j ++ [y])) := by
     intro o o' w' v' hA
     rw [hn] at hA HG
     exact (HG.out.more ((Kept.alloc wr o (fun _ => False)).allocNew o')).next hA
    have b1 : n + 1 ≤ maxLen := by unfold maxLen; omega
    have b2 : (n + 1) * 64 ≤ 140737488355328 := by omega
    clear HTN HTS he hn
    go_wp2_with (at_builtin; go_must (refine wpList_append_mine _ rfl (.tmp 20) (.tmp 22) 131 rfl 227 i0 (.agg #[.string ByteArray.empty, .int .i32 0, .int .u64 0, .int .u64 0, .bool false, .int .u64 0, .int .u64 0]) 7 64 Tryz.underlying131 HI.out.1 HI.out.2.1 HI.out.2.2.1 HI.out.2.2.2 rfl (by decide) (.slice av n cv) n _ rfl (HROW.out _ _) ⟨wr.heap.size + 1, 0, none⟩ 1 1 (heldC y) rfl rfl (fun j u hj => by simpa using news_held (wr.alloc _) y _ j u hj) (oneCell_held y) b1 b2 ?_); intro v' w1 hA; have HA : Hid (Grow 227 7 heldC w w1 v' (tkL l i j ++ [y])) := HNX.out _ _ _ _ hA; clear hA)
    go_roundw
    case rel => exact ⟨j + 1, by omega, by go_num, by rw [HX.out]; exact HA.out⟩
    case measure => simp [intOf]; omega
  · have hjn : j = l.length := by omega
   subst hjn
   obtain ⟨d7, e7⟩ := HC.out wr HG.out.kept
   have HZ : Hid (Turns w b D k (nd.p.remove i) (wr.setCell ⟨g, k * 8 + 5, none⟩ (.slice av n cv))) := HF.out _ _ (by have := HG.out; rwa [tkL_all] at this)
   clear hn
   go_wp2
   go_end0
   exact ⟨rfl, HZ.out⟩
theorem parseK (q : ByteArray) (W : World) (hq : q.size ≤ maxLen) : Calls Tryz.prog 71 #[.string q] W fun e w' => ∃ n er : Int, e = .returned (.tuple #[.agg #[.int .u8 (keysQ q), .int .i64 n], .int .i64 er]) ∧ Kept (fun _ => False) W w' :=
 (qParse_any q W hq).mono fun _ _ hp => ⟨_, _, hp.1, Kept.of_below hp.2 _⟩
end Go.Proofs.YtpfcacedpkaihaaGreat
