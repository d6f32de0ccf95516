/- The program's nodes and links (packages memory, links): Up, Horizon, Lags, Rise, Fall, Clear, full, waits, wrote, walked. -/
import Derived.Test.YtpfcacedpkaihaaGreatDs
namespace Go.Proofs.YtpfcacedpkaihaaGreat
open Go.RowKit

/-- the cells of a row of pairs. -/
theorem Row.pairs {w : World} {T : TypeId} {v : Value} {l : List (Nat × Int)} (h : Row w T 2 v l.length (l.flatMap histC)) : ∃ ao cap, v = .slice ao l.length cap ∧ ∀ j (hj : j < l.length), ∃ gw, ao = some ⟨gw, 0, none⟩ ∧ gw < w.heap.size ∧ w.cell? ⟨gw, j * 2, none⟩ = some (.int .u64 (l[j].1 : Int)) ∧ w.cell? ⟨gw, j * 2 + 1, none⟩ = some (.int .u8 l[j].2) := by
  obtain ⟨ao, cap, hv, _⟩ := h.form
  refine ⟨ao, cap, hv, fun j hj => ?_⟩
  obtain ⟨gw, cap', hv', ho, hl⟩ := h.block (by omega)
  rw [hv] at hv'
  injection hv' with e1 e2 e3
  have hc : ∀ f, f < 2 → ∀ u, (histC l[j])[f]? = some u → w.cell? ⟨gw, j * 2 + f, none⟩ = some u := fun f hf u hu => h.cell ho _ u (by rw [flat_at histC 2 (fun _ => rfl) l j hj f hf]; exact hu)
  exact ⟨gw, e1, hl, hc 0 (by omega) _ rfl, hc 1 (by omega) _ rfl⟩

set_option maxHeartbeats 400000 in
theorem dup (w : World) (g o : Nat) (u : Bool) (hc : w.cell? ⟨g, o, none⟩ = some (.bool u)) :
    Calls Tryz.prog 118 #[.pointer (some ⟨g, o, none⟩)] w fun e w' => e = .returned (.bool u) ∧ w = w' := by
  go_enter Tryz.func118, Tryz.ntmps118
  go_wp2
  go_ret
  exact ⟨rfl, rfl⟩

set_option maxHeartbeats 400000 in
theorem dhorizon (w : World) (g o : Nat) (z : Nat) (hc : w.cell? ⟨g, o + 2, none⟩ = some (.int .u64 (z : Int))) :
    Calls Tryz.prog 120 #[.pointer (some ⟨g, o, none⟩)] w fun e w' => e = .returned (.int .u64 (z : Int)) ∧ w = w' := by
  go_enter Tryz.func120, Tryz.ntmps120
  go_wp2
  go_ret
  exact ⟨rfl, rfl⟩

set_option maxHeartbeats 400000 in
theorem dlags (w : World) (g o : Nat) (p : NodeP) (t : Nat) (c0 : w.cell? ⟨g, o, none⟩ = some (.bool p.up)) (c2 : w.cell? ⟨g, o + 2, none⟩ = some (.int .u64 (p.horizon : Int))) (hz : p.horizon ≤ 1000000) :
    Calls Tryz.prog 130 #[.pointer (some ⟨g, o, none⟩), .int .u64 t] w fun e w' => e = .returned (.bool (p.lags t)) ∧ w = w' := by
  have HL : Hid (∀ u z, p.up = u → p.horizon = z → p.lags t = (u && decide ((z : Int) + 40 < (t : Int)))) := fun u z hu hz => by
    unfold NodeP.lags
    rw [hu, hz]
    congr 1
    by_cases h : z + 40 < t
    · rw [decide_eq_true h, decide_eq_true (by omega)]
    · rw [decide_eq_false h, decide_eq_false (by omega)]
  obtain ⟨u, hu⟩ : ∃ u, p.up = u := ⟨_, rfl⟩
  obtain ⟨z, hz'⟩ : ∃ z, p.horizon = z := ⟨_, rfl⟩
  have HE : Hid (p.lags t = (u && decide ((z : Int) + 40 < (t : Int)))) := HL.out u z hu hz'
  rw [hu] at c0
  rw [hz'] at c2 hz
  clear HL hu hz'
  cases u with
  | false =>
    go_enter Tryz.func130, Tryz.ntmps130
    go_wp2
    go_ret
    exact ⟨rt_bool (by rw [HE.out]; rfl), rfl⟩
  | true =>
    go_enter Tryz.func130, Tryz.ntmps130
    go_wp2
    go_ret
    exact ⟨rt_bool (by rw [HE.out]; rfl), rfl⟩

/-- a node with nothing but its link. -/
def DNodeE.bare (nd : DNodeE) (u : Bool) (hz : Nat) : DNodeE := ⟨⟨u, nd.p.room, hz, [], [], [], 0, nd.p.flight⟩, nilV, nilV, nilV, nd.fl⟩
def set7 (w : World) (g o : Nat) (u : Bool) (r : Int) (hz : Nat) : World :=
  (((((((w.setCell ⟨g, o, none⟩ (.bool u)).setCell ⟨g, o + 1, none⟩ (.int .i64 r)).setCell ⟨g, o + 2, none⟩ (.int .u64 (hz : Int))).setCell ⟨g, o + 3, none⟩ (.slice none 0 0)).setCell ⟨g, o + 4, none⟩ (.slice none 0 0)).setCell ⟨g, o + 5, none⟩ (.slice none 0 0)).setCell ⟨g, o + 6, none⟩ (.int .u64 0))
theorem nil_own {x : Nat} {P : Prop} (h : Value.ownBlock (.slice none 0 0) = some x) : P := by simp [Value.ownBlock] at h
theorem Dev.reset {w : World} {b k g : Nat} {D : DevS} {nd : DNodeE} (h : Dev w b D) (hnd : D.nodes[k]? = some nd) (ho : D.vn.ownBlock = some g) (u : Bool) (hz : Nat) : DBecame w b D (set7 w g (k * 8) u nd.p.room hz) (D.putN k (nd.bare u hz)) := by
  have s1 := h.cellN hnd ho 0 (by omega) (.bool u) (y := { nd with p := { nd.p with up := u } }) rfl rfl
  have s2 := s1.1.cellN (putN_at _ hnd) ho 1 (by omega) (.int .i64 nd.p.room) (y := { nd with p := { nd.p with up := u } }) rfl rfl
  rw [putN_putN] at s2
  have s3 := s2.1.cellN (putN_at _ hnd) ho 2 (by omega) (.int .u64 (hz : Int)) (y := { nd with p := { nd.p with up := u, horizon := hz } }) rfl rfl
  rw [putN_putN] at s3
  have s4 := s3.1.rowN (putN_at _ hnd) ho 0 3 (by omega) (by omega) ⟨244, 2, nd.hs, nd.p.hists.length, nd.p.hists.flatMap histC⟩ ⟨244, 2, nilV, 0, []⟩ nilV rfl (y := { nd with p := { nd.p with up := u, horizon := hz, hists := [] }, hs := nilV }) rfl rfl (Kept.refl _ _) (Row.nil _ _ _) (fun x hx => nil_own hx)
  rw [putN_putN] at s4
  have s5 := s4.1.rowN (putN_at _ hnd) ho 1 4 (by omega) (by omega) ⟨244, 2, nd.wt, nd.p.waits.length, nd.p.waits.flatMap histC⟩ ⟨244, 2, nilV, 0, []⟩ nilV rfl (y := { nd with p := { nd.p with up := u, horizon := hz, hists := [], waits := [] }, hs := nilV, wt := nilV }) rfl rfl (Kept.refl _ _) (Row.nil _ _ _) (fun x hx => nil_own hx)
  rw [putN_putN] at s5
  have s6 := s5.1.rowN (putN_at _ hnd) ho 2 5 (by omega) (by omega) ⟨227, 7, nd.en, nd.p.ents.length, nd.p.ents.flatMap Go.Proofs.YtpfcacedpkaihaaGreat.heldC⟩ ⟨227, 7, nilV, 0, []⟩ nilV rfl (y := { nd with p := { nd.p with up := u, horizon := hz, hists := [], waits := [], ents := [] }, hs := nilV, wt := nilV, en := nilV }) rfl rfl (Kept.refl _ _) (Row.nil _ _ _) (fun x hx => nil_own hx)
  rw [putN_putN] at s6
  have s7 := s6.1.cellN (putN_at _ hnd) ho 6 (by omega) (.int .u64 0) (y := nd.bare u hz) rfl rfl
  rw [putN_putN] at s7
  exact (((((s1.trans s2).trans s3).trans s4).trans s5).trans s6).trans s7

set_option maxRecDepth 100000 in
set_option maxHeartbeats 1000000 in
theorem drise (w : World) (b k g : Nat) (D : DevS) (nd : DNodeE) (z : Nat) (h : Dev w b D) (hnd : D.nodes[k]? = some nd) (ho : D.vn.ownBlock = some g) :
    Calls Tryz.prog 119 #[.pointer (some ⟨g, k * 8, none⟩), .int .u64 z] w fun e w' => e = .returned (.tuple #[]) ∧ Hid (Turns w b D k (nd.p.rise z) w') := by
  have HP : Hid (Turns w b D k (nd.p.rise z) (set7 w g (k * 8) true nd.p.room z)) := ⟨nd.bare true z, rfl, h.reset hnd ho true z⟩
  have c0 : w.cell? ⟨g, k * 8, none⟩ = some (.bool nd.p.up) := h.nodeC hnd ho 0 (by omega) _ rfl
  have c1 : w.cell? ⟨g, k * 8 + 1, none⟩ = some (.int .i64 nd.p.room) := h.nodeC hnd ho 1 (by omega) _ rfl
  have c2 : w.cell? ⟨g, k * 8 + 2, none⟩ = some (.int .u64 (nd.p.horizon : Int)) := h.nodeC hnd ho 2 (by omega) _ rfl
  have c3 : w.cell? ⟨g, k * 8 + 3, none⟩ = some nd.hs := h.nodeC hnd ho 3 (by omega) _ rfl
  have c4 : w.cell? ⟨g, k * 8 + 4, none⟩ = some nd.wt := h.nodeC hnd ho 4 (by omega) _ rfl
  have c5 : w.cell? ⟨g, k * 8 + 5, none⟩ = some nd.en := h.nodeC hnd ho 5 (by omega) _ rfl
  have c6 : w.cell? ⟨g, k * 8 + 6, none⟩ = some (.int .u64 (nd.p.uses : Int)) := h.nodeC hnd ho 6 (by omega) _ rfl
  have fr : ∀ i, w.frozen? ⟨g, i, none⟩ = false := fun i => h.nodeF ho i
  obtain ⟨a3, q3, e3, _⟩ := (h.hists nd (List.mem_of_getElem? hnd)).form
  obtain ⟨a4, q4, e4, _⟩ := (h.waits nd (List.mem_of_getElem? hnd)).form
  obtain ⟨a5, q5, e5, _⟩ := (h.ents nd (List.mem_of_getElem? hnd)).form
  rw [e3] at c3
  rw [e4] at c4
  rw [e5] at c5
  clear h hnd ho e3 e4 e5
  go_enter Tryz.func119, Tryz.ntmps119
  go_wp2
  go_end0
  exact ⟨rfl, HP.out⟩

set_option maxRecDepth 100000 in
set_option maxHeartbeats 1000000 in
theorem dfall (w : World) (b k g : Nat) (D : DevS) (nd : DNodeE) (h : Dev w b D) (hnd : D.nodes[k]? = some nd) (ho : D.vn.ownBlock = some g) :
    Calls Tryz.prog 155 #[.pointer (some ⟨g, k * 8, none⟩)] w fun e w' => e = .returned (.tuple #[]) ∧ Hid (Turns w b D k nd.p.fall w') := by
  have HP : Hid (Turns w b D k nd.p.fall (set7 w g (k * 8) false nd.p.room 0)) := ⟨nd.bare false 0, rfl, h.reset hnd ho false 0⟩
  have c0 : w.cell? ⟨g, k * 8, none⟩ = some (.bool nd.p.up) := h.nodeC hnd ho 0 (by omega) _ rfl
  have c1 : w.cell? ⟨g, k * 8 + 1, none⟩ = some (.int .i64 nd.p.room) := h.nodeC hnd ho 1 (by omega) _ rfl
  have c2 : w.cell? ⟨g, k * 8 + 2, none⟩ = some (.int .u64 (nd.p.horizon : Int)) := h.nodeC hnd ho 2 (by omega) _ rfl
  have c3 : w.cell? ⟨g, k * 8 + 3, none⟩ = some nd.hs := h.nodeC hnd ho 3 (by omega) _ rfl
  have c4 : w.cell? ⟨g, k * 8 + 4, none⟩ = some nd.wt := h.nodeC hnd ho 4 (by omega) _ rfl
  have c5 : w.cell? ⟨g, k * 8 + 5, none⟩ = some nd.en := h.nodeC hnd ho 5 (by omega) _ rfl
  have c6 : w.cell? ⟨g, k * 8 + 6, none⟩ = some (.int .u64 (nd.p.uses : Int)) := h.nodeC hnd ho 6 (by omega) _ rfl
  have fr : ∀ i, w.frozen? ⟨g, i, none⟩ = false := fun i => h.nodeF ho i
  obtain ⟨a3, q3, e3, _⟩ := (h.hists nd (List.mem_of_getElem? hnd)).form
  obtain ⟨a4, q4, e4, _⟩ := (h.waits nd (List.mem_of_getElem? hnd)).form
  obtain ⟨a5, q5, e5, _⟩ := (h.ents nd (List.mem_of_getElem? hnd)).form
  rw [e3] at c3
  rw [e4] at c4
  rw [e5] at c5
  clear h hnd ho e3 e4 e5
  go_enter Tryz.func155, Tryz.ntmps155
  go_wp2
  go_end0
  exact ⟨rfl, HP.out⟩

set_option maxHeartbeats 400000 in
theorem dclear (w : World) (b k g : Nat) (D : DevS) (nd : DNodeE) (h : Dev w b D) (hnd : D.nodes[k]? = some nd) (ho : D.vn.ownBlock = some g) :
    Calls Tryz.prog 156 #[.pointer (some ⟨g, k * 8 + 7, none⟩)] w fun e w' => e = .returned (.tuple #[]) ∧ Hid (Turns w b D k nd.p.clear w') := by
  have c7 : w.cell? ⟨g, k * 8 + 7, none⟩ = some nd.fl := h.nodeC hnd ho 7 (by omega) _ rfl
  have f7 : w.frozen? ⟨g, k * 8 + 7, none⟩ = false := h.nodeF ho _
  have HP : Hid (Turns w b D k nd.p.clear (w.setCell ⟨g, k * 8 + 7, none⟩ (.slice none 0 0))) :=
    ⟨{ nd with p := nd.p.clear, fl := nilV }, rfl, h.rowN hnd ho 3 7 (by omega) (by omega) ⟨192, 2, nd.fl, nd.p.flight.length, nd.p.flight.flatMap histC⟩ ⟨192, 2, nilV, 0, []⟩ nilV rfl rfl rfl (Kept.refl _ _) (Row.nil _ _ _) (fun x hx => nil_own hx)⟩
  obtain ⟨a7, q7, e7, _⟩ := (h.flight nd (List.mem_of_getElem? hnd)).form
  rw [e7] at c7
  clear h hnd ho e7
  go_enter Tryz.func156, Tryz.ntmps156
  go_wp2
  go_end0
  exact ⟨rfl, HP.out⟩

set_option maxHeartbeats 400000 in
theorem dfull (w : World) (g o : Nat) (ao : Option Addr) (n cap : Nat) (hc : w.cell? ⟨g, o, none⟩ = some (.slice ao n cap)) :
    Calls Tryz.prog 152 #[.pointer (some ⟨g, o, none⟩)] w fun e w' => e = .returned (.bool (decide ((12 : Int) ≤ (n : Int)))) ∧ w = w' := by
  go_enter Tryz.func152, Tryz.ntmps152
  go_wp2
  go_ret
  exact ⟨rfl, rfl⟩

theorem waitsB_take {l : List (Nat × Int)} {t j : Nat} (hj : j < l.length) : waitsB (l.take (j + 1)) t = (waitsB (l.take j) t || decide (l[j].1 = t)) := by
  unfold waitsB
  rw [List.take_succ_eq_append_getElem hj, List.any_append]
  simp
theorem waitsB_hit {l : List (Nat × Int)} {t j : Nat} (hj : j < l.length) (h : l[j].1 = t) : waitsB l t = true := by
  unfold waitsB
  rw [List.any_eq_true]
  exact ⟨l[j], List.getElem_mem hj, by simpa using h⟩

set_option maxRecDepth 100000 in
set_option maxHeartbeats 1000000 in
theorem dwaits (w : World) (g o : Nat) (v : Value) (l : List (Nat × Int)) (t : Nat) (hc : w.cell? ⟨g, o + 4, none⟩ = some v) (hr : Row w 244 2 v l.length (l.flatMap histC)) (hl : l.length ≤ 1000) :
    Calls Tryz.prog 151 #[.pointer (some ⟨g, o, none⟩), .int .u64 t] w fun e w' => e = .returned (.bool (waitsB l t)) ∧ Kept (fun _ => False) w w' := by
  obtain ⟨ao, cap, hv, hp⟩ := hr.pairs
  have HP : Hid (∀ j (hj : j < l.length), ∃ gw, ao = some ⟨gw, 0, none⟩ ∧ gw < w.heap.size ∧ w.cell? ⟨gw, j * 2, none⟩ = some (.int .u64 (l[j].1 : Int)) ∧ w.cell? ⟨gw, j * 2 + 1, none⟩ = some (.int .u8 l[j].2)) := hp
  subst hv
  clear hp hr
  go_enter Tryz.func151, Tryz.ntmps151
  go_wp2
  go_loopw [12] (fun iv wr => ∃ j : Nat, j ≤ l.length ∧ iv = .int .i64 j ∧ Hid (waitsB (l.take j) t = false ∧ Kept (fun _ => False) w wr)) (fun iv _ => l.length - (intOf iv).toNat)
  case atStart => exact ⟨0, Nat.zero_le _, rfl, rfl, Kept.refl _ _⟩
  case round =>
    obtain ⟨j, hj, rfl, HK⟩ := hrel
    by_cases hlt : j < l.length
    · obtain ⟨gw, hao, hgl, p0, p1⟩ := HP.out j hlt
      obtain ⟨x, hx⟩ : ∃ x, x = l[j] := ⟨_, rfl⟩
      rw [← hx] at p0 p1
      have d0 := HK.out.2.hold p0
      have d1 := HK.out.2.hold p1
      have HX : Hid (l[j].1 = x.1) := by rw [hx]; rfl
      have hj0 : (0 : Int) ≤ (j : Int) := by omega
      have hj1 : (j : Int) < (l.length : Int) := by omega
      clear hx p0 p1 hgl
      subst hao
      by_cases he : x.1 = t
      · have hb : ((x.1 : Int) == (t : Int)) = true := by rw [he]; exact beq_self_eq_true _
        have HW : Hid (waitsB l t = true) := waitsB_hit hlt (HX.out.trans he)
        clear he
        go_wp2
        go_ret
        exact ⟨rt_bool HW.out.symm, HK.out.2.allocNew _⟩
      · have hb : ((x.1 : Int) == (t : Int)) = false := beq_eq_false_iff_ne.mpr (by omega)
        have HW : Hid (waitsB (l.take (j + 1)) t = false) := by
          show _ = _
          rw [waitsB_take hlt, HK.out.1, HX.out]
          simpa using he
        clear he
        go_wp2
        go_roundw
        case rel => exact ⟨j + 1, by omega, by go_num, HW.out, HK.out.2.allocNew _⟩
        case measure => simp [intOf]; omega
    · have hjn : j = l.length := by omega
      subst hjn
      have HW : Hid (waitsB l t = false) := by have := HK.out.1; rwa [List.take_length] at this
      go_wp2
      go_ret
      exact ⟨rt_bool HW.out.symm, HK.out.2⟩

theorem wroteL_take {l : List (Nat × Int)} {t j : Nat} (hj : j < l.length) (h : wroteL (l.take j) t = none) : wroteL (l.take (j + 1)) t = if l[j].1 = t then some l[j].2 else none := by
  unfold wroteL at h ⊢
  rw [List.take_succ_eq_append_getElem hj, List.find?_append]
  have : (l.take j).find? (fun c => decide (c.1 = t)) = none := by simpa using h
  rw [this]
  by_cases he : l[j].1 = t <;> simp [he]
theorem wroteL_hit {l : List (Nat × Int)} {t j : Nat} (hj : j < l.length) (h : wroteL (l.take j) t = none) (he : l[j].1 = t) : wroteL l t = some l[j].2 := by
  have h1 := wroteL_take hj h
  rw [if_pos he] at h1
  have e : l = l.take (j + 1) ++ l.drop (j + 1) := (List.take_append_drop _ _).symm
  obtain ⟨y0, hy0⟩ : ∃ y, y = l[j].2 := ⟨_, rfl⟩
  rw [← hy0] at h1 ⊢
  clear hy0 he h
  unfold wroteL at h1 ⊢
  rw [e, List.find?_append]
  cases hh : (l.take (j + 1)).find? (fun c => decide (c.1 = t)) with
  | none => rw [hh] at h1; simp at h1
  | some y => rw [hh] at h1; simpa using h1

def wroteV (r : Option Int) : Value := .tuple #[.int .u8 (r.getD 0), .bool r.isSome]
set_option maxRecDepth 100000 in
set_option maxHeartbeats 1000000 in
theorem dwrote (w : World) (g o : Nat) (v : Value) (l : List (Nat × Int)) (t : Nat) (hc : w.cell? ⟨g, o + 3, none⟩ = some v) (hr : Row w 244 2 v l.length (l.flatMap histC)) (hl : l.length ≤ 1000) :
    Calls Tryz.prog 161 #[.pointer (some ⟨g, o, none⟩), .int .u64 t] w fun e w' => e = .returned (wroteV (wroteL l t)) ∧ Kept (fun _ => False) w w' := by
  obtain ⟨ao, cap, hv, hp⟩ := hr.pairs
  have HP : Hid (∀ j (hj : j < l.length), ∃ gw, ao = some ⟨gw, 0, none⟩ ∧ gw < w.heap.size ∧ w.cell? ⟨gw, j * 2, none⟩ = some (.int .u64 (l[j].1 : Int)) ∧ w.cell? ⟨gw, j * 2 + 1, none⟩ = some (.int .u8 l[j].2)) := hp
  subst hv
  clear hp hr
  go_enter Tryz.func161, Tryz.ntmps161
  go_wp2
  go_loopw [13] (fun iv wr => ∃ j : Nat, j ≤ l.length ∧ iv = .int .i64 j ∧ Hid (wroteL (l.take j) t = none ∧ Kept (fun _ => False) w wr)) (fun iv _ => l.length - (intOf iv).toNat)
  case atStart => exact ⟨0, Nat.zero_le _, rfl, rfl, Kept.refl _ _⟩
  case round =>
    obtain ⟨j, hj, rfl, HK⟩ := hrel
    by_cases hlt : j < l.length
    · obtain ⟨gw, hao, hgl, p0, p1⟩ := HP.out j hlt
      obtain ⟨x, hx⟩ : ∃ x, x = l[j] := ⟨_, rfl⟩
      rw [← hx] at p0 p1
      have d0 := HK.out.2.hold p0
      have d1 := HK.out.2.hold p1
      have HX : Hid (l[j] = x) := hx.symm
      have hj0 : (0 : Int) ≤ (j : Int) := by omega
      have hj1 : (j : Int) < (l.length : Int) := by omega
      clear hx p0 p1 hgl
      subst hao
      by_cases he : x.1 = t
      · have hb : ((x.1 : Int) == (t : Int)) = true := by rw [he]; exact beq_self_eq_true _
        have HW : Hid (wroteL l t = some x.2) := by
          have := wroteL_hit hlt HK.out.1 (by rw [HX.out]; exact he)
          rwa [HX.out] at this
        clear he
        go_wp2
        go_ret2
        exact ⟨by rw [HW.out]; rfl, HK.out.2.allocNew _⟩
      · have hb : ((x.1 : Int) == (t : Int)) = false := beq_eq_false_iff_ne.mpr (by omega)
        have HW : Hid (wroteL (l.take (j + 1)) t = none) := by
          show _ = _
          rw [wroteL_take hlt HK.out.1, HX.out, if_neg he]
        clear he
        go_wp2
        go_roundw
        case rel => exact ⟨j + 1, by omega, by go_num, HW.out, HK.out.2.allocNew _⟩
        case measure => simp [intOf]; omega
    · have hjn : j = l.length := by omega
      subst hjn
      have HW : Hid (wroteL l t = none) := by have := HK.out.1; rwa [List.take_length] at this
      go_wp2
      go_ret2
      exact ⟨by rw [HW.out]; rfl, HK.out.2⟩

end Go.Proofs.YtpfcacedpkaihaaGreat
