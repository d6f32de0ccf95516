import Derived.Test.YtpfcacedpkaihabGreatEh
import Derived.Test.YtpfcacedpkaihabGreatNpWpIv
/- The program's nodes and links (packages memory, links): waitingNumbers, Look, List, walked. -/
namespace Go.Proofs.YtpfcacedpkaihabGreat
open Go.RowKit

def u8C (x : Int) : List Value := [.int .u8 x]
def msgC (x : Int × Int) : List Value := [.int .u8 x.1, .int .u8 x.2]
/-- the number of a stamp. -/
def numS (t : Nat) : Int := bits .and .u64 (t : Int) 255 % 256
/-- the numbers of those that wait, of the first n stamps that may. -/
def waitN (p : NodeP) (n : Nat) : List Int := ((List.range n).filter fun i => waitsB p.waits (p.horizon + 2 + i)).map fun i => numS (p.horizon + 2 + i)
theorem waitN_yes {p : NodeP} {n : Nat} (h : waitsB p.waits (p.horizon + 2 + n) = true) : waitN p (n + 1) = waitN p n ++ [numS (p.horizon + 2 + n)] := by
  unfold waitN
  rw [List.range_succ, List.filter_append, List.map_append]
  simp [h]
theorem waitN_no {p : NodeP} {n : Nat} (h : waitsB p.waits (p.horizon + 2 + n) = false) : waitN p (n + 1) = waitN p n := by
  unfold waitN
  rw [List.range_succ, List.filter_append, List.map_append]
  simp [h]
theorem waitN_len (p : NodeP) (n : Nat) : (waitN p n).length ≤ n := by
  unfold waitN
  rw [List.length_map]
  have := List.length_filter_le (fun i => waitsB p.waits (p.horizon + 2 + i)) (List.range n)
  rw [List.length_range] at this
  exact this
/-- a message, as it is told. -/
def msgOf (c : Nat × Int) : Int × Int := (numS c.1, c.2)

theorem Kept.setO {A : Nat} {W X : World} (h : Kept (fun j => j = A) W X) (f : Nat) (v : Value) : Kept (fun j => j = A) W (X.setCell ⟨A, f, none⟩ v) :=
  h.trans (Kept.setCell X ⟨A, f, none⟩ v) (fun _ => id) (fun _ _ he => he)
theorem Tryz.infoU8 : (Tryz.prog.info? 5).map (fun i => (i.zero, i.size, i.bytes)) = some (some (.int .u8 0), 1, 1) := by kernel_rfl
theorem Tryz.infoMsg : (Tryz.prog.info? 127).map (fun i => (i.zero, i.size, i.bytes)) = some (some (.agg #[.int .u8 0, .int .u8 0]), 2, 2) := by kernel_rfl
theorem oneCell_u8 (x : Int) : ∀ u ∈ u8C x, u.oneCell' = true := by
  intro u hu; simp [u8C] at hu; subst hu; rfl
theorem news_u8 (w : World) (x : Int) (t : TypeId) : ∀ j u, (u8C x)[j]? = some u → (w.alloc (.cells #[.int .u8 x] t)).cell? ((⟨w.heap.size, 0, none⟩ : Addr).add j) = some u := by
  intro j u hj
  have e' : (⟨w.heap.size, 0, none⟩ : Addr).add j = ⟨w.heap.size, j, none⟩ := by cases j <;> simp [Addr.add]
  rw [e', World.cell?_alloc_at _ _ _ _ rfl]
  simpa [u8C] using hj
theorem oneCell_msg (x : Int × Int) : ∀ u ∈ msgC x, u.oneCell' = true := by
  intro u hu; simp [msgC] at hu; rcases hu with rfl | rfl <;> rfl
theorem news_msg (w : World) (x : Int × Int) (t : TypeId) : ∀ j u, (msgC x)[j]? = some u → (w.alloc (.cells #[.int .u8 x.1, .int .u8 x.2] t)).cell? ((⟨w.heap.size, 0, none⟩ : Addr).add j) = some u := by
  intro j u hj
  have e' : (⟨w.heap.size, 0, none⟩ : Addr).add j = ⟨w.heap.size, j, none⟩ := by cases j <;> simp [Addr.add]
  rw [e', World.cell?_alloc_at _ _ _ _ rfl]
  simpa [msgC] using hj
theorem news_msg2 (w : World) (x : Nat × Int) (o : Obj) (t : TypeId) : ∀ j u, (msgC (msgOf x))[j]? = some u → ((w.alloc o).alloc (.cells #[.int .u8 (bits .and .u64 (x.1 : Int) 255 % 256), .int .u8 x.2] t)).cell? ((⟨w.heap.size + 1, 0, none⟩ : Addr).add j) = some u := by
  intro j u hj
  have hh := news_msg (w.alloc o) (msgOf x) t j u hj
  simp only [World.size_alloc] at hh
  exact hh
theorem oneCell_ent1 (x : EntE) : ∀ u ∈ entC x, u.oneCell' = true := by
  intro u hu; simp [entC] at hu; rcases hu with rfl | rfl | rfl | rfl | rfl | rfl <;> rfl
theorem news_ent1 (w : World) (e : EntE) (t : TypeId) : ∀ j u, (entC e)[j]? = some u → (w.alloc (.cells #[.string e.q, .int .i32 e.val, .int .u64 (e.fr : Int), .int .u64 (e.till : Int), .bool e.op, .int .u64 (e.kn : Int)] t)).cell? ((⟨w.heap.size, 0, none⟩ : Addr).add j) = some u := by
  intro j u hj
  have e' : (⟨w.heap.size, 0, none⟩ : Addr).add j = ⟨w.heap.size, j, none⟩ := by cases j <;> simp [Addr.add]
  rw [e', World.cell?_alloc_at _ _ _ _ rfl]
  simpa [entC] using hj

set_option maxRecDepth 100000 in
set_option maxHeartbeats 2000000 in
theorem dnumbers (w : World) (b k g : Nat) (D : DevS) (nd : DNodeE) (h : Dev w b D) (hnd : D.nodes[k]? = some nd) (ho : D.vn.ownBlock = some g) (hw : nd.p.Walk) :
    Calls Tryz.prog 73 #[.pointer (some ⟨g, k * 8, none⟩)] w fun e w' => ∃ ao cap, e = .returned (.slice ao (waitN nd.p 4).length cap) ∧ Hid (Grow 5 1 u8C w w' (.slice ao (waitN nd.p 4).length cap) (waitN nd.p 4)) := by
  have c2 : w.cell? ⟨g, k * 8 + 2, none⟩ = some (.int .u64 (nd.p.horizon : Int)) := h.nodeC hnd ho 2 (by omega) _ rfl
  have c4 : w.cell? ⟨g, k * 8 + 4, none⟩ = some nd.wt := h.nodeC hnd ho 4 (by omega) _ rfl
  have hz := hw.ok.hz
  have HW : Hid (∀ (W : World) (t : Nat), Kept (fun _ => False) w W → Calls Tryz.prog 93 #[.pointer (some ⟨g, k * 8, none⟩), .int .u64 t] W fun e w' => e = .returned (.bool (waitsB nd.p.waits t)) ∧ Kept (fun _ => False) W w') := fun W t hW => dwaits W g (k * 8) nd.wt nd.p.waits t (hW.hold c4) ((h.waits nd (List.mem_of_getElem? hnd)).kept hW (fun _ _ => id)) hw.ok.wl
  obtain ⟨i0, hi, hz0, hz1, hz2⟩ := info_parts Tryz.infoU8
  have HI : Hid (Tryz.prog.info? 5 = some i0 ∧ i0.zero = some (.int .u8 0) ∧ i0.size = 1 ∧ i0.bytes = 1) := ⟨hi, hz0, hz1, hz2⟩
  obtain ⟨p, hp⟩ : ∃ p, p = nd.p := ⟨_, rfl⟩
  rw [← hp] at HW hz c2 ⊢
  clear hi hz0 hz1 hz2 h hnd ho hw c4 hp
  go_enter Tryz.func73, Tryz.ntmps73
  go_wp2
  go_loopw [3, 5] (fun v sv wr => ∃ j : Nat, j ≤ 4 ∧ sv = .int .u64 ((p.horizon + 2 + j : Nat) : Int) ∧ Hid (Grow 5 1 u8C w wr v (waitN p j))) (fun _ sv _ => p.horizon + 6 - (intOf sv).toNat)
  case atStart => exact ⟨0, by omega, by go_num, Grow.start _ _ _ _⟩
  case round =>
    obtain ⟨j, hj, rfl, HG⟩ := hrel
    obtain ⟨av, cv, hvv, _⟩ := HG.out.row.form
    have hwl := waitN_len p j
    obtain ⟨n, hn⟩ : ∃ n, n = (waitN p j).length := ⟨_, rfl⟩
    rw [← hn] at hvv hwl
    subst hvv
    by_cases hlt : j < 4
    · have hd : ((p.horizon + 2 + j : Nat) : Int) < (p.horizon : Int) + 2 + 4 := by omega
      have b1 : n + 1 ≤ maxLen := by unfold maxLen; omega
      have b2 : (n + 1) * 1 ≤ 140737488355328 := by omega
      cases hb : waitsB p.waits (p.horizon + 2 + j) with
      | false =>
        have HX : Hid (waitN p (j + 1) = waitN p j) := waitN_no hb
        have HWJ : Hid (Calls Tryz.prog 93 #[.pointer (some ⟨g, k * 8, none⟩), .int .u64 ((p.horizon + 2 + j : Nat) : Int)] wr fun e w' => e = .returned (.bool false) ∧ Kept (fun _ => False) wr w') := by have := HW.out wr (p.horizon + 2 + j) HG.out.kept; rw [hb] at this; exact this
        clear hb hn
        go_wp2_with (go_at_call 93; refine HWJ.out.mono ?_; rintro e w1 ⟨rfl, hk1⟩)
        go_roundw
        case rel => exact ⟨j + 1, by omega, by go_num, by rw [HX.out]; exact HG.out.more hk1⟩
        case measure => simp [intOf]; omega
      | true =>
        have HX : Hid (waitN p (j + 1) = waitN p j ++ [numS (p.horizon + 2 + j)]) := waitN_yes hb
        have HWJ : Hid (Calls Tryz.prog 93 #[.pointer (some ⟨g, k * 8, none⟩), .int .u64 ((p.horizon + 2 + j : Nat) : Int)] wr fun e w' => e = .returned (.bool true) ∧ Kept (fun _ => False) wr w') := by have := HW.out wr (p.horizon + 2 + j) HG.out.kept; rw [hb] at this; exact this
        have HROW : Hid (∀ (W : World) (o : Obj), Kept (fun _ => False) wr W → Row (W.alloc o) 5 1 (.slice av n cv) n ((waitN p j).flatMap u8C)) := fun W o hW => by have := (HG.out.row.kept hW (fun _ _ => id)).kept (Kept.alloc W o (fun _ => False)) (fun _ _ => id); rw [← hn] at this; exact this
        have HNX : Hid (∀ (W : World) (o : Obj) (w' : World) (v' : Value), Kept (fun _ => False) wr W → Appended (W.alloc o) w' 5 1 (.slice av n cv) v' n 1 ((waitN p j).flatMap u8C) (u8C (numS (p.horizon + 2 + j))) → Grow 5 1 u8C w w' v' (waitN p j ++ [numS (p.horizon + 2 + j)])) := by
          intro W o w' v' hW hA
          rw [hn] at hA HG
          exact ((HG.out.more hW).more (Kept.alloc W o (fun _ => False))).next hA
        clear hb hn
        go_wp2_with first
          | (go_at_call 93; refine HWJ.out.mono ?_; rintro e w1 ⟨rfl, hk1⟩; have HK1 : Hid (Kept (fun _ => False) wr w1) := hk1; clear hk1)
          | (at_builtin; go_must (refine wpList_append_mine _ rfl (.tmp 21) (.tmp 25) 64 rfl 5 i0 (.int .u8 0) 1 1 Tryz.underlying64 HI.out.1 HI.out.2.1 HI.out.2.2.1 HI.out.2.2.2 rfl (by decide) (.slice av n cv) n _ rfl (HROW.out _ _ HK1.out) ⟨w1.heap.size, 0, none⟩ 1 1 (u8C (numS (p.horizon + 2 + j))) rfl rfl (fun j u hj => news_u8 w1 _ _ j u hj) (oneCell_u8 _) b1 b2 ?_); intro v' w2 hA; have HA : Hid (Grow 5 1 u8C w w2 v' (waitN p j ++ [numS (p.horizon + 2 + j)])) := HNX.out _ _ _ _ HK1.out hA; clear hA)
        go_roundw
        case rel => exact ⟨j + 1, by omega, by go_num, by rw [HX.out]; exact HA.out⟩
        case measure => simp [intOf]; omega
    · have hje : j = 4 := by omega
      subst hje
      have HG2 : Hid (Grow 5 1 u8C w wr (.slice av (waitN p 4).length cv) (waitN p 4)) := by rw [← hn]; exact HG.out
      go_wp2
      go_ret
      rw [hn]
      exact ⟨av, cv, rfl, HG2.out⟩

set_option maxRecDepth 100000 in
set_option maxHeartbeats 2000000 in
theorem dlinks (w : World) (b k g : Nat) (D : DevS) (nd : DNodeE) (h : Dev w b D) (hnd : D.nodes[k]? = some nd) (ho : D.vn.ownBlock = some g) (hl : nd.p.flight.length ≤ 1000) (hs : ∀ c ∈ nd.p.flight, c.1 ≤ 1000000) :
    Calls Tryz.prog 24 #[.pointer (some ⟨g, k * 8 + 7, none⟩)] w fun e w' => ∃ ao cap, e = .returned (.slice ao nd.p.flight.length cap) ∧ Hid (Grow 127 2 msgC w w' (.slice ao nd.p.flight.length cap) (nd.p.flight.map msgOf)) := by
  have hr := h.flight nd (List.mem_of_getElem? hnd)
  obtain ⟨ao, cap, hv, hp⟩ := hr.pairs
  have c7 : w.cell? ⟨g, k * 8 + 7, none⟩ = some nd.fl := h.nodeC hnd ho 7 (by omega) _ rfl
  rw [hv] at c7
  obtain ⟨l, hll⟩ : ∃ l, l = nd.p.flight := ⟨_, rfl⟩
  have HP : Hid (∀ j (hj : j < l.length), ∃ gw, ao = some ⟨gw, 0, none⟩ ∧ gw < w.heap.size ∧ w.cell? ⟨gw, j * 2, none⟩ = some (.int .u64 (l[j].1 : Int)) ∧ w.cell? ⟨gw, j * 2 + 1, none⟩ = some (.int .u8 l[j].2)) := by rw [hll]; exact hp
  have HS : Hid (∀ j (hj : j < l.length), l[j].1 ≤ 1000000) := fun j hj => hs _ (by rw [← hll]; exact List.getElem_mem hj)
  rw [← hll] at hl c7 ⊢
  obtain ⟨i0, hi, hz0, hz1, hz2⟩ := info_parts Tryz.infoMsg
  have HI : Hid (Tryz.prog.info? 127 = some i0 ∧ i0.zero = some (.agg #[.int .u8 0, .int .u8 0]) ∧ i0.size = 2 ∧ i0.bytes = 2) := ⟨hi, hz0, hz1, hz2⟩
  clear hi hz0 hz1 hz2 h hnd ho hr hp hv hll hs
  go_enter Tryz.func24, Tryz.ntmps24
  go_wp2
  go_loopw [3, 11] (fun v iv wr => ∃ j : Nat, j ≤ l.length ∧ iv = .int .i64 j ∧ Hid (Grow 127 2 msgC w wr v ((l.take j).map msgOf))) (fun _ iv _ => l.length - (intOf iv).toNat)
  case atStart => exact ⟨0, Nat.zero_le _, rfl, Grow.start _ _ _ _⟩
  case round =>
    obtain ⟨j, hj, rfl, HG⟩ := hrel
    obtain ⟨av, cv, hvv, _⟩ := HG.out.row.form
    have hfl : ((l.take j).map msgOf).length = j := by rw [List.length_map, List.length_take]; omega
    rw [hfl] at hvv
    subst hvv
    by_cases hlt : j < l.length
    · obtain ⟨gw, hao, hgw, p0, p1⟩ := HP.out j hlt
      have hsx := HS.out j hlt
      have HX : Hid ((l.take (j + 1)).map msgOf = (l.take j).map msgOf ++ [msgOf l[j]]) := by show _ = _; rw [List.take_succ_eq_append_getElem hlt, List.map_append]; rfl
      obtain ⟨x, hx⟩ : ∃ x, x = l[j] := ⟨_, rfl⟩
      rw [← hx] at p0 p1 hsx HX
      have d0 := HG.out.kept.hold p0
      have d1 := HG.out.kept.hold p1
      have hj0 : (0 : Int) ≤ (j : Int) := by omega
      have hj1 : (j : Int) < (l.length : Int) := by omega
      have HROW : Hid (∀ o o', Row ((wr.alloc o).alloc o') 127 2 (.slice av j cv) j (((l.take j).map msgOf).flatMap msgC)) := fun o o' => by have := (HG.out.row.kept (Kept.alloc wr o (fun _ => False)) (fun _ _ => id)).kept (Kept.alloc _ o' (fun _ => False)) (fun _ _ => id); rw [hfl] at this; exact this
      have HNX : Hid (∀ (o o' : Obj) (w' : World) (v' : Value), Appended ((wr.alloc o).alloc o') w' 127 2 (.slice av j cv) v' j 1 (((l.take j).map msgOf).flatMap msgC) (msgC (msgOf x)) → Grow 127 2 msgC w w' v' ((l.take j).map msgOf ++ [msgOf x])) := by
        intro o o' w' v' hA
        have hA' : Appended ((wr.alloc o).alloc o') w' 127 2 (.slice av j cv) v' ((l.take j).map msgOf).length 1 (((l.take j).map msgOf).flatMap msgC) (msgC (msgOf x)) := by rw [hfl]; exact hA
        exact (HG.out.more ((Kept.alloc wr o (fun _ => False)).allocNew o')).next hA'
      have b1 : j + 1 ≤ maxLen := by unfold maxLen; omega
      have b2 : (j + 1) * 2 ≤ 140737488355328 := by omega
      clear hx p0 p1 hgw hfl
      subst hao
      go_wp2_with (at_builtin; go_must (refine wpList_append_mine _ rfl (.tmp 15) (.tmp 23) 45 rfl 127 i0 (.agg #[.int .u8 0, .int .u8 0]) 2 2 Tryz.underlying45 HI.out.1 HI.out.2.1 HI.out.2.2.1 HI.out.2.2.2 rfl (by decide) (.slice av j cv) j _ rfl (HROW.out _ _) ⟨wr.heap.size + 1, 0, none⟩ 1 1 (msgC (msgOf x)) rfl rfl (fun j u hj => news_msg2 wr x _ _ j u hj) (oneCell_msg (msgOf x)) b1 b2 ?_); intro v' w1 hA; have HA : Hid (Grow 127 2 msgC w w1 v' ((l.take j).map msgOf ++ [msgOf x])) := HNX.out _ _ _ _ hA; clear hA)
      go_roundw
      case rel => exact ⟨j + 1, by omega, by go_num, by rw [HX.out]; exact HA.out⟩
      case measure => simp [intOf]; omega
    · have hjn : j = l.length := by omega
      subst hjn
      have HG2 : Hid (Grow 127 2 msgC w wr (.slice av l.length cv) (l.map msgOf)) := by have := HG.out; rw [List.take_length] at this; exact this
      clear hfl
      go_wp2
      go_ret
      exact ⟨av, cv, rfl, HG2.out⟩

end Go.Proofs.YtpfcacedpkaihabGreat

/- The program's nodes (package memory): Look; the calls Look and Flight (package almanac), walked. -/
namespace Go.Proofs.YtpfcacedpkaihabGreat
open Go.RowKit

set_option maxRecDepth 100000 in
set_option maxHeartbeats 2000000 in
theorem dlook0 (w : World) (b k g : Nat) (D : DevS) (nd : DNodeE) (h : Dev w b D) (hnd : D.nodes[k]? = some nd) (ho : D.vn.ownBlock = some g) (hw : nd.p.Walk) :
    Calls Tryz.prog 44 #[.pointer (some ⟨g, k * 8, none⟩)] w fun e w' => ∃ wa wc ea ec, e = .returned (.agg #[.bool nd.p.up, .int .u64 (nd.p.horizon : Int), .slice wa (waitN nd.p 4).length wc, .slice ea nd.p.ents.length ec]) ∧ Hid (Grow 5 1 u8C w w' (.slice wa (waitN nd.p 4).length wc) (waitN nd.p 4) ∧ Grow 53 6 entC w w' (.slice ea nd.p.ents.length ec) (nd.p.ents.map (·.e))) := by
  have hr := h.ents nd (List.mem_of_getElem? hnd)
  obtain ⟨ao, cap, hv, hp⟩ := hr.helds
  have c5 : w.cell? ⟨g, k * 8 + 5, none⟩ = some nd.en := h.nodeC hnd ho 5 (by omega) _ rfl
  have c0 : w.cell? ⟨g, k * 8, none⟩ = some (.bool nd.p.up) := h.nodeC hnd ho 0 (by omega) _ rfl
  have c2 : w.cell? ⟨g, k * 8 + 2, none⟩ = some (.int .u64 (nd.p.horizon : Int)) := h.nodeC hnd ho 2 (by omega) _ rfl
  have hgl : g < w.heap.size := World.block_lt_of_cell? w _ c5
  have hel := hw.el
  rw [hv] at c5
  obtain ⟨l, hll⟩ : ∃ l, l = nd.p.ents := ⟨_, rfl⟩
  have HP : Hid (∀ j (hj : j < l.length), ∃ ge, ao = some ⟨ge, 0, none⟩ ∧ ge < w.heap.size ∧ ∀ f, f < 7 → w.cell? ⟨ge, j * 7 + f, none⟩ = (heldC l[j])[f]?) := by rw [hll]; exact hp
  have HN : Hid (∀ W, Kept (fun _ => False) w W → Calls Tryz.prog 73 #[.pointer (some ⟨g, k * 8, none⟩)] W fun e w' => ∃ ao cap, e = .returned (.slice ao (waitN nd.p 4).length cap) ∧ Hid (Grow 5 1 u8C W w' (.slice ao (waitN nd.p 4).length cap) (waitN nd.p 4))) := fun W hW => dnumbers W b k g D nd (h.kept hW (fun _ _ => id)) hnd ho hw
  have HC : Hid (∀ W, Kept (fun _ => False) w W → W.cell? ⟨g, k * 8, none⟩ = some (.bool nd.p.up) ∧ W.cell? ⟨g, k * 8 + 2, none⟩ = some (.int .u64 (nd.p.horizon : Int))) := fun W hW => ⟨hW.hold c0, hW.hold c2⟩
  rw [← hll] at hel c5 ⊢
  obtain ⟨wn, hwn⟩ : ∃ x, x = waitN nd.p 4 := ⟨_, rfl⟩
  obtain ⟨up, hup⟩ : ∃ x, x = nd.p.up := ⟨_, rfl⟩
  obtain ⟨hzn, hhz⟩ : ∃ x, x = nd.p.horizon := ⟨_, rfl⟩
  rw [← hwn] at HN ⊢
  rw [← hup, ← hhz] at HC ⊢
  obtain ⟨i0, hi, hz0, hz1, hz2⟩ := info_parts Tryz.infoEntry
  have HI : Hid (Tryz.prog.info? 53 = some i0 ∧ i0.zero = some (.agg #[.string ByteArray.empty, .int .i32 0, .int .u64 0, .int .u64 0, .bool false, .int .u64 0]) ∧ i0.size = 6 ∧ i0.bytes = 56) := ⟨hi, hz0, hz1, hz2⟩
  clear hi hz0 hz1 hz2 h hnd ho hw hr hp hv hll c0 c2 hwn hup hhz
  have HB : Hid (∀ o W, Kept (fun _ => False) (w.alloc (.cells #[.bool false, .int .u64 0, .slice none 0 0, .slice none 0 0] o)) W → Kept (fun _ => False) w W ∧ Blk W w.heap.size o #[.bool false, .int .u64 0, .slice none 0 0, .slice none 0 0]) := fun o W hW => ⟨(Kept.alloc _ _ _).trans hW (fun _ => id) (fun _ _ => id), (Blk.new w _ _).kept hW id⟩
  go_enter Tryz.func44, Tryz.ntmps44
  go_wp2
  obtain ⟨kW, bW⟩ := HB.out 66 _ (Kept.refl _ _)
  generalize w.alloc (.cells #[.bool false, .int .u64 0, .slice none 0 0, .slice none 0 0] 66) = W at kW bW ⊢
  have HKW : Hid (Kept (fun _ => False) w W ∧ Blk W w.heap.size 66 #[.bool false, .int .u64 0, .slice none 0 0, .slice none 0 0]) := ⟨kW, bW⟩
  clear kW bW HB
  go_loopw [3, 12] (fun v iv wr => ∃ j : Nat, j ≤ l.length ∧ iv = .int .i64 j ∧ Hid (Grow 53 6 entC W wr v ((l.take j).map (·.e)))) (fun _ iv _ => l.length - (intOf iv).toNat)
  case atStart => exact ⟨0, Nat.zero_le _, rfl, Grow.start _ _ _ _⟩
  case round =>
    obtain ⟨j, hj, rfl, HG⟩ := hrel
    obtain ⟨av, cv, hvv, _⟩ := HG.out.row.form
    have hfl : ((l.take j).map (·.e)).length = j := by rw [List.length_map, List.length_take]; omega
    rw [hfl] at hvv
    subst hvv
    have hkw : Kept (fun _ => False) w wr := HKW.out.1.trans HG.out.kept (fun _ => id) (fun _ _ => id)
    by_cases hlt : j < l.length
    · obtain ⟨ge, hao, hge, hc⟩ := HP.out j hlt
      have HX : Hid ((l.take (j + 1)).map (·.e) = (l.take j).map (·.e) ++ [l[j].e]) := by show _ = _; rw [List.take_succ_eq_append_getElem hlt, List.map_append]; rfl
      obtain ⟨x, hx⟩ : ∃ x, x = l[j] := ⟨_, rfl⟩
      rw [← hx] at hc HX
      have d0 : wr.cell? ⟨ge, j * 7, none⟩ = some (.string x.e.q) := hkw.hold (hc 0 (by omega))
      have d1 : wr.cell? ⟨ge, j * 7 + 1, none⟩ = some (.int .i32 x.e.val) := hkw.hold (hc 1 (by omega))
      have d2 : wr.cell? ⟨ge, j * 7 + 2, none⟩ = some (.int .u64 (x.e.fr : Int)) := hkw.hold (hc 2 (by omega))
      have d3 : wr.cell? ⟨ge, j * 7 + 3, none⟩ = some (.int .u64 (x.e.till : Int)) := hkw.hold (hc 3 (by omega))
      have d4 : wr.cell? ⟨ge, j * 7 + 4, none⟩ = some (.bool x.e.op) := hkw.hold (hc 4 (by omega))
      have d5 : wr.cell? ⟨ge, j * 7 + 5, none⟩ = some (.int .u64 (x.e.kn : Int)) := hkw.hold (hc 5 (by omega))
      have d6 : wr.cell? ⟨ge, j * 7 + 6, none⟩ = some (.int .u64 (x.used : Int)) := hkw.hold (hc 6 (by omega))
      have hj0 : (0 : Int) ≤ (j : Int) := by omega
      have hj1 : (j : Int) < (l.length : Int) := by omega
      have HROW : Hid (∀ o o', Row ((wr.alloc o).alloc o') 53 6 (.slice av j cv) j (((l.take j).map (·.e)).flatMap entC)) := fun o o' => by have := (HG.out.row.kept (Kept.alloc wr o (fun _ => False)) (fun _ _ => id)).kept (Kept.alloc _ o' (fun _ => False)) (fun _ _ => id); rw [hfl] at this; exact this
      have HNX : Hid (∀ (o o' : Obj) (w' : World) (v' : Value), Appended ((wr.alloc o).alloc o') w' 53 6 (.slice av j cv) v' j 1 (((l.take j).map (·.e)).flatMap entC) (entC x.e) → Grow 53 6 entC W w' v' ((l.take j).map (·.e) ++ [x.e])) := by
        intro o o' w' v' hA
        have hA' : Appended ((wr.alloc o).alloc o') w' 53 6 (.slice av j cv) v' ((l.take j).map (·.e)).length 1 (((l.take j).map (·.e)).flatMap entC) (entC x.e) := by rw [hfl]; exact hA
        exact (HG.out.more ((Kept.alloc wr o (fun _ => False)).allocNew o')).next hA'
      have b1 : j + 1 ≤ maxLen := by unfold maxLen; omega
      have b2 : (j + 1) * 56 ≤ 140737488355328 := by omega
      clear hx hc hge hfl hkw
      subst hao
      go_wp2_with (at_builtin; go_must (refine wpList_append_mine _ rfl (.tmp 16) (.tmp 19) 49 rfl 53 i0 (.agg #[.string ByteArray.empty, .int .i32 0, .int .u64 0, .int .u64 0, .bool false, .int .u64 0]) 6 56 Tryz.underlying49 HI.out.1 HI.out.2.1 HI.out.2.2.1 HI.out.2.2.2 rfl (by decide) (.slice av j cv) j _ rfl (HROW.out _ _) ⟨wr.heap.size + 1, 0, none⟩ 1 1 (entC x.e) rfl rfl (fun j u hj => by simpa using news_ent1 (wr.alloc _) x.e _ j u hj) (oneCell_ent1 x.e) b1 b2 ?_); intro v' w1 hA; have HA : Hid (Grow 53 6 entC W w1 v' ((l.take j).map (·.e) ++ [x.e])) := HNX.out _ _ _ _ hA; clear hA)
      go_roundw
      case rel => exact ⟨j + 1, by omega, by go_num, by rw [HX.out]; exact HA.out⟩
      case measure => simp [intOf]; omega
    · have hjn : j = l.length := by omega
      subst hjn
      have HG2 : Hid (Grow 53 6 entC W wr (.slice av l.length cv) (l.map (·.e))) := by have := HG.out; rw [List.take_length] at this; exact this
      have HKR : Hid (Kept (fun _ => False) w wr) := hkw
      clear hfl hkw HG
      go_wp2_with (go_at_call 73; refine (HN.out _ HKR.out).mono ?_; rintro e w1 ⟨wa, wc, rfl, HW⟩)
      obtain ⟨c0, c2⟩ := HC.out w1 (HKR.out.trans HW.out.kept (fun _ => id) (fun _ _ => id))
      have bR := (HKW.out.2.kept HG2.out.kept id).kept HW.out.kept id
      have r0 : w1.cell? ⟨w.heap.size, 0, none⟩ = some (.bool false) := bR.cell 0
      have r1 : w1.cell? ⟨w.heap.size, 1, none⟩ = some (.int .u64 0) := bR.cell 1
      have r2 : w1.cell? ⟨w.heap.size, 2, none⟩ = some (.slice none 0 0) := bR.cell 2
      have r3 : w1.cell? ⟨w.heap.size, 3, none⟩ = some (.slice none 0 0) := bR.cell 3
      have rf : ∀ i, w1.frozen? ⟨w.heap.size, i, none⟩ = false := fun i => bR.free i
      have hgne : g ≠ w.heap.size := by omega
      have HFIN : Hid (∀ W', Kept (fun k => k = w.heap.size) w1 W' → Grow 5 1 u8C w W' (.slice wa wn.length wc) wn ∧ Grow 53 6 entC w W' (.slice av l.length cv) (l.map (·.e))) := fun W' k => by
        have kk : Kept (fun _ => False) w W' := (HKR.out.trans HW.out.kept (fun _ => id) (fun _ _ => id)).trans k (fun _ => id) (fun i hi he => by omega)
        have hsw := HKW.out.1.size
        have hsz : W.heap.size ≤ wr.heap.size := HG2.out.kept.size
        have hbl : w.heap.size < W.heap.size := HKW.out.2.lt
        refine ⟨⟨HW.out.row.kept k (fun i hi he => by have := HW.out.new i hi; omega), kk, fun i hi => by have := HW.out.new i hi; omega⟩, ⟨((HG2.out.row.kept HW.out.kept (fun _ _ => id))).kept k (fun i hi he => by have := HG2.out.new i hi; omega), kk, fun i hi => by have := HG2.out.new i hi; omega⟩⟩
      clear bR
      go_region
      all_goals
        go_wp2
        refine bodyPost_ret (v := .agg #[.bool up, .int .u64 (hzn : Int), .slice wa wn.length wc, .slice av l.length cv]) (by simp [results, Tryz.results44, go_sem, *]) rfl ⟨wa, wc, av, cv, rfl, HFIN.out _ ?_⟩
        repeat first
          | with_reducible refine Kept.setO ?_ _ _
          | with_reducible exact Kept.refl _ _
          | with_reducible refine Kept.drewN ?_ _
          | with_reducible refine Kept.drew ?_

/-- what Look tells of a node. -/
def LookOf (p : NodeP) (w w' : World) (wa ea : Option Addr) (wc ec : Nat) : Prop := Grow 5 1 u8C w w' (.slice wa (waitN p 4).length wc) (waitN p 4) ∧ Grow 53 6 entC w w' (.slice ea p.ents.length ec) (p.ents.map (·.e))
set_option maxRecDepth 100000 in
set_option maxHeartbeats 1000000 in
theorem dlook (w : World) (b k : Nat) (D : DevS) (nd : DNodeE) (h : Dev w b D) (hnd : D.nodes[k]? = some nd) (hw : nd.p.Walk) :
    Calls Tryz.prog 21 #[.pointer (some ⟨b, 0, none⟩), .int .i64 (k : Int)] w fun e w' => ∃ wa wc ea ec, e = .returned (.tuple #[.agg #[.bool nd.p.up, .int .u64 (nd.p.horizon : Int), .slice wa (waitN nd.p 4).length wc, .slice ea nd.p.ents.length ec], .int .i64 0]) ∧ Hid (LookOf nd.p w w' wa ea wc ec) := by
  have hk : k < D.nodes.length := (List.getElem?_eq_some_iff.mp hnd).1
  obtain ⟨g, cv, hv, ho, hgl⟩ := h.nodes.block (by omega)
  have HS : Hid (∀ W, Kept (fun _ => False) w W → Calls Tryz.prog 23 #[.pointer (some ⟨b, 0, none⟩), .int .i64 (k : Int)] W fun e w' => e = .returned (.tuple #[.pointer (some ⟨g, k * 8, none⟩), .int .i64 0]) ∧ W = w') := fun W hW => dsite W b k g D (h.kept hW (fun _ _ => id)) hk ho
  have HL : Hid (∀ W, Kept (fun _ => False) w W → Calls Tryz.prog 44 #[.pointer (some ⟨g, k * 8, none⟩)] W fun e w' => ∃ wa wc ea ec, e = .returned (.agg #[.bool nd.p.up, .int .u64 (nd.p.horizon : Int), .slice wa (waitN nd.p 4).length wc, .slice ea nd.p.ents.length ec]) ∧ Hid (Grow 5 1 u8C W w' (.slice wa (waitN nd.p 4).length wc) (waitN nd.p 4) ∧ Grow 53 6 entC W w' (.slice ea nd.p.ents.length ec) (nd.p.ents.map (·.e)))) := fun W hW => dlook0 W b k g D nd (h.kept hW (fun _ _ => id)) hnd ho hw
  obtain ⟨p, hp⟩ : ∃ p, p = nd.p := ⟨_, rfl⟩
  rw [← hp] at HL ⊢
  clear h hnd hw hk hv ho hp
  go_enter Tryz.func21, Tryz.ntmps21
  go_wp2_with first
    | (go_at_call 23; refine (HS.out _ (Kept.alloc _ _ _)).mono ?_; rintro e w1 ⟨rfl, rfl⟩)
    | (go_at_call 44; refine (HL.out _ (Kept.alloc _ _ _)).mono ?_; rintro e w1 ⟨wa, wc, ea, ec, rfl, HG⟩; have bR := (Blk.new w 66 #[.bool false, .int .u64 0, .slice none 0 0, .slice none 0 0]).kept HG.out.1.kept id; have r0 : w1.cell? ⟨w.heap.size, 0, none⟩ = some (.bool false) := bR.cell 0; have r1 : w1.cell? ⟨w.heap.size, 1, none⟩ = some (.int .u64 0) := bR.cell 1; have r2 : w1.cell? ⟨w.heap.size, 2, none⟩ = some (.slice none 0 0) := bR.cell 2; have r3 : w1.cell? ⟨w.heap.size, 3, none⟩ = some (.slice none 0 0) := bR.cell 3; have rf : ∀ i, w1.frozen? ⟨w.heap.size, i, none⟩ = false := fun i => bR.free i; clear bR)
  refine bodyPost_ret (v := .tuple #[.agg #[.bool p.up, .int .u64 (p.horizon : Int), .slice wa (waitN p 4).length wc, .slice ea p.ents.length ec], .int .i64 0]) (by simp [results, Tryz.results21, go_sem, *]) rfl ⟨wa, wc, ea, ec, rfl, ?_⟩
  have hF : ∀ W', Kept (fun k => k = w.heap.size) w1 W' → LookOf p w W' wa ea wc ec := fun W' k => by
    have hsz : (w.alloc (.cells #[.bool false, .int .u64 0, .slice none 0 0, .slice none 0 0] 66)).heap.size = w.heap.size + 1 := by simp
    have kk : Kept (fun _ => False) w W' := ((Kept.alloc _ _ _).trans HG.out.1.kept (fun _ => id) (fun _ _ => id)).trans k (fun _ => id) (fun i hi he => by omega)
    refine ⟨⟨HG.out.1.row.kept k (fun i hi he => by have := HG.out.1.new i hi; omega), kk, fun i hi => by have := HG.out.1.new i hi; omega⟩, ⟨HG.out.2.row.kept k (fun i hi he => by have := HG.out.2.new i hi; omega), kk, fun i hi => by have := HG.out.2.new i hi; omega⟩⟩
  refine hF _ ?_
  repeat first
    | with_reducible refine Kept.setO ?_ _ _
    | with_reducible exact Kept.refl _ _

set_option maxRecDepth 100000 in
set_option maxHeartbeats 1000000 in
theorem dflight (w : World) (b k : Nat) (D : DevS) (nd : DNodeE) (h : Dev w b D) (hnd : D.nodes[k]? = some nd) (hw : nd.p.Walk) :
    Calls Tryz.prog 8 #[.pointer (some ⟨b, 0, none⟩), .int .i64 (k : Int)] w fun e w' => ∃ ao cap, e = .returned (.tuple #[.slice ao nd.p.flight.length cap, .int .i64 0]) ∧ Hid (Grow 127 2 msgC w w' (.slice ao nd.p.flight.length cap) (nd.p.flight.map msgOf)) := by
  have hk : k < D.nodes.length := (List.getElem?_eq_some_iff.mp hnd).1
  obtain ⟨g, cv, hv, ho, hgl⟩ := h.nodes.block (by omega)
  have HS : Hid (Calls Tryz.prog 23 #[.pointer (some ⟨b, 0, none⟩), .int .i64 (k : Int)] w fun e w' => e = .returned (.tuple #[.pointer (some ⟨g, k * 8, none⟩), .int .i64 0]) ∧ w = w') := dsite w b k g D h hk ho
  have HL : Hid (Calls Tryz.prog 24 #[.pointer (some ⟨g, k * 8 + 7, none⟩)] w fun e w' => ∃ ao cap, e = .returned (.slice ao nd.p.flight.length cap) ∧ Hid (Grow 127 2 msgC w w' (.slice ao nd.p.flight.length cap) (nd.p.flight.map msgOf))) := dlinks w b k g D nd h hnd ho hw.fl hw.fs
  obtain ⟨p, hp⟩ : ∃ p, p = nd.p := ⟨_, rfl⟩
  rw [← hp] at HL ⊢
  clear h hnd hw hk hv ho hp
  go_enter Tryz.func8, Tryz.ntmps8
  go_wp2_with first
    | (go_at_call 23; refine HS.out.mono ?_; rintro e w1 ⟨rfl, rfl⟩)
    | (go_at_call 24; refine HL.out.mono ?_; rintro e w1 ⟨ao, cap, rfl, HG⟩)
  go_ret2
  exact ⟨ao, cap, rfl, HG.out⟩

end Go.Proofs.YtpfcacedpkaihabGreat
