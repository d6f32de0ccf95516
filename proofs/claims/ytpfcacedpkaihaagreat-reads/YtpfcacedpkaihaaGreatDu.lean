/- The program's links (package links): Age, Take, walked. -/
import Derived.Test.YtpfcacedpkaihaaGreatGrGsDv
namespace Go.Proofs.YtpfcacedpkaihaaGreat
open Go.RowKit

/-- a node's messages are others, in a list that is new. -/
theorem Dev.putFlight {w wr : World} {b k g : Nat} {D : DevS} {nd : DNodeE} (h : Dev w b D) (hnd : D.nodes[k]? = some nd) (ho : D.vn.ownBlock = some g) (l : List (Nat × Int)) (v : Value) (hG : Grow 192 2 histC w wr v l) : Turns w b D k { nd.p with flight := l } (wr.setCell ⟨g, k * 8 + 7, none⟩ v) :=
  ⟨{ nd with p := { nd.p with flight := l }, fl := v }, rfl, h.rowN hnd ho 3 7 (by omega) (by omega) ⟨192, 2, nd.fl, nd.p.flight.length, nd.p.flight.flatMap histC⟩ ⟨192, 2, v, l.length, l.flatMap histC⟩ v rfl rfl rfl (hG.kept.mono (fun _ => False.elim)) hG.row hG.own⟩

set_option maxRecDepth 100000 in
set_option maxHeartbeats 2000000 in
theorem dage (w : World) (b k g : Nat) (D : DevS) (nd : DNodeE) (t : Nat) (h : Dev w b D) (hnd : D.nodes[k]? = some nd) (ho : D.vn.ownBlock = some g) (hl : nd.p.flight.length ≤ 1000) (hs : ∀ c ∈ nd.p.flight, c.1 ≤ 1000000) :
    Calls Tryz.prog 129 #[.pointer (some ⟨g, k * 8 + 7, none⟩), .int .u64 t] w fun e w' => e = .returned (.tuple #[]) ∧ Hid (Turns w b D k (nd.p.age t) w') := by
  have hr := h.flight nd (List.mem_of_getElem? hnd)
  obtain ⟨ao, cap, hv, hp⟩ := hr.pairs
  have c7 : w.cell? ⟨g, k * 8 + 7, none⟩ = some nd.fl := h.nodeC hnd ho 7 (by omega) _ rfl
  have f7 : w.frozen? ⟨g, k * 8 + 7, none⟩ = false := h.nodeF ho _
  have hgl : g < w.heap.size := World.block_lt_of_cell? w _ c7
  have HC : Hid (∀ W, Kept (fun _ => False) w W → W.cell? ⟨g, k * 8 + 7, none⟩ = some nd.fl ∧ W.frozen? ⟨g, k * 8 + 7, none⟩ = false) := fun W hW => ⟨hW.hold c7, (World.frozen?_of_block (a := ⟨g, k * 8 + 7, none⟩) (hW.block g hgl id)).trans f7⟩
  rw [hv] at c7 HC
  obtain ⟨l, hll⟩ : ∃ l, l = nd.p.flight := ⟨_, rfl⟩
  have HP : Hid (∀ j (hj : j < l.length), ∃ gw, ao = some ⟨gw, 0, none⟩ ∧ gw < w.heap.size ∧ w.cell? ⟨gw, j * 2, none⟩ = some (.int .u64 (l[j].1 : Int)) ∧ w.cell? ⟨gw, j * 2 + 1, none⟩ = some (.int .u8 l[j].2)) := by rw [hll]; exact hp
  have HF : Hid (∀ (v : Value) (wr : World), Grow 192 2 histC w wr v (l.filter fun c => decide (t < c.1 + 100)) → Turns w b D k (nd.p.age t) (wr.setCell ⟨g, k * 8 + 7, none⟩ v)) := fun v wr hG => by rw [hll] at hG; exact h.putFlight hnd ho _ v hG
  have HS : Hid (∀ j (hj : j < l.length), l[j].1 ≤ 1000000) := fun j hj => hs _ (by rw [← hll]; exact List.getElem_mem hj)
  rw [← hll] at hl c7 HC
  obtain ⟨i0, hi, hz0, hz1, hz2⟩ := info_parts Tryz.infoSent
  have HI : Hid (Tryz.prog.info? 192 = some i0 ∧ i0.zero = some (.agg #[.int .u64 0, .int .u8 0]) ∧ i0.size = 2 ∧ i0.bytes = 16) := ⟨hi, hz0, hz1, hz2⟩
  clear hi hz0 hz1 hz2 h hnd ho hr hp hv hll hs f7
  go_enter Tryz.func129, Tryz.ntmps129
  go_wp2
  go_loopw [4, 12] (fun v iv wr => ∃ j : Nat, j ≤ l.length ∧ iv = .int .i64 j ∧ Hid (Grow 192 2 histC w wr v ((l.take j).filter fun c => decide (t < c.1 + 100)))) (fun _ iv _ => l.length - (intOf iv).toNat)
  case atStart => exact ⟨0, Nat.zero_le _, rfl, Grow.start _ _ _ _⟩
  case round =>
    obtain ⟨j, hj, rfl, HG⟩ := hrel
    obtain ⟨av, cv, hvv, _⟩ := HG.out.row.form
    have hfl := filter_len l (fun c => decide (t < c.1 + 100)) j
    obtain ⟨n, hn⟩ : ∃ n, n = ((l.take j).filter fun c => decide (t < c.1 + 100)).length := ⟨_, rfl⟩
    rw [← hn] at hvv hfl
    subst hvv
    by_cases hlt : j < l.length
    · obtain ⟨gw, hao, hgw, p0, p1⟩ := HP.out j hlt
      have HFT := filter_take l (fun c => decide (t < c.1 + 100)) j hlt
      have hsx := HS.out j hlt
      obtain ⟨x, hx⟩ : ∃ x, x = l[j] := ⟨_, rfl⟩
      rw [← hx] at p0 p1 HFT hsx
      have d0 := HG.out.kept.hold p0
      have d1 := HG.out.kept.hold p1
      have hj0 : (0 : Int) ≤ (j : Int) := by omega
      have hj1 : (j : Int) < (l.length : Int) := by omega
      clear hx p0 p1 hgw
      subst hao
      by_cases he : t < x.1 + 100
      · have HX : Hid ((l.take (j + 1)).filter (fun c => decide (t < c.1 + 100)) = (l.take j).filter (fun c => decide (t < c.1 + 100)) ++ [x]) := by show _ = _; rw [HFT, if_pos (by simpa using he)]
        have hd : decide ((t : Int) < (x.1 : Int) + 100) = true := by simp; omega
        have HROW : Hid (∀ o o', Row ((wr.alloc o).alloc o') 192 2 (.slice av n cv) n (((l.take j).filter fun c => decide (t < c.1 + 100)).flatMap histC)) := fun o o' => by have := (HG.out.row.kept (Kept.alloc wr o (fun _ => False)) (fun _ _ => id)).kept (Kept.alloc _ o' (fun _ => False)) (fun _ _ => id); rw [← hn] at this; exact this
        have HNX : Hid (∀ (o o' : Obj) (w' : World) (v' : Value), Appended ((wr.alloc o).alloc o') w' 192 2 (.slice av n cv) v' n 1 (((l.take j).filter fun c => decide (t < c.1 + 100)).flatMap histC) (histC x) → Grow 192 2 histC w w' v' ((l.take j).filter (fun c => decide (t < c.1 + 100)) ++ [x])) := by
          intro o o' w' v' hA
          rw [hn] at hA HG
          exact (HG.out.more ((Kept.alloc wr o (fun _ => False)).allocNew o')).next hA
        have b1 : n + 1 ≤ maxLen := by unfold maxLen; omega
        have b2 : (n + 1) * 16 ≤ 140737488355328 := by omega
        clear HFT he hn
        go_wp2_with (at_builtin; go_must (refine wpList_append_mine _ rfl (.tmp 21) (.tmp 23) 135 rfl 192 i0 (.agg #[.int .u64 0, .int .u8 0]) 2 16 Tryz.underlying135 HI.out.1 HI.out.2.1 HI.out.2.2.1 HI.out.2.2.2 rfl (by decide) (.slice av n cv) n _ rfl (HROW.out _ _) ⟨wr.heap.size + 1, 0, none⟩ 1 1 (histC x) rfl rfl (fun j u hj => by simpa using news_pair (wr.alloc _) x _ j u hj) (oneCell_pair x) b1 b2 ?_); intro v' w1 hA; have HA : Hid (Grow 192 2 histC w w1 v' ((l.take j).filter (fun c => decide (t < c.1 + 100)) ++ [x])) := HNX.out _ _ _ _ hA; clear hA)
        go_roundw
        case rel => exact ⟨j + 1, by omega, by go_num, by rw [HX.out]; exact HA.out⟩
        case measure => simp [intOf]; omega
      · have HX : Hid ((l.take (j + 1)).filter (fun c => decide (t < c.1 + 100)) = (l.take j).filter (fun c => decide (t < c.1 + 100))) := by show _ = _; rw [HFT, if_neg (by simpa using he), List.append_nil]
        have hd : decide ((t : Int) < (x.1 : Int) + 100) = false := by simp; omega
        clear HFT he hn
        go_wp2
        go_roundw
        case rel => exact ⟨j + 1, by omega, by go_num, by rw [HX.out]; exact HG.out.more (Kept.alloc _ _ _)⟩
        case measure => simp [intOf]; omega
    · have hjn : j = l.length := by omega
      subst hjn
      obtain ⟨d7, e7⟩ := HC.out wr HG.out.kept
      have HZ : Hid (Turns w b D k (nd.p.age t) (wr.setCell ⟨g, k * 8 + 7, none⟩ (.slice av n cv))) := HF.out _ _ (by have := HG.out; rwa [List.take_length] at this)
      clear hn
      go_wp2
      go_end0
      exact ⟨rfl, HZ.out⟩

def DTakeFPost (w : World) (b : Nat) (D : DevS) (k : Nat) (p : NodeP) (i : Int) (e : Ending) (w' : World) : Prop :=
  ((i < 0 ∨ (p.flight.length : Int) ≤ i) ∧ e = .returned (.tuple #[.agg #[.int .u64 0, .int .u8 0], .int .i64 10]) ∧ Kept (fun _ => False) w w') ∨
  (∃ (j : Nat) (x : Nat × Int), i = (j : Int) ∧ p.flight[j]? = some x ∧ e = .returned (.tuple #[.agg #[.int .u64 (x.1 : Int), .int .u8 x.2], .int .i64 0]) ∧ Hid (Turns w b D k (p.take j) w'))

set_option maxRecDepth 100000 in
set_option maxHeartbeats 1000000 in
theorem dtakef_bad (w : World) (b k g : Nat) (D : DevS) (nd : DNodeE) (i : Int) (h : Dev w b D) (hnd : D.nodes[k]? = some nd) (ho : D.vn.ownBlock = some g) (hi : i < 0 ∨ (nd.p.flight.length : Int) ≤ i) :
    Calls Tryz.prog 111 #[.pointer (some ⟨g, k * 8 + 7, none⟩), .int .i64 i] w fun e w' => DTakeFPost w b D k nd.p i e w' := by
  obtain ⟨ao, cap, hv, _⟩ := (h.flight nd (List.mem_of_getElem? hnd)).form
  have c7 : w.cell? ⟨g, k * 8 + 7, none⟩ = some nd.fl := h.nodeC hnd ho 7 (by omega) _ rfl
  have hgl : g < w.heap.size := World.block_lt_of_cell? w _ c7
  rw [hv] at c7
  have HIX : Hid (i < 0 ∨ (nd.p.flight.length : Int) ≤ i) := hi
  by_cases h0 : i < 0
  · have hd : decide (i < 0) = true := by simpa using h0
    clear h hnd ho hv hi
    go_enter Tryz.func111, Tryz.ntmps111
    go_wp2
    exact bodyPost_ret (v := .tuple #[.agg #[.int .u64 0, .int .u8 0], .int .i64 10]) (by simp [results, Tryz.results111, go_sem]) rfl (.inl ⟨HIX.out, rfl, Kept.alloc _ _ _⟩)
  · have hd : decide (i < 0) = false := by simpa using h0
    have h1 : (nd.p.flight.length : Int) ≤ i := by omega
    clear h hnd ho hv hi
    go_enter Tryz.func111, Tryz.ntmps111
    go_wp2
    exact bodyPost_ret (v := .tuple #[.agg #[.int .u64 0, .int .u8 0], .int .i64 10]) (by simp [results, Tryz.results111, go_sem]) rfl (.inl ⟨HIX.out, rfl, Kept.alloc _ _ _⟩)

set_option maxRecDepth 100000 in
set_option maxHeartbeats 2000000 in
theorem dtakef_good (w : World) (b k g : Nat) (D : DevS) (nd : DNodeE) (i : Nat) (h : Dev w b D) (hnd : D.nodes[k]? = some nd) (ho : D.vn.ownBlock = some g) (hl : nd.p.flight.length ≤ 1000) (hi : i < nd.p.flight.length) :
    Calls Tryz.prog 111 #[.pointer (some ⟨g, k * 8 + 7, none⟩), .int .i64 (i : Int)] w fun e w' => DTakeFPost w b D k nd.p i e w' := by
  have hr := h.flight nd (List.mem_of_getElem? hnd)
  obtain ⟨ao, cap, hv, hp⟩ := hr.pairs
  have c7 : w.cell? ⟨g, k * 8 + 7, none⟩ = some nd.fl := h.nodeC hnd ho 7 (by omega) _ rfl
  have f7 : w.frozen? ⟨g, k * 8 + 7, none⟩ = false := h.nodeF ho _
  have hgl : g < w.heap.size := World.block_lt_of_cell? w _ c7
  have HC : Hid (∀ W, Kept (fun _ => False) w W → W.cell? ⟨g, k * 8 + 7, none⟩ = some nd.fl ∧ W.frozen? ⟨g, k * 8 + 7, none⟩ = false) := fun W hW => ⟨hW.hold c7, (World.frozen?_of_block (a := ⟨g, k * 8 + 7, none⟩) (hW.block g hgl id)).trans f7⟩
  rw [hv] at c7 HC
  obtain ⟨l, hll⟩ : ∃ l, l = nd.p.flight := ⟨_, rfl⟩
  rw [← hll] at hi
  have HP : Hid (∀ j (hj : j < l.length), ∃ gw, ao = some ⟨gw, 0, none⟩ ∧ gw < w.heap.size ∧ w.cell? ⟨gw, j * 2, none⟩ = some (.int .u64 (l[j].1 : Int)) ∧ w.cell? ⟨gw, j * 2 + 1, none⟩ = some (.int .u8 l[j].2)) := by rw [hll]; exact hp
  obtain ⟨x, hx⟩ : ∃ x, x = l[i] := ⟨_, rfl⟩
  have HF : Hid (∀ (v : Value) (wr W W' : World), Kept (fun _ => False) w W → w.heap.size < W.heap.size → Grow 192 2 histC W wr v (l.eraseIdx i) → Kept (fun j => j = w.heap.size) (wr.setCell ⟨g, k * 8 + 7, none⟩ v) W' → DTakeFPost w b D k nd.p i (.returned (.tuple #[.agg #[.int .u64 (x.1 : Int), .int .u8 x.2], .int .i64 0])) W') := fun v wr W W' hW hsz hG hk => by
    rw [hll] at hG
    refine .inr ⟨i, x, rfl, by rw [hx, ← hll]; exact List.getElem?_eq_getElem hi, rfl, ?_⟩
    exact Turns.late hW ((h.kept hW (fun _ _ => id)).putFlight hnd ho _ v hG) h.lt (Nat.le_refl _) hsz hk
  rw [← hll] at hl c7 HC
  obtain ⟨gw0, hao0, hgw0, a0, a1⟩ := HP.out i hi
  rw [← hx] at a0 a1
  obtain ⟨i0, hi0, hz0, hz1, hz2⟩ := info_parts Tryz.infoSent
  have HI : Hid (Tryz.prog.info? 192 = some i0 ∧ i0.zero = some (.agg #[.int .u64 0, .int .u8 0]) ∧ i0.size = 2 ∧ i0.bytes = 16) := ⟨hi0, hz0, hz1, hz2⟩
  have hd : decide ((i : Int) < 0) = false := by simp
  have hd2 : decide (l.length ≤ i) = false := by simp; omega
  have hi1 : (i : Int) < (l.length : Int) := by omega
  have hi2 : (0 : Int) ≤ (i : Int) := by omega
  clear hi0 hz0 hz1 hz2 h hnd ho hr hp hv hll f7 hx
  subst hao0
  go_enter Tryz.func111, Tryz.ntmps111
  go_wp2
  obtain ⟨w2, hw2⟩ : ∃ w2, w2 = (w.alloc (.cells #[.int .u64 0, .int .u8 0] 192)).alloc (.cells #[.int .u64 (x.1 : Int), .int .u8 x.2] 192) := ⟨_, rfl⟩
  have k2 : Kept (fun _ => False) w w2 := by rw [hw2]; exact (Kept.alloc _ _ _).allocNew _
  have bb : Blk w2 w.heap.size 192 #[.int .u64 0, .int .u8 0] ∧ Blk w2 (w.heap.size + 1) 192 #[.int .u64 (x.1 : Int), .int .u8 x.2] := by
    rw [hw2]
    refine ⟨(Blk.new w _ _).kept (Kept.alloc _ _ (fun _ => False)) id, ?_⟩
    have := Blk.new (w.alloc (.cells #[.int .u64 0, .int .u8 0] 192)) 192 #[.int .u64 (x.1 : Int), .int .u8 x.2]
    simp only [World.size_alloc] at this
    exact this
  have hs2 : w2.heap.size = w.heap.size + 2 := by rw [hw2]; simp
  rw [show ((w.alloc (.cells #[.int .u64 0, .int .u8 0] 192)).alloc (.cells #[.int .u64 (x.1 : Int), .int .u8 x.2] 192)) = w2 from hw2.symm]
  have HK2 : Hid (Kept (fun _ => False) w w2) := k2
  have HBB : Hid (Blk w2 w.heap.size 192 #[.int .u64 0, .int .u8 0] ∧ Blk w2 (w.heap.size + 1) 192 #[.int .u64 (x.1 : Int), .int .u8 x.2]) := bb
  clear hw2 k2 bb a0 a1 c7
  go_loopw [7, 34] (fun v iv wr => ∃ j : Nat, j ≤ l.length ∧ iv = .int .i64 j ∧ Hid (Grow 192 2 histC w2 wr v (tkL l i j))) (fun _ iv _ => l.length - (intOf iv).toNat)
  case atStart => exact ⟨0, Nat.zero_le _, rfl, by rw [show tkL l i 0 = [] by simp [tkL]]; exact Grow.start _ _ _ _⟩
  case round =>
    obtain ⟨j, hj, rfl, HG⟩ := hrel
    have hkw : Kept (fun _ => False) w wr := HK2.out.trans HG.out.kept (fun _ => id) (fun _ _ => id)
    obtain ⟨av, cv, hvv, _⟩ := HG.out.row.form
    have hfl := tkL_len l i j
    obtain ⟨n, hn⟩ : ∃ n, n = (tkL l i j).length := ⟨_, rfl⟩
    rw [← hn] at hvv hfl
    subst hvv
    by_cases hlt : j < l.length
    · obtain ⟨gw, hao, hgw, p0, p1⟩ := HP.out j hlt
      injection hao with hao
      injection hao with hao hao1 hao2
      have HTN := tkL_next l i j hlt
      obtain ⟨y, hy⟩ : ∃ y, y = l[j] := ⟨_, rfl⟩
      rw [← hy] at p0 p1 HTN
      have d0 := hkw.hold p0
      have d1 := hkw.hold p1
      have hj0 : (0 : Int) ≤ (j : Int) := by omega
      have hj1 : (j : Int) < (l.length : Int) := by omega
      clear hy p0 p1 hgw hao1 hao2
      subst hao
      by_cases he : j = i
      · have HX : Hid (tkL l i (j + 1) = tkL l i j) := by show _ = _; rw [he]; exact tkL_skip l i hi
        have hb : (((j : Int)) != (i : Int)) = false := by simp [he]
        clear HTN he hn
        go_wp2
        go_roundw
        case rel => exact ⟨j + 1, by omega, by go_num, by rw [HX.out]; exact HG.out.more (Kept.alloc _ _ _)⟩
        case measure => simp [intOf]; omega
      · have HX : Hid (tkL l i (j + 1) = tkL l i j ++ [y]) := HTN he
        have hb : (((j : Int)) != (i : Int)) = true := by simp; omega
        have HROW : Hid (∀ o o', Row ((wr.alloc o).alloc o') 192 2 (.slice av n cv) n ((tkL l i j).flatMap histC)) := fun o o' => by have := (HG.out.row.kept (Kept.alloc wr o (fun _ => False)) (fun _ _ => id)).kept (Kept.alloc _ o' (fun _ => False)) (fun _ _ => id); rw [← hn] at this; exact this
        have HNX : Hid (∀ (o o' : Obj) (w' : World) (v' : Value), Appended ((wr.alloc o).alloc o') w' 192 2 (.slice av n cv) v' n 1 ((tkL l i j).flatMap histC) (histC y) → Grow 192 2 histC w2 w' v' (tkL l i j ++ [y])) := by
          intro o o' w' v' hA
          rw [hn] at hA HG
          exact (HG.out.more ((Kept.alloc wr o (fun _ => False)).allocNew o')).next hA
        have b1 : n + 1 ≤ maxLen := by unfold maxLen; omega
        have b2 : (n + 1) * 16 ≤ 140737488355328 := by omega
        clear HTN he hn
        go_wp2_with (at_builtin; go_must (refine wpList_append_mine _ rfl (.tmp 42) (.tmp 44) 135 rfl 192 i0 (.agg #[.int .u64 0, .int .u8 0]) 2 16 Tryz.underlying135 HI.out.1 HI.out.2.1 HI.out.2.2.1 HI.out.2.2.2 rfl (by decide) (.slice av n cv) n _ rfl (HROW.out _ _) ⟨wr.heap.size + 1, 0, none⟩ 1 1 (histC y) rfl rfl (fun j u hj => by simpa using news_pair (wr.alloc _) y _ j u hj) (oneCell_pair y) b1 b2 ?_); intro v' w1 hA; have HA : Hid (Grow 192 2 histC w2 w1 v' (tkL l i j ++ [y])) := HNX.out _ _ _ _ hA; clear hA)
        go_roundw
        case rel => exact ⟨j + 1, by omega, by go_num, by rw [HX.out]; exact HA.out⟩
        case measure => simp [intOf]; omega
    · have hjn : j = l.length := by omega
      subst hjn
      obtain ⟨d7, e7⟩ := HC.out wr hkw
      have HZ : Hid (∀ W', Kept (fun j => j = w.heap.size) (wr.setCell ⟨g, k * 8 + 7, none⟩ (.slice av n cv)) W' → DTakeFPost w b D k nd.p i (.returned (.tuple #[.agg #[.int .u64 (x.1 : Int), .int .u8 x.2], .int .i64 0])) W') := fun W' hk => HF.out _ wr w2 W' HK2.out (by omega) (by have := HG.out; rwa [tkL_all] at this) hk
      have q0 := HBB.out.1.kept HG.out.kept id
      have q1 := HBB.out.2.kept HG.out.kept id
      have r0 : wr.cell? ⟨w.heap.size, 0, none⟩ = some (.int .u64 0) := q0.cell 0
      have r1 : wr.cell? ⟨w.heap.size, 1, none⟩ = some (.int .u8 0) := q0.cell 1
      have rf : ∀ i, wr.frozen? ⟨w.heap.size, i, none⟩ = false := fun i => q0.free i
      have s0 : wr.cell? ⟨w.heap.size + 1, 0, none⟩ = some (.int .u64 (x.1 : Int)) := q1.cell 0
      have s1 : wr.cell? ⟨w.heap.size + 1, 1, none⟩ = some (.int .u8 x.2) := q1.cell 1
      have hg0 : g ≠ w.heap.size := by omega
      have hg1 : g ≠ w.heap.size + 1 := by omega
      have hg2 := Ne.symm hg0
      have hg3 := Ne.symm hg1
      clear hn q0 q1 hkw
      go_wp2
      refine bodyPost_ret (v := .tuple #[.agg #[.int .u64 (x.1 : Int), .int .u8 x.2], .int .i64 0]) (by simp [results, Tryz.results111, go_sem, *]) rfl (HZ.out _ ?_)
      exact (Kept.setCell _ ⟨w.heap.size, 0, none⟩ _).trans (Kept.setCell _ ⟨w.heap.size, 1, none⟩ _) (fun _ => id) (fun _ _ => id)

theorem dtakef (w : World) (b k g : Nat) (D : DevS) (nd : DNodeE) (i : Int) (h : Dev w b D) (hnd : D.nodes[k]? = some nd) (ho : D.vn.ownBlock = some g) (hl : nd.p.flight.length ≤ 1000) :
    Calls Tryz.prog 111 #[.pointer (some ⟨g, k * 8 + 7, none⟩), .int .i64 i] w fun e w' => DTakeFPost w b D k nd.p i e w' := by
  by_cases hi : i < 0 ∨ (nd.p.flight.length : Int) ≤ i
  · exact dtakef_bad w b k g D nd i h hnd ho hi
  · obtain ⟨j, rfl⟩ : ∃ j : Nat, i = j := ⟨i.toNat, by omega⟩
    exact dtakef_good w b k g D nd j h hnd ho hl (by omega)

end Go.Proofs.YtpfcacedpkaihaaGreat
