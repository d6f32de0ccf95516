import Derived.Test.YtpfcacedpkaihaaGreatC27
namespace Go.Proofs.YtpfcacedpkaihaaGreat
open Go.RowKit
set_option maxRecDepth 100000
set_option maxHeartbeats 16000000
theorem Row.helds {w : World} {T : TypeId} {v : Value} {l : List HeldE} (h : Row w T 7 v l.length (l.flatMap heldC)) : ∃ ao cap, v = .slice ao l.length cap ∧ ∀ j (hj : j < l.length), ∃ ge, ao = some ⟨ge, 0, none⟩ ∧ ge < w.heap.size ∧ ∀ f, f < 7 → w.cell? ⟨ge, j * 7 + f, none⟩ = (heldC l[j])[f]? := by
 obtain ⟨ao, cap, hv, _⟩ := h.form
 refine ⟨ao, cap, hv, fun j hj => ?_⟩
 obtain ⟨ge, cap', hv', ho, hl⟩ := h.block (by omega)
 rw [hv] at hv'
 injection hv' with e1 e2 e3
 refine ⟨ge, e1, hl, fun f hf => ?_⟩
 obtain ⟨u, hu⟩ : ∃ u, (heldC l[j])[f]? = some u := ⟨_, List.getElem?_eq_getElem (show f < 7 from hf)⟩
 rw [hu]
 exact h.cell ho _ u (by rw [held_at l j hj f hf]; exact hu)
theorem dremove (w : World) (b k g : Nat) (D : DevS) (nd : DNodeE) (i : Nat) (h : Dev w b D) (hnd : D.nodes[k]? = some nd) (ho : D.vn.ownBlock = some g) (hl : nd.p.ents.length ≤ 1000) :
 Calls Tryz.prog 149 #[.pointer (some ⟨g, k * 8, none⟩), .int .i64 (i : Int)] w fun e w' => e = .returned (.tuple #[]) ∧ Hid (Turns w b D k (nd.p.remove i) w') := by
 have hr := h.ents nd (List.mem_of_getElem? hnd)
 obtain ⟨ao, cap, hv, hp⟩ := hr.helds
 have c7 : w.cell? ⟨g, k * 8 + 5, none⟩ = some nd.en := h.nodeC hnd ho 5 (by omega) _ rfl
 have f7 : w.frozen? ⟨g, k * 8 + 5, none⟩ = false := h.nodeF ho _
 have hgl : g < w.heap.size := World.block_lt_of_cell? w _ c7
 have HC : Hid (∀ W, Kept (fun _ => False) w W → W.cell? ⟨g, k * 8 + 5, none⟩ = some nd.en ∧ W.frozen? ⟨g, k * 8 + 5, none⟩ = false) := fun W hW => ⟨hW.hold c7, (World.frozen?_of_block (a := ⟨g, k * 8 + 5, none⟩) (hW.block g hgl id)).trans f7⟩
 rw [hv] at c7 HC
 obtain ⟨l, hll⟩ : ∃ l, l = nd.p.ents := ⟨_, rfl⟩
 have HP : Hid (∀ j (hj : j < l.length), ∃ ge, ao = some ⟨ge, 0, none⟩ ∧ ge < w.heap.size ∧ ∀ f, f < 7 → w.cell? ⟨ge, j * 7 + f, none⟩ = (heldC l[j])[f]?) := by rw [hll]; exact hp
 have HF : Hid (∀ (v : Value) (wr : World), Grow 227 7 heldC w wr v (l.eraseIdx i) → Turns w b D k (nd.p.remove i) (wr.setCell ⟨g, k * 8 + 5, none⟩ v)) := fun v wr hG => by rw [hll] at hG; exact ⟨_, rfl, h.putEnts hnd ho _ v (hG.kept.mono (fun _ => False.elim)) hG.row hG.own⟩
 rw [← hll] at hl c7 HC
 obtain ⟨i0, hi, hz0, hz1, hz2⟩ := info_parts Tryz.infoHeld
 have HI : Hid (Tryz.prog.info? 227 = some i0 ∧ i0.zero = some (.agg #[.string ByteArray.empty, .int .i32 0, .int .u64 0, .int .u64 0, .bool false, .int .u64 0, .int .u64 0]) ∧ i0.size = 7 ∧ i0.bytes = 64) := ⟨hi, hz0, hz1, hz2⟩
 clear hi hz0 hz1 hz2 h hnd ho hr hp hv hll f7
 go_enter Tryz.func149, Tryz.ntmps149
 go_wp2
 go_loopw [4, 12] (fun v iv wr => ∃ j : Nat, j ≤ l.length ∧ iv = .int .i64 j ∧ Hid (Grow 227 7 heldC w wr v (tkL l i j))) (fun _ iv _ => l.length - (intOf iv).toNat)
 case atStart => exact ⟨0, Nat.zero_le _, rfl, by rw [show tkL l i 0 = [] by simp [tkL]]; exact Grow.start _ _ _ _⟩
 case round =>
  obtain ⟨j, hj, rfl, HG⟩ := hrel
  obtain ⟨av, cv, hvv, _⟩ := HG.out.row.form
  have hfl := tkL_len l i j
  obtain ⟨n, hn⟩ : ∃ n, n = (tkL l i j).length := ⟨_, rfl⟩
  rw [← hn] at hvv hfl
  subst hvv
  by_cases hlt : j < l.length
  · obtain ⟨ge, hao, hgw, hce⟩ := HP.out j hlt
    have HTN := tkL_next l i j hlt
    have HTS := tkL_skip l i
    obtain ⟨y, hy⟩ : ∃ y, y = l[j] := ⟨_, rfl⟩
    rw [← hy] at hce HTN
    obtain ⟨x0, x1, x2, x3, x4, x5, x6⟩ := heldBlk (w := wr) (ge := ge) (o := j * 7) (x := y) fun f hf => HG.out.kept.hold' (hce f hf) hf
    have hj0 : (0 : Int) ≤ (j : Int) := by omega
    have hj1 : (j : Int) < (l.length : Int) := by omega
    clear hy hce hgw
    subst hao
    by_cases he : j = i
    · have HX : Hid (tkL l i (j + 1) = tkL l i j) := by show _ = _; rw [he]; exact HTS (by omega)
      have hb : (((j : Int)) != (i : Int)) = false := by simp [he]
      clear HTN HTS he hn
      go_wp2
      go_roundw
      case rel => exact ⟨j + 1, by omega, by go_num, by rw [HX.out]; exact HG.out.more (Kept.alloc _ _ _)⟩
      case measure => simp [intOf]; omega
    · have HX : Hid (tkL l i (j + 1) = tkL l i j ++ [y]) := HTN he
      have hb : (((j : Int)) != (i : Int)) = true := by simp; omega
      have HROW : Hid (∀ o o', Row ((wr.alloc o).alloc o') 227 7 (.slice av n cv) n ((tkL l i j).flatMap heldC)) := fun o o' => by have := (HG.out.row.kept (Kept.alloc wr o (fun _ => False)) (fun _ _ => id)).kept (Kept.alloc _ o' (fun _ => False)) (fun _ _ => id); rw [← hn] at this; exact this
      have HNX : Hid (∀ (o o' : Obj) (w' : World) (v' : Value), Appended ((wr.alloc o).alloc o') w' 227 7 (.slice av n cv) v' n 1 ((tkL l i j).flatMap heldC) (heldC y) → Grow 227 7 heldC w w' v' (tkL l i j ++ [y])) := by
       intro o o' w' v' hA
       rw [hn] at hA HG
       exact (HG.out.more ((Kept.alloc wr o (fun _ => False)).allocNew o')).next hA
      have b1 : n + 1 ≤ maxLen := by unfold maxLen; omega
      have b2 : (n + 1) * 64 ≤ 140737488355328 := by omega
      clear HTN HTS he hn
      go_wp2_with (at_builtin; go_must (refine wpList_append_mine _ rfl (.tmp 20) (.tmp 22) 131 rfl 227 i0 (.agg #[.string ByteArray.empty, .int .i32 0, .int .u64 0, .int .u64 0, .bool false, .int .u64 0, .int .u64 0]) 7 64 Tryz.underlying131 HI.out.1 HI.out.2.1 HI.out.2.2.1 HI.out.2.2.2 rfl (by decide) (.slice av n cv) n _ rfl (HROW.out _ _) ⟨wr.heap.size + 1, 0, none⟩ 1 1 (heldC y) rfl rfl (fun j u hj => by simpa using news_held (wr.alloc _) y _ j u hj) (oneCell_held y) b1 b2 ?_); intro v' w1 hA; have HA : Hid (Grow 227 7 heldC w w1 v' (tkL l i j ++ [y])) := HNX.out _ _ _ _ hA; clear hA)
      go_roundw
      case rel => exact ⟨j + 1, by omega, by go_num, by rw [HX.out]; exact HA.out⟩
      case measure => simp [intOf]; omega
  · have hjn : j = l.length := by omega
    subst hjn
    obtain ⟨d7, e7⟩ := HC.out wr HG.out.kept
    have HZ : Hid (Turns w b D k (nd.p.remove i) (wr.setCell ⟨g, k * 8 + 5, none⟩ (.slice av n cv))) := HF.out _ _ (by have := HG.out; rwa [tkL_all] at this)
    clear hn
    go_wp2
    go_end0
    exact ⟨rfl, HZ.out⟩
theorem parseK (q : ByteArray) (W : World) (hq : q.size ≤ maxLen) : Calls Tryz.prog 71 #[.string q] W fun e w' => ∃ n er : Int, e = .returned (.tuple #[.agg #[.int .u8 (keysQ q), .int .i64 n], .int .i64 er]) ∧ Kept (fun _ => False) W w' :=
 (qParse_any q W hq).mono fun _ _ hp => ⟨_, _, hp.1, Kept.of_below hp.2 _⟩
theorem Dev.putFlight {w wr : World} {b k g : Nat} {D : DevS} {nd : DNodeE} (h : Dev w b D) (hnd : D.nodes[k]? = some nd) (ho : D.vn.ownBlock = some g) (l : List (Nat × Int)) (v : Value) (hG : Grow 192 2 histC w wr v l) : Turns w b D k { nd.p with flight := l } (wr.setCell ⟨g, k * 8 + 7, none⟩ v) :=
 ⟨{ nd with p := { nd.p with flight := l }, fl := v }, rfl, h.rowN hnd ho 3 7 (by omega) (by omega) ⟨192, 2, nd.fl, nd.p.flight.length, nd.p.flight.flatMap histC⟩ ⟨192, 2, v, l.length, l.flatMap histC⟩ v rfl rfl rfl (hG.kept.mono (fun _ => False.elim)) hG.row hG.own⟩
theorem dage (w : World) (b k g : Nat) (D : DevS) (nd : DNodeE) (t : Nat) (h : Dev w b D) (hnd : D.nodes[k]? = some nd) (ho : D.vn.ownBlock = some g) (hl : nd.p.flight.length ≤ 1000) (hs : ∀ c ∈ nd.p.flight, c.1 ≤ 1000000) :
 Calls Tryz.prog 129 #[.pointer (some ⟨g, k * 8 + 7, none⟩), .int .u64 t] w fun e w' => e = .returned (.tuple #[]) ∧ Hid (Turns w b D k (nd.p.age t) w') := by
 have hr := h.flight nd (List.mem_of_getElem? hnd)
 obtain ⟨ao, cap, hv, hp⟩ := hr.pairs
 have c7 : w.cell? ⟨g, k * 8 + 7, none⟩ = some nd.fl := h.nodeC hnd ho 7 (by omega) _ rfl
 have f7 : w.frozen? ⟨g, k * 8 + 7, none⟩ = false := h.nodeF ho _
 have hgl : g < w.heap.size := World.block_lt_of_cell? w _ c7
 have HC : Hid (∀ W, Kept (fun _ => False) w W → W.cell? ⟨g, k * 8 + 7, none⟩ = some nd.fl ∧ W.frozen? ⟨g, k * 8 + 7, none⟩ = false) := fun W hW => ⟨hW.hold c7, (World.frozen?_of_block (a := ⟨g, k * 8 + 7, none⟩) (hW.block g hgl id)).trans f7⟩
 rw [hv] at c7 HC
 obtain ⟨l, hll⟩ : ∃ l, l = nd.p.flight := ⟨_, rfl⟩
 have HP : Hid (∀ j (hj : j < l.length), ∃ gw, ao = some ⟨gw, 0, none⟩ ∧ gw < w.heap.size ∧ w.cell? ⟨gw, j * 2, none⟩ = some (.int .u64 (l[j].1 : Int)) ∧ w.cell? ⟨gw, j * 2 + 1, none⟩ = some (.int .u8 l[j].2)) := by rw [hll]; exact hp
 have HF : Hid (∀ (v : Value) (wr : World), Grow 192 2 histC w wr v (l.filter fun c => decide (t < c.1 + 100)) → Turns w b D k (nd.p.age t) (wr.setCell ⟨g, k * 8 + 7, none⟩ v)) := fun v wr hG => by rw [hll] at hG; exact h.putFlight hnd ho _ v hG
 have HS : Hid (∀ j (hj : j < l.length), l[j].1 ≤ 1000000) := fun j hj => hs _ (by rw [← hll]; exact List.getElem_mem hj)
 rw [← hll] at hl c7 HC
 obtain ⟨i0, hi, hz0, hz1, hz2⟩ := info_parts Tryz.infoSent
 have HI : Hid (Tryz.prog.info? 192 = some i0 ∧ i0.zero = some (.agg #[.int .u64 0, .int .u8 0]) ∧ i0.size = 2 ∧ i0.bytes = 16) := ⟨hi, hz0, hz1, hz2⟩
 clear hi hz0 hz1 hz2 h hnd ho hr hp hv hll hs f7
 go_enter Tryz.func129, Tryz.ntmps129
 go_wp2
 go_loopw [4, 12] (fun v iv wr => ∃ j : Nat, j ≤ l.length ∧ iv = .int .i64 j ∧ Hid (Grow 192 2 histC w wr v ((l.take j).filter fun c => decide (t < c.1 + 100)))) (fun _ iv _ => l.length - (intOf iv).toNat)
 case atStart => exact ⟨0, Nat.zero_le _, rfl, Grow.start _ _ _ _⟩
 case round =>
  obtain ⟨j, hj, rfl, HG⟩ := hrel
  obtain ⟨av, cv, hvv, _⟩ := HG.out.row.form
  have hfl := filter_len l (fun c => decide (t < c.1 + 100)) j
  obtain ⟨n, hn⟩ : ∃ n, n = ((l.take j).filter fun c => decide (t < c.1 + 100)).length := ⟨_, rfl⟩
  rw [← hn] at hvv hfl
  subst hvv
  by_cases hlt : j < l.length
  · obtain ⟨gw, hao, hgw, p0, p1⟩ := HP.out j hlt
    have HFT := filter_take l (fun c => decide (t < c.1 + 100)) j hlt
    have hsx := HS.out j hlt
    obtain ⟨x, hx⟩ : ∃ x, x = l[j] := ⟨_, rfl⟩
    rw [← hx] at p0 p1 HFT hsx
    have d0 := HG.out.kept.hold p0
    have d1 := HG.out.kept.hold p1
    have hj0 : (0 : Int) ≤ (j : Int) := by omega
    have hj1 : (j : Int) < (l.length : Int) := by omega
    clear hx p0 p1 hgw
    subst hao
    by_cases he : t < x.1 + 100
    · have HX : Hid ((l.take (j + 1)).filter (fun c => decide (t < c.1 + 100)) = (l.take j).filter (fun c => decide (t < c.1 + 100)) ++ [x]) := by show _ = _; rw [HFT, if_pos (by simpa using he)]
      have hd : decide ((t : Int) < (x.1 : Int) + 100) = true := by simp; omega
      have HROW : Hid (∀ o o', Row ((wr.alloc o).alloc o') 192 2 (.slice av n cv) n (((l.take j).filter fun c => decide (t < c.1 + 100)).flatMap histC)) := fun o o' => by have := (HG.out.row.kept (Kept.alloc wr o (fun _ => False)) (fun _ _ => id)).kept (Kept.alloc _ o' (fun _ => False)) (fun _ _ => id); rw [← hn] at this; exact this
      have HNX : Hid (∀ (o o' : Obj) (w' : World) (v' : Value), Appended ((wr.alloc o).alloc o') w' 192 2 (.slice av n cv) v' n 1 (((l.take j).filter fun c => decide (t < c.1 + 100)).flatMap histC) (histC x) → Grow 192 2 histC w w' v' ((l.take j).filter (fun c => decide (t < c.1 + 100)) ++ [x])) := by
       intro o o' w' v' hA
       rw [hn] at hA HG
       exact (HG.out.more ((Kept.alloc wr o (fun _ => False)).allocNew o')).next hA
      have b1 : n + 1 ≤ maxLen := by unfold maxLen; omega
      have b2 : (n + 1) * 16 ≤ 140737488355328 := by omega
      clear HFT he hn
      go_wp2_with (at_builtin; go_must (refine wpList_append_mine _ rfl (.tmp 21) (.tmp 23) 135 rfl 192 i0 (.agg #[.int .u64 0, .int .u8 0]) 2 16 Tryz.underlying135 HI.out.1 HI.out.2.1 HI.out.2.2.1 HI.out.2.2.2 rfl (by decide) (.slice av n cv) n _ rfl (HROW.out _ _) ⟨wr.heap.size + 1, 0, none⟩ 1 1 (histC x) rfl rfl (fun j u hj => by simpa using news_pair (wr.alloc _) x _ j u hj) (oneCell_pair x) b1 b2 ?_); intro v' w1 hA; have HA : Hid (Grow 192 2 histC w w1 v' ((l.take j).filter (fun c => decide (t < c.1 + 100)) ++ [x])) := HNX.out _ _ _ _ hA; clear hA)
      go_roundw
      case rel => exact ⟨j + 1, by omega, by go_num, by rw [HX.out]; exact HA.out⟩
      case measure => simp [intOf]; omega
    · have HX : Hid ((l.take (j + 1)).filter (fun c => decide (t < c.1 + 100)) = (l.take j).filter (fun c => decide (t < c.1 + 100))) := by show _ = _; rw [HFT, if_neg (by simpa using he), List.append_nil]
      have hd : decide ((t : Int) < (x.1 : Int) + 100) = false := by simp; omega
      clear HFT he hn
      go_wp2
      go_roundw
      case rel => exact ⟨j + 1, by omega, by go_num, by rw [HX.out]; exact HG.out.more (Kept.alloc _ _ _)⟩
      case measure => simp [intOf]; omega
  · have hjn : j = l.length := by omega
    subst hjn
    obtain ⟨d7, e7⟩ := HC.out wr HG.out.kept
    have HZ : Hid (Turns w b D k (nd.p.age t) (wr.setCell ⟨g, k * 8 + 7, none⟩ (.slice av n cv))) := HF.out _ _ (by have := HG.out; rwa [List.take_length] at this)
    clear hn
    go_wp2
    go_end0
    exact ⟨rfl, HZ.out⟩
theorem dsend (w : World) (b k g : Nat) (D : DevS) (nd : DNodeE) (c : Nat × Int) (h : Dev w b D) (hnd : D.nodes[k]? = some nd) (ho : D.vn.ownBlock = some g) (hl : nd.p.flight.length ≤ 1000) :
 Calls Tryz.prog 131 #[.pointer (some ⟨g, k * 8 + 7, none⟩), .agg #[.int .u64 (c.1 : Int), .int .u8 c.2]] w fun e w' => e = .returned (.tuple #[]) ∧ Hid (Turns w b D k (nd.p.send c) w') := by
 obtain ⟨av, cv, hv, _⟩ := (h.flight nd (List.mem_of_getElem? hnd)).form
 have c3 : w.cell? ⟨g, k * 8 + 7, none⟩ = some nd.fl := h.nodeC hnd ho 7 (by omega) _ rfl
 have hgl : g < w.heap.size := World.block_lt_of_cell? w _ c3
 obtain ⟨l, hll⟩ : ∃ l, l = nd.p.flight := ⟨_, rfl⟩
 rw [hv, ← hll] at c3
 rw [← hll] at hl
 have HD : Hid (Dev w b D) := h
 have HV : Hid (nd.fl = .slice av l.length cv) := by rw [hll]; exact hv
 have HN : Hid (D.nodes[k]? = some nd ∧ D.vn.ownBlock = some g ∧ nd.p.flight = l) := ⟨hnd, ho, hll.symm⟩
 have a3 : ∀ o : Obj, (w.alloc o).cell? ⟨g, k * 8 + 7, none⟩ = some (.slice av l.length cv) := fun o => hold_al c3
 by_cases h12 : 12 ≤ l.length
 · have HFU : Hid (∀ o, Calls Tryz.prog 152 #[.pointer (some ⟨g, k * 8 + 7, none⟩)] (w.alloc o) fun e w' => e = .returned (.bool true) ∧ w.alloc o = w') := fun o => (dfull (w.alloc o) g (k * 8 + 7) av l.length cv (a3 o)).mono fun e w' hp => ⟨by rw [hp.1, decide_eq_true (by omega)], hp.2⟩
   have HZ : Hid (∀ W, Kept (fun _ => False) w W → Turns w b D k (nd.p.send c) W) := fun W hW => by
    rw [NodeP.send, if_pos (by rw [← hll]; exact h12)]
    exact Turns.of_kept h hnd hW
   clear h hv hnd ho hll
   go_enter Tryz.func131, Tryz.ntmps131
   go_wp2_with (go_at_call 152; refine (HFU.out _).mono ?_; rintro e w1 ⟨rfl, rfl⟩)
   (try simp only [Exit.inBlock, Exit.then]); refine bodyPost_ret (results_none rfl _ _ _) rfl ?_
   exact ⟨rfl, HZ.out _ (Kept.alloc _ _ _)⟩
 · have HFU : Hid (∀ o, Calls Tryz.prog 152 #[.pointer (some ⟨g, k * 8 + 7, none⟩)] (w.alloc o) fun e w' => e = .returned (.bool false) ∧ w.alloc o = w') := fun o => (dfull (w.alloc o) g (k * 8 + 7) av l.length cv (a3 o)).mono fun e w' hp => ⟨by rw [hp.1, decide_eq_false (by omega)], hp.2⟩
   have HSE : Hid (nd.p.send c = { nd.p with flight := l ++ [c] }) := by show _ = _; rw [NodeP.send, if_neg (by rw [← hll]; exact h12), ← hll]
   clear h hv hnd ho hll a3
   go_enter Tryz.func131, Tryz.ntmps131
   go_wp2_with (go_at_call 152; refine (HFU.out _).mono ?_; rintro e w1 ⟨rfl, rfl⟩)
   obtain ⟨W, hW⟩ : ∃ W, W = w.alloc (.cells #[.int .u64 (c.1 : Int), .int .u8 c.2] 192) := ⟨_, rfl⟩
   have kW : Kept (fun _ => False) w W := by rw [hW]; exact Kept.alloc _ _ _
   have bW : Blk W w.heap.size 192 #[.int .u64 (c.1 : Int), .int .u8 c.2] := by rw [hW]; exact Blk.new _ _ _
   rw [← hW]
   have HDW : Hid (Dev W b D) := HD.out.kept kW (fun _ _ => id)
   have HKW : Hid (Kept (fun _ => False) w W) := kW
   have hgw : g < W.heap.size := Nat.lt_of_lt_of_le hgl kW.size
   have d3 := kW.hold c3
   have z0 : W.cell? ⟨w.heap.size, 0, none⟩ = some (.int .u64 (c.1 : Int)) := bW.cell 0
   have z1 : W.cell? ⟨w.heap.size, 1, none⟩ = some (.int .u8 c.2) := bW.cell 1
   clear hW kW bW c3
   obtain ⟨i0, hi, hz0, hz1, hz2⟩ := info_parts Tryz.infoSent
   have HI : Hid (Tryz.prog.info? 192 = some i0 ∧ i0.zero = some (.agg #[.int .u64 0, .int .u8 0]) ∧ i0.size = 2 ∧ i0.bytes = 16) := ⟨hi, hz0, hz1, hz2⟩
   clear hi hz0 hz1 hz2
   have qb : ∀ o : Obj, (W.alloc o).cell? ⟨g, k * 8 + 7, none⟩ = some (.slice av l.length cv) := fun o => (World.cell?_alloc_past _ _ _ hgw).trans d3
   have HROW : Hid (∀ o : Obj, Row ((W.alloc o).drew) 192 2 (.slice av l.length cv) l.length (l.flatMap histC)) := fun o => by rw [← HV.out, ← HN.out.2.2]; exact (HDW.out.flight nd (List.mem_of_getElem? HN.out.1)).kept ((Kept.alloc W o (fun _ => False)).drew) (fun _ _ => id)
   have HAP : Hid (∀ (o : Obj) (w' : World) (v' : Value), Appended ((W.alloc o).drew) w' 192 2 (.slice av l.length cv) v' l.length 1 (l.flatMap histC) (histC c) → w'.cell? ⟨g, k * 8 + 7, none⟩ = some (.slice av l.length cv) ∧ w'.frozen? ⟨g, k * 8 + 7, none⟩ = false ∧ Hid (Turns w b D k (nd.p.send c) (w'.setCell ⟨g, k * 8 + 7, none⟩ v'))) := fun o w' v' hA => by
    obtain ⟨q1, q2, q3⟩ := HDW.out.appIn HN.out.1 HN.out.2.1 3 ⟨192, 2, nd.fl, nd.p.flight.length, nd.p.flight.flatMap histC⟩ rfl HV.out ((Kept.alloc W o (fun _ => False)).drew) hA
    refine ⟨by rw [← HV.out]; exact q1 7 _ (by omega) rfl, q2 _, Turns.from HKW.out ⟨_, by rw [HSE.out], HDW.out.putFl HN.out.1 HN.out.2.1 (l ++ [c]) v' (by rw [HV.out]; exact q3.kept) (row_snoc q3.row) (fun x hx => by rw [HV.out]; exact q3.new x hx)⟩⟩
   have b1 : l.length + 1 ≤ maxLen := by unfold maxLen; omega
   have b2 : (l.length + 1) * 16 ≤ 140737488355328 := by omega
   go_region_law (refine step_append_mine rfl (.tmp 10) (.tmp 12) 135 rfl 192 i0 (.agg #[.int .u64 0, .int .u8 0]) 2 16 Tryz.underlying135 HI.out.1 HI.out.2.1 HI.out.2.2.1 HI.out.2.2.2 rfl (Nat.succ_pos 1) (.slice av l.length cv) l.length (l.flatMap histC) rfl (HROW.out _) ⟨W.heap.size, 0, none⟩ 1 1 (histC c) rfl rfl (fun j u hj => news_pair W c _ j u hj) (oneCell_pair c) b1 b2 ?_; intro v' w' hA; obtain ⟨p1, p2, p4⟩ := HAP.out _ _ _ hA; obtain ⟨ao', cap', hv', _⟩ := hA.row.form; clear hA; subst hv')
   all_goals
    clear p1 p2 qb
    go_wp2
    go_end0
    exact ⟨rfl, p4⟩
end Go.Proofs.YtpfcacedpkaihaaGreat
