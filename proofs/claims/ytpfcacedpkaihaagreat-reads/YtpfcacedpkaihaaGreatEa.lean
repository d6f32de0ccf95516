/- The program's links and nodes (packages links, memory): Send, Copy, Arrive, walked. -/
import Derived.Test.YtpfcacedpkaihaaGreatDwDx
import Derived.Test.YtpfcacedpkaihaaGreatDu
namespace Go.Proofs.YtpfcacedpkaihaaGreat
open Go.RowKit

set_option maxRecDepth 100000 in
set_option maxHeartbeats 2000000 in
theorem dsend (w : World) (b k g : Nat) (D : DevS) (nd : DNodeE) (c : Nat × Int) (h : Dev w b D) (hnd : D.nodes[k]? = some nd) (ho : D.vn.ownBlock = some g) (hl : nd.p.flight.length ≤ 1000) :
    Calls Tryz.prog 131 #[.pointer (some ⟨g, k * 8 + 7, none⟩), .agg #[.int .u64 (c.1 : Int), .int .u8 c.2]] w fun e w' => e = .returned (.tuple #[]) ∧ Hid (Turns w b D k (nd.p.send c) w') := by
  obtain ⟨av, cv, hv, _⟩ := (h.flight nd (List.mem_of_getElem? hnd)).form
  have c3 : w.cell? ⟨g, k * 8 + 7, none⟩ = some nd.fl := h.nodeC hnd ho 7 (by omega) _ rfl
  have hgl : g < w.heap.size := World.block_lt_of_cell? w _ c3
  obtain ⟨l, hll⟩ : ∃ l, l = nd.p.flight := ⟨_, rfl⟩
  rw [hv, ← hll] at c3
  rw [← hll] at hl
  have HD : Hid (Dev w b D) := h
  have HV : Hid (nd.fl = .slice av l.length cv) := by rw [hll]; exact hv
  have HN : Hid (D.nodes[k]? = some nd ∧ D.vn.ownBlock = some g ∧ nd.p.flight = l) := ⟨hnd, ho, hll.symm⟩
  have a3 : ∀ o : Obj, (w.alloc o).cell? ⟨g, k * 8 + 7, none⟩ = some (.slice av l.length cv) := fun o => hold_al c3
  by_cases h12 : 12 ≤ l.length
  · have HFU : Hid (∀ o, Calls Tryz.prog 152 #[.pointer (some ⟨g, k * 8 + 7, none⟩)] (w.alloc o) fun e w' => e = .returned (.bool true) ∧ w.alloc o = w') := fun o => (dfull (w.alloc o) g (k * 8 + 7) av l.length cv (a3 o)).mono fun e w' hp => ⟨by rw [hp.1, decide_eq_true (by omega)], hp.2⟩
    have HZ : Hid (∀ W, Kept (fun _ => False) w W → Turns w b D k (nd.p.send c) W) := fun W hW => by
      rw [NodeP.send, if_pos (by rw [← hll]; exact h12)]
      exact Turns.of_kept h hnd hW
    clear h hv hnd ho hll
    go_enter Tryz.func131, Tryz.ntmps131
    go_wp2_with (go_at_call 152; refine (HFU.out _).mono ?_; rintro e w1 ⟨rfl, rfl⟩)
    (try simp only [Exit.inBlock, Exit.then]); refine bodyPost_ret (results_none rfl _ _ _) rfl ?_
    exact ⟨rfl, HZ.out _ (Kept.alloc _ _ _)⟩
  · have HFU : Hid (∀ o, Calls Tryz.prog 152 #[.pointer (some ⟨g, k * 8 + 7, none⟩)] (w.alloc o) fun e w' => e = .returned (.bool false) ∧ w.alloc o = w') := fun o => (dfull (w.alloc o) g (k * 8 + 7) av l.length cv (a3 o)).mono fun e w' hp => ⟨by rw [hp.1, decide_eq_false (by omega)], hp.2⟩
    have HSE : Hid (nd.p.send c = { nd.p with flight := l ++ [c] }) := by show _ = _; rw [NodeP.send, if_neg (by rw [← hll]; exact h12), ← hll]
    clear h hv hnd ho hll a3
    go_enter Tryz.func131, Tryz.ntmps131
    go_wp2_with (go_at_call 152; refine (HFU.out _).mono ?_; rintro e w1 ⟨rfl, rfl⟩)
    obtain ⟨W, hW⟩ : ∃ W, W = w.alloc (.cells #[.int .u64 (c.1 : Int), .int .u8 c.2] 192) := ⟨_, rfl⟩
    have kW : Kept (fun _ => False) w W := by rw [hW]; exact Kept.alloc _ _ _
    have bW : Blk W w.heap.size 192 #[.int .u64 (c.1 : Int), .int .u8 c.2] := by rw [hW]; exact Blk.new _ _ _
    rw [← hW]
    have HDW : Hid (Dev W b D) := HD.out.kept kW (fun _ _ => id)
    have HKW : Hid (Kept (fun _ => False) w W) := kW
    have hgw : g < W.heap.size := Nat.lt_of_lt_of_le hgl kW.size
    have d3 := kW.hold c3
    have z0 : W.cell? ⟨w.heap.size, 0, none⟩ = some (.int .u64 (c.1 : Int)) := bW.cell 0
    have z1 : W.cell? ⟨w.heap.size, 1, none⟩ = some (.int .u8 c.2) := bW.cell 1
    clear hW kW bW c3
    obtain ⟨i0, hi, hz0, hz1, hz2⟩ := info_parts Tryz.infoSent
    have HI : Hid (Tryz.prog.info? 192 = some i0 ∧ i0.zero = some (.agg #[.int .u64 0, .int .u8 0]) ∧ i0.size = 2 ∧ i0.bytes = 16) := ⟨hi, hz0, hz1, hz2⟩
    clear hi hz0 hz1 hz2
    have qb : ∀ o : Obj, (W.alloc o).cell? ⟨g, k * 8 + 7, none⟩ = some (.slice av l.length cv) := fun o => (World.cell?_alloc_past _ _ _ hgw).trans d3
    have HROW : Hid (∀ o : Obj, Row ((W.alloc o).drew) 192 2 (.slice av l.length cv) l.length (l.flatMap histC)) := fun o => by rw [← HV.out, ← HN.out.2.2]; exact (HDW.out.flight nd (List.mem_of_getElem? HN.out.1)).kept ((Kept.alloc W o (fun _ => False)).drew) (fun _ _ => id)
    have HAP : Hid (∀ (o : Obj) (w' : World) (v' : Value), Appended ((W.alloc o).drew) w' 192 2 (.slice av l.length cv) v' l.length 1 (l.flatMap histC) (histC c) → w'.cell? ⟨g, k * 8 + 7, none⟩ = some (.slice av l.length cv) ∧ w'.frozen? ⟨g, k * 8 + 7, none⟩ = false ∧ Hid (Turns w b D k (nd.p.send c) (w'.setCell ⟨g, k * 8 + 7, none⟩ v'))) := fun o w' v' hA => by
      obtain ⟨q1, q2, q3⟩ := HDW.out.appIn HN.out.1 HN.out.2.1 3 ⟨192, 2, nd.fl, nd.p.flight.length, nd.p.flight.flatMap histC⟩ rfl HV.out ((Kept.alloc W o (fun _ => False)).drew) hA
      refine ⟨by rw [← HV.out]; exact q1 7 _ (by omega) rfl, q2 _, Turns.from HKW.out ⟨_, by rw [HSE.out], HDW.out.putFl HN.out.1 HN.out.2.1 (l ++ [c]) v' (by rw [HV.out]; exact q3.kept) (row_snoc q3.row) (fun x hx => by rw [HV.out]; exact q3.new x hx)⟩⟩
    have b1 : l.length + 1 ≤ maxLen := by unfold maxLen; omega
    have b2 : (l.length + 1) * 16 ≤ 140737488355328 := by omega
    go_region_law (refine step_append_mine rfl (.tmp 10) (.tmp 12) 135 rfl 192 i0 (.agg #[.int .u64 0, .int .u8 0]) 2 16 Tryz.underlying135 HI.out.1 HI.out.2.1 HI.out.2.2.1 HI.out.2.2.2 rfl (Nat.succ_pos 1) (.slice av l.length cv) l.length (l.flatMap histC) rfl (HROW.out _) ⟨W.heap.size, 0, none⟩ 1 1 (histC c) rfl rfl (fun j u hj => news_pair W c _ j u hj) (oneCell_pair c) b1 b2 ?_; intro v' w' hA; obtain ⟨p1, p2, p4⟩ := HAP.out _ _ _ hA; obtain ⟨ao', cap', hv', _⟩ := hA.row.form; clear hA; subst hv')
    all_goals
      clear p1 p2 qb
      go_wp2
      go_end0
      exact ⟨rfl, p4⟩

def DCopyFPost (w : World) (b : Nat) (D : DevS) (k : Nat) (p : NodeP) (i : Int) (e : Ending) (w' : World) : Prop :=
  ((i < 0 ∨ (p.flight.length : Int) ≤ i) ∧ e = .returned (.int .i64 10) ∧ w = w') ∨
  (∃ (j : Nat) (x : Nat × Int), i = (j : Int) ∧ p.flight[j]? = some x ∧ ((12 ≤ p.flight.length ∧ e = .returned (.int .i64 6) ∧ w = w') ∨ (p.flight.length < 12 ∧ e = .returned (.int .i64 0) ∧ Hid (Turns w b D k (p.copy x) w'))))

set_option maxRecDepth 100000 in
set_option maxHeartbeats 2000000 in
theorem dcopyf (w : World) (b k g : Nat) (D : DevS) (nd : DNodeE) (i : Int) (h : Dev w b D) (hnd : D.nodes[k]? = some nd) (ho : D.vn.ownBlock = some g) (hl : nd.p.flight.length ≤ 1000) :
    Calls Tryz.prog 117 #[.pointer (some ⟨g, k * 8 + 7, none⟩), .int .i64 i] w fun e w' => DCopyFPost w b D k nd.p i e w' := by
  obtain ⟨av, cv, hv, hp⟩ := (h.flight nd (List.mem_of_getElem? hnd)).pairs
  have c3 : w.cell? ⟨g, k * 8 + 7, none⟩ = some nd.fl := h.nodeC hnd ho 7 (by omega) _ rfl
  have f3 : w.frozen? ⟨g, k * 8 + 7, none⟩ = false := h.nodeF ho _
  have hgl : g < w.heap.size := World.block_lt_of_cell? w _ c3
  obtain ⟨l, hll⟩ : ∃ l, l = nd.p.flight := ⟨_, rfl⟩
  rw [hv, ← hll] at c3
  rw [← hll] at hl
  have HPO : Hid (∀ e w', (((i < 0 ∨ (l.length : Int) ≤ i) ∧ e = .returned (.int .i64 10) ∧ w = w') ∨ (∃ (j : Nat) (x : Nat × Int), i = (j : Int) ∧ l[j]? = some x ∧ ((12 ≤ l.length ∧ e = .returned (.int .i64 6) ∧ w = w') ∨ (l.length < 12 ∧ e = .returned (.int .i64 0) ∧ Hid (Turns w b D k (nd.p.copy x) w'))))) → DCopyFPost w b D k nd.p i e w') := fun e w' hh => by rw [hll] at hh; exact hh
  by_cases h0 : i < 0
  · have hd : decide (i < 0) = true := by simpa using h0
    clear h hv hnd ho hll hp
    go_enter Tryz.func117, Tryz.ntmps117
    go_wp2
    go_ret
    exact HPO.out _ _ (.inl ⟨.inl h0, rfl, rfl⟩)
  · have hd : decide (i < 0) = false := by simpa using h0
    by_cases h1 : (l.length : Int) ≤ i
    · clear h hv hnd ho hll hp
      go_enter Tryz.func117, Tryz.ntmps117
      go_wp2
      go_ret
      exact HPO.out _ _ (.inl ⟨.inr h1, rfl, rfl⟩)
    · obtain ⟨j, rfl⟩ : ∃ j : Nat, i = j := ⟨i.toNat, by omega⟩
      have hj : j < l.length := by omega
      have hd2 : decide (l.length ≤ j) = false := by simp; omega
      have HD : Hid (Dev w b D) := h
      have HV : Hid (nd.fl = .slice av l.length cv) := by rw [hll]; exact hv
      have HN : Hid (D.nodes[k]? = some nd ∧ D.vn.ownBlock = some g ∧ nd.p.flight = l) := ⟨hnd, ho, hll.symm⟩
      have hpj : ∀ j (hj : j < l.length), ∃ gw, av = some ⟨gw, 0, none⟩ ∧ gw < w.heap.size ∧ w.cell? ⟨gw, j * 2, none⟩ = some (.int .u64 (l[j].1 : Int)) ∧ w.cell? ⟨gw, j * 2 + 1, none⟩ = some (.int .u8 l[j].2) := by rw [hll]; exact hp
      obtain ⟨gw, hao, hgw, z0, z1⟩ := hpj j hj
      obtain ⟨x, hx⟩ : ∃ x, x = l[j] := ⟨_, rfl⟩
      rw [← hx] at z0 z1
      have HX : Hid (l[j]? = some x) := by show _ = _; rw [hx]; exact List.getElem?_eq_getElem hj
      subst hao
      by_cases h12 : 12 ≤ l.length
      · have HFU : Hid (Calls Tryz.prog 152 #[.pointer (some ⟨g, k * 8 + 7, none⟩)] w fun e w' => e = .returned (.bool true) ∧ w = w') := (dfull w g (k * 8 + 7) _ l.length cv c3).mono fun e w' hp => ⟨by rw [hp.1, decide_eq_true (by omega)], hp.2⟩
        clear h hv hnd ho hll hp hpj hx
        go_enter Tryz.func117, Tryz.ntmps117
        go_wp2_with (go_at_call 152; refine HFU.out.mono ?_; rintro e w1 ⟨rfl, rfl⟩)
        go_ret
        exact HPO.out _ _ (.inr ⟨j, x, rfl, HX.out, .inl ⟨h12, rfl, rfl⟩⟩)
      · have HFU : Hid (Calls Tryz.prog 152 #[.pointer (some ⟨g, k * 8 + 7, none⟩)] w fun e w' => e = .returned (.bool false) ∧ w = w') := (dfull w g (k * 8 + 7) _ l.length cv c3).mono fun e w' hp => ⟨by rw [hp.1, decide_eq_false (by omega)], hp.2⟩
        have HSE : Hid (nd.p.copy x = { nd.p with flight := l ++ [x] }) := by show _ = _; rw [NodeP.copy, ← hll]
        obtain ⟨i0, hi, hz0, hz1, hz2⟩ := info_parts Tryz.infoSent
        have HI : Hid (Tryz.prog.info? 192 = some i0 ∧ i0.zero = some (.agg #[.int .u64 0, .int .u8 0]) ∧ i0.size = 2 ∧ i0.bytes = 16) := ⟨hi, hz0, hz1, hz2⟩
        have qb : ∀ o : Obj, (w.alloc o).cell? ⟨g, k * 8 + 7, none⟩ = some (.slice (some ⟨gw, 0, none⟩) l.length cv) := fun o => (World.cell?_alloc_past _ _ _ hgl).trans c3
        have HROW : Hid (∀ o : Obj, Row ((w.alloc o).drew) 192 2 (.slice (some ⟨gw, 0, none⟩) l.length cv) l.length (l.flatMap histC)) := fun o => by rw [← HV.out, ← HN.out.2.2]; exact (HD.out.flight nd (List.mem_of_getElem? HN.out.1)).kept ((Kept.alloc w o (fun _ => False)).drew) (fun _ _ => id)
        have HAP : Hid (∀ (o : Obj) (w' : World) (v' : Value), Appended ((w.alloc o).drew) w' 192 2 (.slice (some ⟨gw, 0, none⟩) l.length cv) v' l.length 1 (l.flatMap histC) (histC x) → w'.cell? ⟨g, k * 8 + 7, none⟩ = some (.slice (some ⟨gw, 0, none⟩) l.length cv) ∧ w'.frozen? ⟨g, k * 8 + 7, none⟩ = false ∧ Hid (Turns w b D k (nd.p.copy x) (w'.setCell ⟨g, k * 8 + 7, none⟩ v'))) := fun o w' v' hA => by
          obtain ⟨q1, q2, q3⟩ := HD.out.appIn HN.out.1 HN.out.2.1 3 ⟨192, 2, nd.fl, nd.p.flight.length, nd.p.flight.flatMap histC⟩ rfl HV.out ((Kept.alloc w o (fun _ => False)).drew) hA
          refine ⟨by rw [← HV.out]; exact q1 7 _ (by omega) rfl, q2 _, ⟨_, by rw [HSE.out], HD.out.putFl HN.out.1 HN.out.2.1 (l ++ [x]) v' (by rw [HV.out]; exact q3.kept) (row_snoc q3.row) (fun x hx => by rw [HV.out]; exact q3.new x hx)⟩⟩
        have b1 : l.length + 1 ≤ maxLen := by unfold maxLen; omega
        have b2 : (l.length + 1) * 16 ≤ 140737488355328 := by omega
        have hj0 : (0 : Int) ≤ (j : Int) := by omega
        have hj1 : (j : Int) < (l.length : Int) := by omega
        clear h hv hnd ho hll hp hpj hx hi hz0 hz1 hz2
        go_enter Tryz.func117, Tryz.ntmps117
        go_wp2_with (go_at_call 152; refine HFU.out.mono ?_; rintro e w1 ⟨rfl, rfl⟩)
        go_region_law (refine step_append_mine rfl (.tmp 22) (.tmp 30) 135 rfl 192 i0 (.agg #[.int .u64 0, .int .u8 0]) 2 16 Tryz.underlying135 HI.out.1 HI.out.2.1 HI.out.2.2.1 HI.out.2.2.2 rfl (Nat.succ_pos 1) (.slice (some ⟨gw, 0, none⟩) l.length cv) l.length (l.flatMap histC) rfl (HROW.out _) ⟨w.heap.size, 0, none⟩ 1 1 (histC x) rfl rfl (fun j u hj => news_pair w x _ j u hj) (oneCell_pair x) b1 b2 ?_; intro v' w' hA; obtain ⟨p1, p2, p4⟩ := HAP.out _ _ _ hA; obtain ⟨ao', cap', hv', _⟩ := hA.row.form; clear hA; subst hv')
        all_goals
          clear p1 p2 qb
          go_wp2
          go_ret
          exact HPO.out _ _ (.inr ⟨j, x, rfl, HX.out, .inr ⟨by omega, rfl, p4⟩⟩)

set_option maxRecDepth 100000 in
set_option maxHeartbeats 2000000 in
theorem darrive (w : World) (b k g : Nat) (D : DevS) (nd : DNodeE) (t : Nat) (K : Int) (h : Dev w b D) (hnd : D.nodes[k]? = some nd) (ho : D.vn.ownBlock = some g) (hok : nd.p.Ok 900000) (ht : t ≤ 1000000) :
    Calls Tryz.prog 112 #[.pointer (some ⟨g, k * 8, none⟩), .int .u64 t, .int .u8 K] w fun e w' => e = .returned (.tuple #[]) ∧ Hid (Turns w b D k (nd.p.arrive t K) w') := by
  have c0 : w.cell? ⟨g, k * 8, none⟩ = some (.bool nd.p.up) := h.nodeC hnd ho 0 (by omega) _ rfl
  have c2 : w.cell? ⟨g, k * 8 + 2, none⟩ = some (.int .u64 (nd.p.horizon : Int)) := h.nodeC hnd ho 2 (by omega) _ rfl
  have c4 : w.cell? ⟨g, k * 8 + 4, none⟩ = some nd.wt := h.nodeC hnd ho 4 (by omega) _ rfl
  have hgl : g < w.heap.size := World.block_lt_of_cell? w _ c4
  have HW : Hid (Calls Tryz.prog 151 #[.pointer (some ⟨g, k * 8, none⟩), .int .u64 t] w fun e w' => e = .returned (.bool (waitsB nd.p.waits t)) ∧ Kept (fun _ => False) w w') := dwaits w g (k * 8) nd.wt nd.p.waits t c4 (h.waits nd (List.mem_of_getElem? hnd)) hok.wl
  have HH : Hid (Calls Tryz.prog 121 #[.pointer (some ⟨g, k * 8, none⟩), .int .u8 K] w fun e w' => e = .returned (.tuple #[]) ∧ Hid (Turns w b D k (nd.p.hear K) w')) := dHear w b k g D nd K h hnd ho hok
  have hz := hok.hz
  have hwl := hok.wl
  have HS : Hid (∀ W, Kept (fun _ => False) w W → nd.p.arrive t K = nd.p → Turns w b D k (nd.p.arrive t K) W) := fun W hW e => by rw [e]; exact Turns.of_kept h hnd hW
  obtain ⟨u, hu⟩ : ∃ u, u = nd.p.up := ⟨_, rfl⟩
  obtain ⟨z, hzz⟩ : ∃ z, z = nd.p.horizon := ⟨_, rfl⟩
  have HE : Hid (nd.p.arrive t K = if u = false ∨ t ≤ z then nd.p else if t = z + 1 then nd.p.hear K else if z + 5 < t ∨ waitsB nd.p.waits t = true then nd.p else { nd.p with waits := nd.p.waits ++ [(t, K)] }) := by rw [hu, hzz]; rfl
  obtain ⟨av, cv, hv, _⟩ := (h.waits nd (List.mem_of_getElem? hnd)).form
  have HD : Hid (Dev w b D) := h
  obtain ⟨l, hll⟩ : ∃ l, l = nd.p.waits := ⟨_, rfl⟩
  have HV : Hid (nd.wt = .slice av l.length cv) := by rw [hll]; exact hv
  have HN : Hid (D.nodes[k]? = some nd ∧ D.vn.ownBlock = some g ∧ nd.p.waits = l) := ⟨hnd, ho, hll.symm⟩
  rw [hv, ← hll] at c4
  rw [← hll] at HW HE hwl
  rw [← hu] at c0
  rw [← hzz] at c2 hz
  clear h hnd ho hok hu hzz hv hll
  cases u with
  | false =>
    go_enter Tryz.func112, Tryz.ntmps112
    go_wp2
    (try simp only [Exit.inBlock, Exit.then]); refine bodyPost_ret (results_none rfl _ _ _) rfl ?_
    exact ⟨rfl, HS.out _ (Kept.refl _ _) (by rw [HE.out]; simp)⟩
  | true =>
    by_cases h1 : t ≤ z
    · have h1' : (t : Int) ≤ (z : Int) := by omega
      go_enter Tryz.func112, Tryz.ntmps112
      go_wp2
      (try simp only [Exit.inBlock, Exit.then]); refine bodyPost_ret (results_none rfl _ _ _) rfl ?_
      exact ⟨rfl, HS.out _ (Kept.refl _ _) (by rw [HE.out]; simp [h1])⟩
    · have h1' : (z : Int) < (t : Int) := by omega
      have h1'' : ¬ (t : Int) ≤ (z : Int) := by omega
      by_cases h2 : t = z + 1
      · have hb : ((t : Int) - (z : Int) - 1 == 0) = true := beq_iff_eq.mpr (by omega)
        have HZ : Hid (nd.p.arrive t K = nd.p.hear K) := by show _ = _; rw [HE.out, if_neg (by simp; omega), if_pos h2]
        clear h2
        go_enter Tryz.func112, Tryz.ntmps112
        go_wp2_with (go_at_call 121; refine HH.out.mono ?_; rintro e w1 ⟨rfl, hT⟩)
        (try simp only [Exit.inBlock, Exit.then]); refine bodyPost_ret (results_none rfl _ _ _) rfl ?_
        exact ⟨rfl, by rw [HZ.out]; exact hT⟩
      · have hb : ((t : Int) - (z : Int) - 1 == 0) = false := beq_eq_false_iff_ne.mpr (by omega)
        by_cases h3 : z + 5 < t
        · have h3' : (4 : Int) < (t : Int) - (z : Int) - 1 := by omega
          have hd3 : decide ((4 : Int) < (t : Int) - (z : Int) - 1) = true := by simpa using h3'
          have HZ : Hid (nd.p.arrive t K = nd.p) := by show _ = _; rw [HE.out, if_neg (by simp; omega), if_neg h2, if_pos (.inl h3)]
          clear h2
          go_enter Tryz.func112, Tryz.ntmps112
          go_wp2
          (try simp only [Exit.inBlock, Exit.then]); refine bodyPost_ret (results_none rfl _ _ _) rfl ?_
          exact ⟨rfl, HS.out _ (Kept.refl _ _) HZ.out⟩
        · have h3' : ¬ (4 : Int) < (t : Int) - (z : Int) - 1 := by omega
          have hd3 : decide ((4 : Int) < (t : Int) - (z : Int) - 1) = false := by simpa using h3'
          cases hwb : waitsB l t with
          | true =>
            rw [hwb] at HW
            have HZ : Hid (nd.p.arrive t K = nd.p) := by show _ = _; rw [HE.out, if_neg (by simp; omega), if_neg h2, if_pos (.inr hwb)]
            clear h2 hwb
            go_enter Tryz.func112, Tryz.ntmps112
            go_wp2_with (go_at_call 151; refine HW.out.mono ?_; rintro e w1 ⟨rfl, hk1⟩)
            (try simp only [Exit.inBlock, Exit.then]); refine bodyPost_ret (results_none rfl _ _ _) rfl ?_
            exact ⟨rfl, HS.out _ hk1 HZ.out⟩
          | false =>
            rw [hwb] at HW
            have HZ : Hid (nd.p.arrive t K = { nd.p with waits := l ++ [(t, K)] }) := by show _ = _; rw [HE.out, if_neg (by simp; omega), if_neg h2, if_neg (by rw [hwb]; simp; omega)]
            obtain ⟨i0, hi, hz0, hz1, hz2⟩ := info_parts Tryz.infoHist
            have HI : Hid (Tryz.prog.info? 244 = some i0 ∧ i0.zero = some (.agg #[.int .u64 0, .int .u8 0]) ∧ i0.size = 2 ∧ i0.bytes = 16) := ⟨hi, hz0, hz1, hz2⟩
            have HROW : Hid (∀ W (o : Obj), Kept (fun _ => False) w W → Row (W.alloc o) 244 2 (.slice av l.length cv) l.length (l.flatMap histC)) := fun W o hW => by rw [← HV.out, ← HN.out.2.2]; exact (HD.out.waits nd (List.mem_of_getElem? HN.out.1)).kept (hW.allocNew o) (fun _ _ => id)
            have HAP : Hid (∀ (W : World) (o : Obj) (w' : World) (v' : Value), Kept (fun _ => False) w W → Appended (W.alloc o) w' 244 2 (.slice av l.length cv) v' l.length 1 (l.flatMap histC) (histC (t, K)) → w'.cell? ⟨g, k * 8 + 4, none⟩ = some (.slice av l.length cv) ∧ w'.frozen? ⟨g, k * 8 + 4, none⟩ = false ∧ Hid (Turns w b D k (nd.p.arrive t K) (w'.setCell ⟨g, k * 8 + 4, none⟩ v'))) := fun W o w' v' hW hA => by
              obtain ⟨q1, q2, q3⟩ := HD.out.appIn HN.out.1 HN.out.2.1 1 ⟨244, 2, nd.wt, nd.p.waits.length, nd.p.waits.flatMap histC⟩ rfl HV.out (hW.allocNew o) hA
              refine ⟨by rw [← HV.out]; exact q1 4 _ (by omega) rfl, q2 _, ⟨_, by rw [HZ.out], HD.out.putWaits HN.out.1 HN.out.2.1 (l ++ [(t, K)]) v' (by rw [HV.out]; exact q3.kept) (row_snoc q3.row) (fun x hx => by rw [HV.out]; exact q3.new x hx)⟩⟩
            have b1 : l.length + 1 ≤ maxLen := by unfold maxLen; omega
            have b2 : (l.length + 1) * 16 ≤ 140737488355328 := by omega
            clear h2 hwb hi hz0 hz1 hz2
            go_enter Tryz.func112, Tryz.ntmps112
            go_wp2_with first
              | (go_at_call 151; refine HW.out.mono ?_; rintro e w1 ⟨rfl, hk1⟩; have d4 := hk1.hold c4; have HK1 : Hid (Kept (fun _ => False) w w1) := hk1; clear hk1)
              | (at_builtin; go_must (refine wpList_append_mine _ rfl (.tmp 43) (.tmp 47) 130 rfl 244 i0 (.agg #[.int .u64 0, .int .u8 0]) 2 16 Tryz.underlying130 HI.out.1 HI.out.2.1 HI.out.2.2.1 HI.out.2.2.2 rfl (by decide) (.slice av l.length cv) l.length _ rfl (HROW.out _ _ HK1.out) ⟨w1.heap.size, 0, none⟩ 1 1 (histC (t, K)) rfl rfl (fun j u hj => news_pair w1 (t, K) _ j u hj) (oneCell_pair (t, K)) b1 b2 ?_); intro v' w2 hA; obtain ⟨p1, p2, p4⟩ := HAP.out _ _ _ _ HK1.out hA; obtain ⟨ao', cap', hv', _⟩ := hA.row.form; clear hA; subst hv')
            go_end0
            exact ⟨rfl, p4⟩

end Go.Proofs.YtpfcacedpkaihaaGreat
