import Derived.Test.YtpfcacedpkaihaaGreatGrGsDv
/- The program's nodes (package memory): recall, walked. -/
namespace Go.Proofs.YtpfcacedpkaihaaGreat
open Go.RowKit

set_option maxRecDepth 100000 in
set_option maxHeartbeats 2000000 in
theorem drecall (w : World) (b k g : Nat) (D : DevS) (nd : DNodeE) (c : Nat × Int) (h : Dev w b D) (hnd : D.nodes[k]? = some nd) (ho : D.vn.ownBlock = some g) (hl : nd.p.hists.length ≤ 1000) :
    Calls Tryz.prog 163 #[.pointer (some ⟨g, k * 8, none⟩), .agg #[.int .u64 (c.1 : Int), .int .u8 c.2]] w fun e w' => e = .returned (.tuple #[]) ∧ Hid (Turns w b D k { nd.p with hists := recallL nd.p.hists c } w') := by
  obtain ⟨av, cv, hv, _⟩ := (h.hists nd (List.mem_of_getElem? hnd)).form
  have c3 : w.cell? ⟨g, k * 8 + 3, none⟩ = some nd.hs := h.nodeC hnd ho 3 (by omega) _ rfl
  have hgl : g < w.heap.size := World.block_lt_of_cell? w _ c3
  obtain ⟨l, hll⟩ : ∃ l, l = nd.p.hists := ⟨_, rfl⟩
  rw [hv, ← hll] at c3
  rw [← hll] at hl
  have HD : Hid (Dev w b D) := h
  have HV : Hid (nd.hs = .slice av l.length cv) := by rw [hll]; exact hv
  have HN : Hid (D.nodes[k]? = some nd ∧ D.vn.ownBlock = some g ∧ nd.p.hists = l) := ⟨hnd, ho, hll.symm⟩
  rw [← hll]
  clear h hv hnd ho hll
  go_enter Tryz.func163, Tryz.ntmps163
  go_wp2_with fail
  obtain ⟨W, hW⟩ : ∃ W, W = w.alloc (.cells #[.int .u64 (c.1 : Int), .int .u8 c.2] 244) := ⟨_, rfl⟩
  have kW : Kept (fun _ => False) w W := by rw [hW]; exact Kept.alloc _ _ _
  have bW : Blk W w.heap.size 244 #[.int .u64 (c.1 : Int), .int .u8 c.2] := by rw [hW]; exact Blk.new _ _ _
  rw [← hW]
  have HDW : Hid (Dev W b D) := HD.out.kept kW (fun _ _ => id)
  have HKW : Hid (Kept (fun _ => False) w W) := kW
  have hgw : g < W.heap.size := Nat.lt_of_lt_of_le hgl kW.size
  have d3 := kW.hold c3
  have z0 : W.cell? ⟨w.heap.size, 0, none⟩ = some (.int .u64 (c.1 : Int)) := bW.cell 0
  have z1 : W.cell? ⟨w.heap.size, 1, none⟩ = some (.int .u8 c.2) := bW.cell 1
  clear hW kW bW c3
  obtain ⟨i0, hi, hz0, hz1, hz2⟩ := info_parts Tryz.infoHist
  have HI : Hid (Tryz.prog.info? 244 = some i0 ∧ i0.zero = some (.agg #[.int .u64 0, .int .u8 0]) ∧ i0.size = 2 ∧ i0.bytes = 16) := ⟨hi, hz0, hz1, hz2⟩
  clear hi hz0 hz1 hz2
  have qb : ∀ o : Obj, (W.alloc o).cell? ⟨g, k * 8 + 3, none⟩ = some (.slice av l.length cv) := fun o => (World.cell?_alloc_past _ _ _ hgw).trans d3
  have HROW : Hid (∀ o : Obj, Row ((W.alloc o).drew) 244 2 (.slice av l.length cv) l.length (l.flatMap histC)) := fun o => by rw [← HV.out, ← HN.out.2.2]; exact (HDW.out.hists nd (List.mem_of_getElem? HN.out.1)).kept ((Kept.alloc W o (fun _ => False)).drew) (fun _ _ => id)
  have HAP : Hid (∀ (o : Obj) (w' : World) (v' : Value), Appended ((W.alloc o).drew) w' 244 2 (.slice av l.length cv) v' l.length 1 (l.flatMap histC) (histC c) → w'.cell? ⟨g, k * 8 + 3, none⟩ = some (.slice av l.length cv) ∧ w'.frozen? ⟨g, k * 8 + 3, none⟩ = false ∧ Hid (∃ nd1 : DNodeE, nd1.p = { nd.p with hists := l ++ [c] } ∧ nd1.hs = v' ∧ DBecame W b D (w'.setCell ⟨g, k * 8 + 3, none⟩ v') (D.putN k nd1))) := fun o w' v' hA => by
    obtain ⟨q1, q2, q3⟩ := HDW.out.appIn HN.out.1 HN.out.2.1 0 ⟨244, 2, nd.hs, nd.p.hists.length, nd.p.hists.flatMap histC⟩ rfl HV.out ((Kept.alloc W o (fun _ => False)).drew) hA
    refine ⟨by rw [← HV.out]; exact q1 3 _ (by omega) rfl, q2 _, _, rfl, rfl, HDW.out.putHists HN.out.1 HN.out.2.1 (l ++ [c]) v' (by rw [HV.out]; exact q3.kept) (row_snoc q3.row) (fun x hx => by rw [HV.out]; exact q3.new x hx)⟩
  have b1 : l.length + 1 ≤ maxLen := by unfold maxLen; omega
  have b2 : (l.length + 1) * 16 ≤ 140737488355328 := by omega
  go_region_law (refine step_append_mine rfl (.tmp 11) (.tmp 13) 130 rfl 244 i0 (.agg #[.int .u64 0, .int .u8 0]) 2 16 Tryz.underlying130 HI.out.1 HI.out.2.1 HI.out.2.2.1 HI.out.2.2.2 rfl (Nat.succ_pos 1) (.slice av l.length cv) l.length (l.flatMap histC) rfl (HROW.out _) ⟨W.heap.size, 0, none⟩ 1 1 (histC c) rfl rfl (fun j u hj => news_pair W c _ j u hj) (oneCell_pair c) b1 b2 ?_; intro v' w' hA; obtain ⟨p1, p2, p4⟩ := HAP.out _ _ _ hA; obtain ⟨ao', cap', hv', _⟩ := hA.row.form; clear hA; subst hv')
  all_goals
    obtain ⟨nd1, hp1, hs1, hB⟩ := p4.out
    generalize hW2 : w'.setCell ⟨g, k * 8 + 3, none⟩ (.slice ao' (l.length + 1) cap') = W2 at hB ⊢
    have hnd1 : (D.putN k nd1).nodes[k]? = some nd1 := putN_at nd1 HN.out.1
    have e3 : W2.cell? ⟨g, k * 8 + 3, none⟩ = some (.slice ao' (l.length + 1) cap') := by rw [← hs1]; exact hB.1.nodeC hnd1 HN.out.2.1 3 (by omega) _ rfl
    have g3 : W2.frozen? ⟨g, k * 8 + 3, none⟩ = false := hB.1.nodeF HN.out.2.1 _
    have HB : Hid (DBecame W b D W2 (D.putN k nd1)) := hB
    have HP1 : Hid (nd1.p = { nd.p with hists := l ++ [c] } ∧ (D.putN k nd1).nodes[k]? = some nd1) := ⟨hp1, hnd1⟩
    have HS1 : Hid (nd1.hs = .slice ao' (l.length + 1) cap') := hs1
    clear p1 p2 p4 qb d3 z0 z1 hW2 hp1 hs1 hB hnd1 HROW HAP
    by_cases h6 : l.length + 1 ≤ 6
    · have hd : (l.length : Int) + 1 ≤ 6 := by omega
      have hd' : l.length ≤ 5 := by omega
      have HZ : Hid (Turns w b D k { nd.p with hists := recallL l c } W2) := by
        refine Turns.from HKW.out ⟨nd1, ?_, HB.out⟩
        rw [HP1.out.1, recallL, if_pos h6]
      go_wp2
      (try simp only [Exit.inBlock, Exit.then]); refine bodyPost_ret (results_none rfl _ _ _) rfl ?_
      exact ⟨rfl, HZ.out⟩
    · have hd : ¬ (l.length : Int) + 1 ≤ 6 := by omega
      have hd' : ¬ l.length ≤ 5 := by omega
      have hr1 := HB.out.1.hists nd1 (List.mem_of_getElem? HP1.out.2)
      obtain ⟨L, hL⟩ : ∃ L, L = l ++ [c] := ⟨_, rfl⟩
      have hLl : L.length = l.length + 1 := by rw [hL]; simp
      rw [HP1.out.1] at hr1
      dsimp only at hr1
      rw [← hL] at hr1
      obtain ⟨ao2, cap2, hv2, hp2⟩ := hr1.pairs
      have HP : Hid (∀ j (hj : j < L.length), ∃ gw, ao' = some ⟨gw, 0, none⟩ ∧ gw < W2.heap.size ∧ W2.cell? ⟨gw, j * 2, none⟩ = some (.int .u64 (L[j].1 : Int)) ∧ W2.cell? ⟨gw, j * 2 + 1, none⟩ = some (.int .u8 L[j].2)) := by
        have e := HS1.out
        rw [hv2, hLl] at e
        injection e with e1 e2 e3
        rw [← e1]
        exact hp2
      have HF : Hid (∀ (v : Value) (wr : World), Grow 244 2 histC W2 wr v (L.eraseIdx 0) → Turns w b D k { nd.p with hists := recallL l c } (wr.setCell ⟨g, k * 8 + 3, none⟩ v)) := fun v wr hG => by
        have s := HB.out.1.putHists HP1.out.2 HN.out.2.1 (L.eraseIdx 0) v (hG.kept.mono (fun _ => False.elim)) hG.row hG.own
        rw [putN_putN] at s
        refine Turns.from HKW.out ⟨_, ?_, HB.out.trans s⟩
        dsimp only
        rw [HP1.out.1, recallL, if_neg h6, hL]
        simp
      have hgl2 : g < W2.heap.size := World.block_lt_of_cell? W2 _ e3
      have HC : Hid (∀ W', Kept (fun _ => False) W2 W' → W'.cell? ⟨g, k * 8 + 3, none⟩ = some (.slice ao' (l.length + 1) cap') ∧ W'.frozen? ⟨g, k * 8 + 3, none⟩ = false) := fun W' hW => ⟨hW.hold e3, (World.frozen?_of_block (a := ⟨g, k * 8 + 3, none⟩) (hW.block g hgl2 id)).trans g3⟩
      clear hr1 hv2 hp2 hL g3
      go_wp2
      go_loopw [4, 28] (fun v iv wr => ∃ j : Nat, j ≤ L.length ∧ iv = .int .i64 j ∧ Hid (Grow 244 2 histC W2 wr v (tkL L 0 j))) (fun _ iv _ => L.length - (intOf iv).toNat)
      case atStart => exact ⟨0, Nat.zero_le _, rfl, by rw [show tkL L 0 0 = [] by simp [tkL]]; exact Grow.start _ _ _ _⟩
      case round =>
        obtain ⟨j, hj, rfl, HG⟩ := hrel
        obtain ⟨au, cu, hvv, _⟩ := HG.out.row.form
        have hfl := tkL_len L 0 j
        obtain ⟨n, hn⟩ : ∃ n, n = (tkL L 0 j).length := ⟨_, rfl⟩
        rw [← hn] at hvv hfl
        subst hvv
        by_cases hlt : j < L.length
        · obtain ⟨gw, hao, hgw', q0, q1⟩ := HP.out j hlt
          have HTN := tkL_next L 0 j hlt
          have HTS := tkL_skip L 0
          obtain ⟨y, hy⟩ : ∃ y, y = L[j] := ⟨_, rfl⟩
          rw [← hy] at q0 q1 HTN
          have d0 := HG.out.kept.hold q0
          have d1 := HG.out.kept.hold q1
          have hj0 : (0 : Int) ≤ (j : Int) := by omega
          have hj1 : (j : Int) < (l.length : Int) + 1 := by omega
          clear hy q0 q1 hgw'
          subst hao
          by_cases he : j = 0
          · have HX : Hid (tkL L 0 (j + 1) = tkL L 0 j) := by show _ = _; rw [he]; exact HTS (by omega)
            have hb : ¬ 0 < j := by omega
            clear HTN HTS he hn
            go_wp2
            go_roundw
            case rel => exact ⟨j + 1, by omega, by go_num, by rw [HX.out]; exact HG.out.more (Kept.alloc _ _ _)⟩
            case measure => simp [intOf]; omega
          · have HX : Hid (tkL L 0 (j + 1) = tkL L 0 j ++ [y]) := HTN he
            have hb : 0 < j := by omega
            have HROW : Hid (∀ o o', Row ((wr.alloc o).alloc o') 244 2 (.slice au n cu) n ((tkL L 0 j).flatMap histC)) := fun o o' => by have := (HG.out.row.kept (Kept.alloc wr o (fun _ => False)) (fun _ _ => id)).kept (Kept.alloc _ o' (fun _ => False)) (fun _ _ => id); rw [← hn] at this; exact this
            have HNX : Hid (∀ (o o' : Obj) (w' : World) (v' : Value), Appended ((wr.alloc o).alloc o') w' 244 2 (.slice au n cu) v' n 1 ((tkL L 0 j).flatMap histC) (histC y) → Grow 244 2 histC W2 w' v' (tkL L 0 j ++ [y])) := by
              intro o o' w' v' hA
              rw [hn] at hA HG
              exact (HG.out.more ((Kept.alloc wr o (fun _ => False)).allocNew o')).next hA
            have b3 : n + 1 ≤ maxLen := by unfold maxLen; omega
            have b4 : (n + 1) * 16 ≤ 140737488355328 := by omega
            clear HTN HTS he hn
            go_wp2_with (at_builtin; go_must (refine wpList_append_mine _ rfl (.tmp 35) (.tmp 37) 130 rfl 244 i0 (.agg #[.int .u64 0, .int .u8 0]) 2 16 Tryz.underlying130 HI.out.1 HI.out.2.1 HI.out.2.2.1 HI.out.2.2.2 rfl (by decide) (.slice au n cu) n _ rfl (HROW.out _ _) ⟨wr.heap.size + 1, 0, none⟩ 1 1 (histC y) rfl rfl (fun j u hj => by simpa using news_pair (wr.alloc _) y _ j u hj) (oneCell_pair y) b3 b4 ?_); intro v' w1 hA; have HA : Hid (Grow 244 2 histC W2 w1 v' (tkL L 0 j ++ [y])) := HNX.out _ _ _ _ hA; clear hA)
            go_roundw
            case rel => exact ⟨j + 1, by omega, by go_num, by rw [HX.out]; exact HA.out⟩
            case measure => simp [intOf]; omega
        · have hjn : j = L.length := by omega
          subst hjn
          obtain ⟨d7, e7⟩ := HC.out wr HG.out.kept
          have HZ : Hid (Turns w b D k { nd.p with hists := recallL l c } (wr.setCell ⟨g, k * 8 + 3, none⟩ (.slice au n cu))) := HF.out _ _ (by have := HG.out; rwa [tkL_all] at this)
          clear hn
          go_wp2
          go_end0
          exact ⟨rfl, HZ.out⟩

end Go.Proofs.YtpfcacedpkaihaaGreat

/- The program's nodes (package memory): hear, hearOne, Hear, walked. -/
namespace Go.Proofs.YtpfcacedpkaihaaGreat
open Go.RowKit

theorem parseK (q : ByteArray) (W : World) (hq : q.size ≤ maxLen) : Calls Tryz.prog 71 #[.string q] W fun e w' => ∃ n er : Int, e = .returned (.tuple #[.agg #[.int .u8 (keysQ q), .int .i64 n], .int .i64 er]) ∧ Kept (fun _ => False) W w' :=
  (qParse_any q W hq).mono fun _ _ hp => ⟨_, _, hp.1, Kept.of_below hp.2 _⟩

set_option maxRecDepth 100000 in
set_option maxHeartbeats 1000000 in
theorem dhear (w : World) (b k ge j : Nat) (D : DevS) (nd : DNodeE) (x : HeldE) (t : Nat) (K : Int) (h : Dev w b D) (hnd : D.nodes[k]? = some nd) (he : nd.en.ownBlock = some ge) (hx : nd.p.ents[j]? = some x) (hq : x.e.q.size ≤ maxLen) :
    Calls Tryz.prog 164 #[.pointer (some ⟨ge, j * 7, none⟩), .int .u64 t, .int .u8 K] w fun e w' => e = .returned (.tuple #[]) ∧ Hid (Turns w b D k { nd.p with ents := nd.p.ents.set j (hearE t K x) } w') := by
  have hgl : ge < w.heap.size := (h.ents nd (List.mem_of_getElem? hnd)).lt ge he
  have hj := (List.getElem?_eq_some_iff.mp hx).1
  have HS : Hid (∀ W, Kept (fun _ => False) w W → hearE t K x = x → Turns w b D k { nd.p with ents := nd.p.ents.set j (hearE t K x) } W) := fun W hW e => by rw [e, set_self' hx]; exact Turns.of_kept h hnd hW
  have HT : Hid (∀ (W : World) (y : HeldE), Kept (fun i => i = ge) w W → Row W 227 7 nd.en nd.p.ents.length ((nd.p.ents.set j y).flatMap Go.Proofs.YtpfcacedpkaihaaGreat.heldC) → y = hearE t K x → Turns w b D k { nd.p with ents := nd.p.ents.set j (hearE t K x) } W) := fun W y hk hr hy => by
    subst hy
    exact ⟨_, rfl, h.turnEnts hnd _ (hk.mono fun i hi => by rw [hi]; exact he) (by rw [List.length_set]; exact hr)⟩
  have HRW : Hid (∀ W, Kept (fun _ => False) w W → Row W 227 7 nd.en nd.p.ents.length (nd.p.ents.flatMap Go.Proofs.YtpfcacedpkaihaaGreat.heldC)) := fun W hW => (h.ents nd (List.mem_of_getElem? hnd)).kept hW (fun _ _ => id)
  have HX : Hid (nd.p.ents[j]? = some x ∧ nd.en.ownBlock = some ge ∧ j < nd.p.ents.length) := ⟨hx, he, hj⟩
  have e0 : w.cell? ⟨ge, j * 7, none⟩ = some (.string x.e.q) := h.heldC hnd he hx 0 (by omega) _ rfl
  have e3 : w.cell? ⟨ge, j * 7 + 3, none⟩ = some (.int .u64 (x.e.till : Int)) := h.heldC hnd he hx 3 (by omega) _ rfl
  have e4 : w.cell? ⟨ge, j * 7 + 4, none⟩ = some (.bool x.e.op) := h.heldC hnd he hx 4 (by omega) _ rfl
  have e5 : w.cell? ⟨ge, j * 7 + 5, none⟩ = some (.int .u64 (x.e.kn : Int)) := h.heldC hnd he hx 5 (by omega) _ rfl
  have HEF : Hid (∀ W, Kept (fun _ => False) w W → W.cell? ⟨ge, j * 7 + 3, none⟩ = some (.int .u64 (x.e.till : Int)) ∧ W.cell? ⟨ge, j * 7 + 4, none⟩ = some (.bool x.e.op) ∧ ∀ f, W.frozen? ⟨ge, f, none⟩ = false) := fun W hW => ⟨hW.hold e3, hW.hold e4, fun f => (World.frozen?_of_block (a := ⟨ge, f, none⟩) (hW.block ge hgl id)).trans (h.heldF hnd he f)⟩
  have HQ : Hid (∀ W, Calls Tryz.prog 71 #[.string x.e.q] W fun e w' => ∃ n er : Int, e = .returned (.tuple #[.agg #[.int .u8 (keysQ x.e.q), .int .i64 n], .int .i64 er]) ∧ Kept (fun _ => False) W w') := fun W => parseK _ W hq
  have HE : Hid (hearE t K x = if x.e.op = true ∧ x.e.kn < t ∧ (bits .and .u8 K (keysQ x.e.q) != 0) = true then { x with e := { x.e with op := false, till := t } } else x) := rfl
  clear h hnd he hx hj hq
  obtain ⟨⟨xq, xv, xf, xt, xo, xk⟩, us⟩ := x
  dsimp only at *
  generalize keysQ xq = KQ at *
  cases xo with
  | false =>
    go_enter Tryz.func164, Tryz.ntmps164
    go_wp2
    (try simp only [Exit.inBlock, Exit.then]); refine bodyPost_ret (results_none rfl _ _ _) rfl ?_
    exact ⟨rfl, HS.out _ (Kept.refl _ _) (by rw [HE.out]; simp)⟩
  | true =>
    by_cases hkt : xk < t
    · have hd : decide ((t : Int) ≤ (xk : Int)) = false := by simp; omega
      cases hbt : (bits .and .u8 K KQ != 0) with
      | true =>
        go_enter Tryz.func164, Tryz.ntmps164
        go_wp2_with (go_at_call 71; refine (HQ.out _).mono ?_; rintro e w1 ⟨n, er, rfl, hk1⟩; have hgl1 : ge < w1.heap.size := Nat.lt_of_lt_of_le hgl hk1.size; have hne : ge ≠ w1.heap.size := Nat.ne_of_lt hgl1; have HK1 : Hid (Kept (fun _ => False) w w1) := hk1; obtain ⟨y3, y4, yf⟩ := HEF.out _ hk1; clear hk1)
        go_end0
        refine ⟨rfl, HT.out _ ⟨⟨xq, xv, xf, t, false, xk⟩, us⟩ ?_ ?_ (by rw [HE.out]; simp [hkt, hbt])⟩
        · exact ((HK1.out.trans (Kept.setCell _ ⟨ge, j * 7 + 4, none⟩ _) (H := fun i => i = ge) (fun _ => False.elim) (fun _ _ => id)).trans (Kept.setCell _ ⟨ge, j * 7 + 3, none⟩ _) (H := fun i => i = ge) (fun _ => id) (fun _ _ => id)).allocNew _
        · have r1 := (HRW.out _ HK1.out).held (y := ⟨⟨xq, xv, xf, xt, false, xk⟩, us⟩) (u := .bool false) HX.out.2.1 HX.out.1 (f := 4) (by omega) rfl
          have r2 := r1.held (y := ⟨⟨xq, xv, xf, t, false, xk⟩, us⟩) (u := .int .u64 (t : Int)) HX.out.2.1 (List.getElem?_set_self HX.out.2.2) (f := 3) (by omega) rfl
          rw [List.set_set] at r2
          exact r2.kept (Kept.alloc _ _ (fun _ => False)) (fun _ _ => id)
      | false =>
        go_enter Tryz.func164, Tryz.ntmps164
        go_wp2_with (go_at_call 71; refine (HQ.out _).mono ?_; rintro e w1 ⟨n, er, rfl, hk1⟩)
        go_end0
        exact ⟨rfl, HS.out _ (hk1.allocNew _) (by rw [HE.out]; simp [hbt])⟩
    · have hd : decide ((t : Int) ≤ (xk : Int)) = true := by simp; omega
      go_enter Tryz.func164, Tryz.ntmps164
      go_wp2
      (try simp only [Exit.inBlock, Exit.then]); refine bodyPost_ret (results_none rfl _ _ _) rfl ?_
      exact ⟨rfl, HS.out _ (Kept.refl _ _) (by rw [HE.out]; simp [hkt])⟩

/-- some entries, of which the first j have heard. -/
def hearTo (l : List HeldE) (t : Nat) (K : Int) (j : Nat) : List HeldE := (l.take j).map (hearE t K) ++ l.drop j
theorem hearTo_zero (l : List HeldE) (t : Nat) (K : Int) : hearTo l t K 0 = l := by simp [hearTo]
theorem hearTo_all (l : List HeldE) (t : Nat) (K : Int) : hearTo l t K l.length = l.map (hearE t K) := by simp [hearTo]
theorem hearTo_len (l : List HeldE) (t : Nat) (K : Int) (j : Nat) : (hearTo l t K j).length = l.length := by simp [hearTo]; omega
theorem hearTo_at (l : List HeldE) (t : Nat) (K : Int) (j : Nat) (h : j < l.length) : (hearTo l t K j)[j]? = some l[j] := by
  unfold hearTo
  rw [List.getElem?_append_right (by simp; omega)]
  simp [Nat.min_eq_left (Nat.le_of_lt h)]
theorem hearTo_next (l : List HeldE) (t : Nat) (K : Int) (j : Nat) (h : j < l.length) : (hearTo l t K j).set j (hearE t K l[j]) = hearTo l t K (j + 1) := by
  unfold hearTo
  rw [List.set_append_right _ _ (by simp; omega), List.take_succ_eq_append_getElem h, List.map_append, List.append_assoc]
  congr 1
  have e : l.drop j = l[j] :: l.drop (j + 1) := List.drop_eq_getElem_cons h
  simp only [List.length_map, List.length_take, Nat.min_eq_left (Nat.le_of_lt h), Nat.sub_self]
  rw [e]
  rfl

set_option maxRecDepth 100000 in
set_option maxHeartbeats 2000000 in
theorem dhearOne (w : World) (b k g : Nat) (D : DevS) (nd : DNodeE) (K : Int) (h : Dev w b D) (hnd : D.nodes[k]? = some nd) (ho : D.vn.ownBlock = some g) (hok : nd.p.Ok 1000000) :
    Calls Tryz.prog 153 #[.pointer (some ⟨g, k * 8, none⟩), .int .u8 K] w fun e w' => e = .returned (.tuple #[]) ∧ Hid (Turns w b D k (nd.p.hearOne K) w') := by
  have hz := hok.hz
  have hel := hok.el
  have c2 : w.cell? ⟨g, k * 8 + 2, none⟩ = some (.int .u64 (nd.p.horizon : Int)) := h.nodeC hnd ho 2 (by omega) _ rfl
  have f2 : w.frozen? ⟨g, k * 8 + 2, none⟩ = false := h.nodeF ho _
  obtain ⟨z, hzz⟩ : ∃ z, z = nd.p.horizon := ⟨_, rfl⟩
  have H1 : Hid (DBecame w b D (w.setCell ⟨g, k * 8 + 2, none⟩ (.int .u64 ((z : Int) + 1))) (D.putN k { nd with p := { nd.p with horizon := z + 1 } })) := h.cellN hnd ho 2 (by omega) _ rfl rfl
  have HND : Hid (D.nodes[k]? = some nd ∧ D.vn.ownBlock = some g) := ⟨hnd, ho⟩
  have HR : Hid (∀ W, DBecame w b D W (D.putN k { nd with p := { nd.p with horizon := z + 1 } }) → Calls Tryz.prog 163 #[.pointer (some ⟨g, k * 8, none⟩), .agg #[.int .u64 ((z : Int) + 1), .int .u8 K]] W fun e w' => e = .returned (.tuple #[]) ∧ Hid (Turns w b D k { nd.p with horizon := z + 1, hists := recallL nd.p.hists (z + 1, K) } w')) := fun W hB =>
    (drecall W b k g _ _ (z + 1, K) hB.1 (putN_at _ hnd) ho (by have := hok.hl; dsimp only; omega)).mono fun e w' hp => ⟨hp.1, by
      obtain ⟨n2, e2, hb2⟩ := hp.2.out
      refine ⟨n2, e2, ?_⟩
      have := hB.trans hb2
      rwa [putN_putN] at this⟩
  obtain ⟨l, hll⟩ : ∃ l, l = nd.p.ents := ⟨_, rfl⟩
  have HH : Hid (∀ (W : World) (j : Nat) (hj : j < l.length), Turns w b D k { nd.p with horizon := z + 1, hists := recallL nd.p.hists (z + 1, K), ents := hearTo l (z + 1) K j } W → ∃ (ge ca : Nat), W.cell? ⟨g, k * 8 + 5, none⟩ = some (.slice (some ⟨ge, 0, none⟩) l.length ca) ∧ W.cell? ⟨g, k * 8 + 2, none⟩ = some (.int .u64 ((z : Int) + 1)) ∧ Calls Tryz.prog 164 #[.pointer (some ⟨ge, j * 7, none⟩), .int .u64 ((z : Int) + 1), .int .u8 K] W fun e w' => e = .returned (.tuple #[]) ∧ Hid (Turns w b D k { nd.p with horizon := z + 1, hists := recallL nd.p.hists (z + 1, K), ents := hearTo l (z + 1) K (j + 1) } w')) := fun W j hj hT => by
    obtain ⟨n3, e3, hb3⟩ := hT
    have hn3 := putN_at n3 hnd
    have hen : n3.p.ents = hearTo l (z + 1) K j := by rw [e3]
    have hlen : n3.p.ents.length = l.length := by rw [hen, hearTo_len]
    obtain ⟨ge, ca, hv, hown⟩ := hb3.1.block_of hn3 (j := j) (by omega)
    have hx : n3.p.ents[j]? = some l[j] := by rw [hen]; exact hearTo_at l _ K j hj
    refine ⟨ge, ca, by rw [← hlen, ← hv]; exact hb3.1.nodeC hn3 ho 5 (by omega) _ rfl, ?_, (dhear W b k ge j _ n3 l[j] (z + 1) K hb3.1 hn3 hown hx (hok.eq _ (by rw [← hll]; exact List.getElem_mem hj))).mono fun e w' hp => ⟨hp.1, ?_⟩⟩
    · have := hb3.1.nodeC hn3 ho 2 (by omega) _ rfl
      rw [e3] at this
      exact this
    · obtain ⟨n4, e4, hb4⟩ := hp.2.out
      refine ⟨n4, ?_, by have := hb3.trans hb4; rwa [putN_putN] at this⟩
      rw [e4, hen, hearTo_next l _ K j hj, e3]
  have HZ : Hid (∀ W, Turns w b D k { nd.p with horizon := z + 1, hists := recallL nd.p.hists (z + 1, K) } W → Turns w b D k { nd.p with horizon := z + 1, hists := recallL nd.p.hists (z + 1, K), ents := hearTo l (z + 1) K 0 } W ∧ ∃ (ao : Option Addr) (ca : Nat), W.cell? ⟨g, k * 8 + 5, none⟩ = some (.slice ao l.length ca)) := fun W hT => by
    refine ⟨by rw [hearTo_zero, hll]; exact hT, ?_⟩
    obtain ⟨n3, e3, hb3⟩ := hT
    have hn3 := putN_at n3 hnd
    obtain ⟨ao, ca, hv, _⟩ := (hb3.1.ents n3 (List.mem_of_getElem? hn3)).form
    refine ⟨ao, ca, ?_⟩
    have hc := hb3.1.nodeC hn3 ho 5 (by omega) _ rfl
    rw [hv, e3] at hc
    rw [hll]
    exact hc
  have HE : Hid (∀ W, Turns w b D k { nd.p with horizon := z + 1, hists := recallL nd.p.hists (z + 1, K), ents := hearTo l (z + 1) K l.length } W → Turns w b D k (nd.p.hearOne K) W) := fun W hT => by
    rw [hearTo_all, hll, hzz] at hT
    exact hT
  have HC2 : Hid (∀ W, DBecame w b D W (D.putN k { nd with p := { nd.p with horizon := z + 1 } }) → W.cell? ⟨g, k * 8 + 2, none⟩ = some (.int .u64 ((z : Int) + 1))) := fun W hB => hB.1.nodeC (putN_at _ hnd) ho 2 (by omega) _ rfl
  rw [← hzz] at c2 hz
  rw [← hll] at hel
  clear h hnd ho hok hzz hll
  go_enter Tryz.func153, Tryz.ntmps153
  go_wp2_with (go_at_call 163; refine (HR.out _ H1.out).mono ?_; rintro e w1 ⟨rfl, hT1⟩; obtain ⟨hT2, ao, ca, c5⟩ := HZ.out _ hT1.out; have HT2 : Hid (Turns w b D k { nd.p with horizon := z + 1, hists := recallL nd.p.hists (z + 1, K), ents := hearTo l (z + 1) K 0 } w1) := hT2; clear hT2 hT1)
  go_loopw [26] (fun iv wr => ∃ j : Nat, j ≤ l.length ∧ iv = .int .i64 j ∧ Hid (Turns w b D k { nd.p with horizon := z + 1, hists := recallL nd.p.hists (z + 1, K), ents := hearTo l (z + 1) K j } wr)) (fun iv _ => l.length - (intOf iv).toNat)
  case atStart => exact ⟨0, Nat.zero_le _, rfl, HT2.out⟩
  case round =>
    obtain ⟨j, hj, rfl, HT⟩ := hrel
    by_cases hlt : j < l.length
    · obtain ⟨ge, ca', d5, d2, hcall⟩ := HH.out wr j hlt HT.out
      have HCALL : Hid (Calls Tryz.prog 164 #[.pointer (some ⟨ge, j * 7, none⟩), .int .u64 ((z : Int) + 1), .int .u8 K] wr fun e w' => e = .returned (.tuple #[]) ∧ Hid (Turns w b D k { nd.p with horizon := z + 1, hists := recallL nd.p.hists (z + 1, K), ents := hearTo l (z + 1) K (j + 1) } w')) := hcall
      have hj0 : (0 : Int) ≤ (j : Int) := by omega
      have hj1 : (j : Int) < (l.length : Int) := by omega
      clear hcall
      go_wp2_with (go_at_call 164; refine HCALL.out.mono ?_; rintro e w3 ⟨rfl, hT3⟩)
      go_roundw
      case rel => exact ⟨j + 1, by omega, by go_num, hT3.out⟩
      case measure => simp [intOf]; omega
    · have hjn : j = l.length := by omega
      subst hjn
      go_wp2
      go_end0
      exact ⟨rfl, HE.out _ HT.out⟩

set_option maxRecDepth 100000 in
set_option maxHeartbeats 2000000 in
theorem dHear (w : World) (b k g : Nat) (D : DevS) (nd : DNodeE) (K : Int) (h : Dev w b D) (hnd : D.nodes[k]? = some nd) (ho : D.vn.ownBlock = some g) (hok : nd.p.Ok 900000) :
    Calls Tryz.prog 121 #[.pointer (some ⟨g, k * 8, none⟩), .int .u8 K] w fun e w' => e = .returned (.tuple #[]) ∧ Hid (Turns w b D k (nd.p.hear K) w') := by
  have H1 : Hid (Calls Tryz.prog 153 #[.pointer (some ⟨g, k * 8, none⟩), .int .u8 K] w fun e w' => e = .returned (.tuple #[]) ∧ Hid (∃ p, Turns w b D k p w' ∧ p.Ok 900001 ∧ NodeP.hearGo 4 p = nd.p.hear K)) :=
    (dhearOne w b k g D nd K h hnd ho ⟨by have := hok.hz; omega, hok.hl, hok.wl, hok.el, hok.eq⟩).mono fun e w' hp => ⟨hp.1, _, hp.2.out, hok.hearOne K, rfl⟩
  have H2 : Hid (∀ (W : World) (j : Nat) (hj : j < 4), (∃ p, Turns w b D k p W ∧ p.Ok (900001 + j) ∧ NodeP.hearGo (4 - j) p = nd.p.hear K) → ∃ (kk : Int) (wt : Bool), Calls Tryz.prog 154 #[.pointer (some ⟨g, k * 8, none⟩)] W fun e w' => e = .returned (.tuple #[.int .u8 kk, .bool wt]) ∧ (wt = false → Hid (Turns w b D k (nd.p.hear K) w')) ∧ (wt = true → Hid (Calls Tryz.prog 153 #[.pointer (some ⟨g, k * 8, none⟩), .int .u8 kk] w' fun e w'' => e = .returned (.tuple #[]) ∧ Hid (∃ p, Turns w b D k p w'' ∧ p.Ok (900001 + (j + 1)) ∧ NodeP.hearGo (4 - (j + 1)) p = nd.p.hear K)))) := by
    rintro W j hj ⟨p, ⟨n3, e3, hb3⟩, hpo, hgo⟩
    have hn3 := putN_at n3 hnd
    subst e3
    refine ⟨keysAt n3.p.waits (n3.p.horizon + 1), waitsB n3.p.waits (n3.p.horizon + 1), (dnext W b k g _ n3 hb3.1 hn3 ho hpo.wl (by have := hpo.hz; omega)).mono fun e w' hp => ⟨hp.1, fun hw => ?_, fun hw => ?_⟩⟩
    · obtain ⟨n4, e4, hb4⟩ := hp.2.out
      refine ⟨n4, ?_, by have := hb3.trans hb4; rwa [putN_putN] at this⟩
      have e : 4 - j = (4 - (j + 1)) + 1 := by omega
      rw [e4, ← hgo, e, NodeP.hearGo, if_neg (by rw [hw]; simp)]
    · obtain ⟨n4, e4, hb4⟩ := hp.2.out
      have hb5 := hb3.trans hb4
      rw [putN_putN] at hb5
      have hn4 := putN_at n4 hnd
      have hok4 : n4.p.Ok (900001 + j) := by rw [e4]; exact hpo.dropNext
      refine (dhearOne w' b k g _ n4 _ hb5.1 hn4 ho ⟨by have := hok4.hz; omega, hok4.hl, hok4.wl, hok4.el, hok4.eq⟩).mono fun e w'' hp2 => ⟨hp2.1, n4.p.hearOne (keysAt n3.p.waits (n3.p.horizon + 1)), ?_, hok4.hearOne _, ?_⟩
      · obtain ⟨n6, e6, hb6⟩ := hp2.2.out
        exact ⟨n6, e6, by have := hb5.trans hb6; rwa [putN_putN] at this⟩
      · have e : 4 - j = (4 - (j + 1)) + 1 := by omega
        rw [← hgo, e, NodeP.hearGo, if_pos hw, e4]
  have H3 : Hid (∀ W, (∃ p, Turns w b D k p W ∧ p.Ok (900001 + 4) ∧ NodeP.hearGo (4 - 4) p = nd.p.hear K) → Turns w b D k (nd.p.hear K) W) := by
    rintro W ⟨p, hT, _, hgo⟩
    rw [← hgo]
    exact hT
  clear h hnd ho hok
  go_enter Tryz.func121, Tryz.ntmps121
  go_wp2_with (go_at_call 153; refine H1.out.mono ?_; rintro e w1 ⟨rfl, hT1⟩)
  go_loopw [9] (fun iv wr => ∃ j : Nat, j ≤ 4 ∧ iv = .int .i64 j ∧ Hid (∃ p, Turns w b D k p wr ∧ p.Ok (900001 + j) ∧ NodeP.hearGo (4 - j) p = nd.p.hear K)) (fun iv _ => 4 - (intOf iv).toNat)
  case atStart => exact ⟨0, Nat.zero_le _, rfl, hT1.out⟩
  case round =>
    obtain ⟨j, hj, rfl, HT⟩ := hrel
    by_cases hlt : j < 4
    · obtain ⟨kk, wt, hcall⟩ := H2.out wr j hlt HT.out
      have HC : Hid (Calls Tryz.prog 154 #[.pointer (some ⟨g, k * 8, none⟩)] wr fun e w' => e = .returned (.tuple #[.int .u8 kk, .bool wt]) ∧ (wt = false → Hid (Turns w b D k (nd.p.hear K) w')) ∧ (wt = true → Hid (Calls Tryz.prog 153 #[.pointer (some ⟨g, k * 8, none⟩), .int .u8 kk] w' fun e w'' => e = .returned (.tuple #[]) ∧ Hid (∃ p, Turns w b D k p w'' ∧ p.Ok (900001 + (j + 1)) ∧ NodeP.hearGo (4 - (j + 1)) p = nd.p.hear K)))) := hcall
      clear hcall
      cases wt with
      | false =>
        go_wp2_with (go_at_call 154; refine HC.out.mono ?_; rintro e w3 ⟨rfl, hT3, hT4⟩; have HT3 := hT3 rfl; clear hT3 hT4)
        (try simp only [Exit.inBlock, Exit.then]); refine bodyPost_ret (results_none rfl _ _ _) rfl ?_
        exact ⟨rfl, HT3⟩
      | true =>
        go_wp2_with first
          | (go_at_call 154; refine HC.out.mono ?_; rintro e w3 ⟨rfl, hT3, hT4⟩; have HT4 := hT4 rfl; clear hT3 hT4)
          | (go_at_call 153; refine HT4.out.mono ?_; rintro e w4 ⟨rfl, hT5⟩)
        go_roundw
        case rel => exact ⟨j + 1, by omega, by go_num, hT5⟩
        case measure => simp [intOf]; omega
    · have hjn : j = 4 := by omega
      subst hjn
      go_wp2
      go_end0
      exact ⟨rfl, H3.out _ HT.out⟩

end Go.Proofs.YtpfcacedpkaihaaGreat
