import Derived.Test.YtpfcacedpkaihaaGreatC28
namespace Go.Proofs.YtpfcacedpkaihaaGreat
open Go.RowKit
set_option maxRecDepth 100000
set_option maxHeartbeats 16000000
theorem dlay (w : World) (b k g : Nat) (D : DevS) (nd : DNodeE) (e : EntE) (h : Dev w b D) (hnd : D.nodes[k]? = some nd) (ho : D.vn.ownBlock = some g) (hl : nd.p.ents.length ≤ 900) (hr1 : 1 ≤ nd.p.room) (hr2 : nd.p.room ≤ 1000) (hu : nd.p.uses < 9223372036854775808) :
 Calls Tryz.prog 145 #[.pointer (some ⟨g, k * 8, none⟩), .agg #[.string e.q, .int .i32 e.val, .int .u64 (e.fr : Int), .int .u64 (e.till : Int), .bool e.op, .int .u64 (e.kn : Int)]] w fun e' w' => e' = .returned (.tuple #[]) ∧ Hid (Turns w b D k (nd.p.lay e) w') := by
 have HN : Hid (D.nodes[k]? = some nd ∧ D.vn.ownBlock = some g) := ⟨hnd, ho⟩
 obtain ⟨ae, ce, hve, _⟩ := (h.ents nd (List.mem_of_getElem? hnd)).form
 have c5 : w.cell? ⟨g, k * 8 + 5, none⟩ = some (.slice ae nd.p.ents.length ce) := by rw [← hve]; exact h.nodeC hnd ho 5 (by omega) _ rfl
 have c1 : w.cell? ⟨g, k * 8 + 1, none⟩ = some (.int .i64 nd.p.room) := h.nodeC hnd ho 1 (by omega) _ rfl
 have hgl : g < w.heap.size := World.block_lt_of_cell? w _ c5
 have HLT : Hid (∀ j, D.fp b j → j < w.heap.size) := h.lt
 obtain ⟨i0, hi, hz0, hz1, hz2⟩ := info_parts Tryz.infoHeld
 have HI : Hid (Tryz.prog.info? 227 = some i0 ∧ i0.zero = some (.agg #[.string ByteArray.empty, .int .i32 0, .int .u64 0, .int .u64 0, .bool false, .int .u64 0, .int .u64 0]) ∧ i0.size = 7 ∧ i0.bytes = 64) := ⟨hi, hz0, hz1, hz2⟩
 have HB0 : Hid (Blk (w.alloc (.cells #[.string e.q, .int .i32 e.val, .int .u64 (e.fr : Int), .int .u64 (e.till : Int), .bool e.op, .int .u64 (e.kn : Int)] 55)) w.heap.size 55 #[.string e.q, .int .i32 e.val, .int .u64 (e.fr : Int), .int .u64 (e.till : Int), .bool e.op, .int .u64 (e.kn : Int)]) := Blk.new _ _ _
 have HDA : Hid (∀ W, Kept (fun _ => False) w W → Dev W b D) := fun W hW => h.kept hW (fun _ _ => id)
 clear hi hz0 hz1 hz2 hve
 by_cases hf : nd.p.room ≤ (nd.p.ents.length : Int)
 · have hd : decide (nd.p.room ≤ (nd.p.ents.length : Int)) = true := by simpa using hf
   have HLW : Hid (∀ W, Kept (fun _ => False) w W → Calls Tryz.prog 162 #[.pointer (some ⟨g, k * 8, none⟩)] W fun e w' => e = .returned (.int .i64 (leastD nd.p.ents nd.p.ents.length : Int)) ∧ Kept (fun _ => False) W w') := fun W hW => dleast W b k g D nd (HDA.out W hW) hnd ho (by omega) (by omega)
   have HRM : Hid (∀ W, Kept (fun _ => False) w W → Calls Tryz.prog 149 #[.pointer (some ⟨g, k * 8, none⟩), .int .i64 (leastD nd.p.ents nd.p.ents.length : Int)] W fun e w' => e = .returned (.tuple #[]) ∧ Hid (Turns W b D k (nd.p.remove (leastD nd.p.ents nd.p.ents.length)) w')) := fun W hW => dremove W b k g D nd _ (HDA.out W hW) hnd ho (by omega)
   have HLAY : Hid (nd.p.lay e = (nd.p.remove (leastD nd.p.ents nd.p.ents.length)).lay0 e) := by show _ = _; rw [NodeP.lay, if_pos hf]
   have hlen : (nd.p.remove (leastD nd.p.ents nd.p.ents.length)).ents.length ≤ 1000 := by
    have := List.length_eraseIdx_le nd.p.ents (leastD nd.p.ents nd.p.ents.length)
    show (nd.p.ents.eraseIdx _).length ≤ 1000
    omega
   have HLEN : Hid ((nd.p.remove (leastD nd.p.ents nd.p.ents.length)).ents.length ≤ 1000) := hlen
   generalize leastD nd.p.ents nd.p.ents.length = li at *
   clear h hnd ho hlen
   go_enter Tryz.func145, Tryz.ntmps145
   go_wp2_with fail
   generalize hW : w.alloc (.cells #[.string e.q, .int .i32 e.val, .int .u64 (e.fr : Int), .int .u64 (e.till : Int), .bool e.op, .int .u64 (e.kn : Int)] 55) = W at HB0 ⊢
   have kW : Kept (fun _ => False) w W := by rw [← hW]; exact Kept.alloc _ _ _
   have d5 := kW.hold c5
   have d1 := kW.hold c1
   have HKW : Hid (Kept (fun _ => False) w W) := kW
   clear hW kW
   go_quiet (fail)
   go_wp2_with first
    | (go_at_call 162; refine (HLW.out _ (HKW.out.drewN _)).mono ?_; rintro e2 w1 ⟨rfl, hk1⟩; have HK1 : Hid (Kept (fun _ => False) w w1 ∧ Blk w1 w.heap.size 55 #[.string e.q, .int .i32 e.val, .int .u64 (e.fr : Int), .int .u64 (e.till : Int), .bool e.op, .int .u64 (e.kn : Int)]) := ⟨(HKW.out.drewN _).trans hk1 (fun _ => id) (fun _ _ => id), HB0.out.kept ((Kept.refl (fun _ => False) W).drewN _ |>.trans hk1 (fun _ => id) (fun _ _ => id)) id⟩; clear hk1)
    | (go_at_call 149; refine (HRM.out _ HK1.out.1).mono ?_; rintro e2 W1 ⟨rfl, hT1⟩; have HT1 : Hid (Turns w b D k (nd.p.remove li) W1) := Turns.from HK1.out.1 hT1.out; have HBX : Hid (Blk W1 w.heap.size 55 #[.string e.q, .int .i32 e.val, .int .u64 (e.fr : Int), .int .u64 (e.till : Int), .bool e.op, .int .u64 (e.kn : Int)]) := (by obtain ⟨_, _, hx⟩ := hT1.out; exact HK1.out.2.kept hx.2.1 (fun hh => absurd (HLT.out _ hh) (Nat.lt_irrefl _))); clear hT1; skip; obtain ⟨nd1, e1, hb1⟩ := HT1.out; have hn1 := putN_at nd1 HN.out.1; have u6 : W1.cell? ⟨g, k * 8 + 6, none⟩ = some (.int .u64 (nd.p.uses : Int)) := (by have := hb1.1.nodeC hn1 HN.out.2 6 (by omega) _ rfl; rw [e1] at this; exact this); have g6 : W1.frozen? ⟨g, k * 8 + 6, none⟩ = false := hb1.1.nodeF HN.out.2 _; have hgW : g < W1.heap.size := World.block_lt_of_cell? W1 _ u6; clear e1 hb1 hn1)
   obtain ⟨nd1, e1, hb1⟩ := HT1.out
   have hn1 := putN_at nd1 HN.out.1
   have u6 : W1.cell? ⟨g, k * 8 + 6, none⟩ = some (.int .u64 (nd.p.uses : Int)) := by have := hb1.1.nodeC hn1 HN.out.2 6 (by omega) _ rfl; rw [e1] at this; exact this
   have g6 : W1.frozen? ⟨g, k * 8 + 6, none⟩ = false := hb1.1.nodeF HN.out.2 _
   have hb2 := hb1.1.cellN hn1 HN.out.2 6 (by omega) (.int .u64 ((nd.p.uses : Int) + 1)) (y := { nd1 with p := { nd1.p with uses := nd.p.uses + 1 } }) rfl rfl
   rw [putN_putN] at hb2
   have hb3 := hb1.trans hb2
   obtain ⟨nd2, hnd2⟩ : ∃ nd2 : DNodeE, nd2 = { nd1 with p := { nd1.p with uses := nd.p.uses + 1 } } := ⟨_, rfl⟩
   rw [← hnd2] at hb3
   have hn2 := putN_at nd2 HN.out.1
   have bx := HBX.out.kept (Kept.setCell W1 ⟨g, k * 8 + 6, none⟩ (.int .u64 ((nd.p.uses : Int) + 1))) (by simp only; omega)
   go_wp2_with fail
   generalize W1.setCell ⟨g, k * 8 + 6, none⟩ (.int .u64 ((nd.p.uses : Int) + 1)) = W2 at hb3 bx ⊢
   obtain ⟨l, hll⟩ : ∃ l, l = nd2.p.ents := ⟨_, rfl⟩
   obtain ⟨av, cv, hv, _⟩ := (hb3.1.ents nd2 (List.mem_of_getElem? hn2)).form
   rw [← hll] at hv
   have hln : l.length ≤ 1000 := by rw [hll, hnd2]; exact (by rw [e1]; exact HLEN.out)
   have d5 : W2.cell? ⟨g, k * 8 + 5, none⟩ = some (.slice av l.length cv) := by rw [← hv]; exact hb3.1.nodeC hn2 HN.out.2 5 (by omega) _ rfl
   have d6 : W2.cell? ⟨g, k * 8 + 6, none⟩ = some (.int .u64 ((nd.p.uses : Int) + 1)) := by have := hb3.1.nodeC hn2 HN.out.2 6 (by omega) _ rfl; rw [hnd2] at this; exact this
   have z0 : W2.cell? ⟨w.heap.size, 0, none⟩ = some (.string e.q) := bx.cell 0
   have z1 : W2.cell? ⟨w.heap.size, 1, none⟩ = some (.int .i32 e.val) := bx.cell 1
   have z2 : W2.cell? ⟨w.heap.size, 2, none⟩ = some (.int .u64 (e.fr : Int)) := bx.cell 2
   have z3 : W2.cell? ⟨w.heap.size, 3, none⟩ = some (.int .u64 (e.till : Int)) := bx.cell 3
   have z4 : W2.cell? ⟨w.heap.size, 4, none⟩ = some (.bool e.op) := bx.cell 4
   have z5 : W2.cell? ⟨w.heap.size, 5, none⟩ = some (.int .u64 (e.kn : Int)) := bx.cell 5
   have hg2 : g < W2.heap.size := World.block_lt_of_cell? W2 _ d5
   have qb : ∀ o : Obj, (W2.alloc o).cell? ⟨g, k * 8 + 5, none⟩ = some (.slice av l.length cv) := fun o => hold_al d5
   have HROW : Hid (∀ o : Obj, Row ((W2.alloc o).drew) 227 7 (.slice av l.length cv) l.length (l.flatMap Go.Proofs.YtpfcacedpkaihaaGreat.heldC)) := fun o => by rw [← hv, hll]; exact (hb3.1.ents nd2 (List.mem_of_getElem? hn2)).kept ((Kept.alloc W2 o (fun _ => False)).drew) (fun _ _ => id)
   have HAP : Hid (∀ (o : Obj) (w' : World) (v' : Value), Appended ((W2.alloc o).drew) w' 227 7 (.slice av l.length cv) v' l.length 1 (l.flatMap Go.Proofs.YtpfcacedpkaihaaGreat.heldC) (Go.Proofs.YtpfcacedpkaihaaGreat.heldC ⟨e, nd.p.uses + 1⟩) → w'.cell? ⟨g, k * 8 + 5, none⟩ = some (.slice av l.length cv) ∧ w'.frozen? ⟨g, k * 8 + 5, none⟩ = false ∧ Hid (Turns w b D k (nd.p.lay e) (w'.setCell ⟨g, k * 8 + 5, none⟩ v'))) := fun o w' v' hA => by
    obtain ⟨q1, q2, q3⟩ := hb3.1.appIn hn2 HN.out.2 2 ⟨227, 7, nd2.en, nd2.p.ents.length, nd2.p.ents.flatMap Go.Proofs.YtpfcacedpkaihaaGreat.heldC⟩ rfl hv ((Kept.alloc W2 o (fun _ => False)).drew) hA
    have s := hb3.1.putEnts hn2 HN.out.2 (l ++ [⟨e, nd.p.uses + 1⟩]) v' (by rw [hv]; exact q3.kept) (row_snoc q3.row) (fun x hx => by rw [hv]; exact q3.new x hx)
    rw [putN_putN] at s
    refine ⟨by rw [← hv]; exact q1 5 _ (by omega) rfl, q2 _, ⟨_, ?_, hb3.trans s⟩⟩
    rw [HLAY.out, hll, hnd2]
    dsimp only
    rw [e1]
    rfl
   have b1 : l.length + 1 ≤ maxLen := by unfold maxLen; omega
   have b2 : (l.length + 1) * 64 ≤ 140737488355328 := by omega
   clear hb1 hb2 hb3 hn1 hn2 bx hv hll hnd2 e1 u6 g6
   go_region_law (refine step_append_mine rfl (.tmp 31) (.tmp 38) 131 rfl 227 i0 (.agg #[.string ByteArray.empty, .int .i32 0, .int .u64 0, .int .u64 0, .bool false, .int .u64 0, .int .u64 0]) 7 64 Tryz.underlying131 HI.out.1 HI.out.2.1 HI.out.2.2.1 HI.out.2.2.2 rfl (Nat.succ_pos 6) (.slice av l.length cv) l.length (l.flatMap Go.Proofs.YtpfcacedpkaihaaGreat.heldC) rfl (HROW.out _) ⟨W2.heap.size, 0, none⟩ 1 1 (Go.Proofs.YtpfcacedpkaihaaGreat.heldC ⟨e, nd.p.uses + 1⟩) rfl rfl (fun j u hj => news_held W2 ⟨e, nd.p.uses + 1⟩ _ j u hj) (oneCell_held ⟨e, nd.p.uses + 1⟩) b1 b2 ?_; intro v' w' hA; obtain ⟨p1, p2, p4⟩ := HAP.out _ _ _ hA; obtain ⟨ao', cap', hv', _⟩ := hA.row.form; clear hA; subst hv')
   all_goals
    clear p1 p2 qb
    go_wp2
    go_end0
    exact ⟨rfl, p4⟩
 · have hd : decide (nd.p.room ≤ (nd.p.ents.length : Int)) = false := by simpa using hf
   have HLAY : Hid (nd.p.lay e = nd.p.lay0 e) := by show _ = _; rw [NodeP.lay, if_neg hf]
   have HLEN : Hid (nd.p.ents.length ≤ 1000) := by show _ ≤ _; omega
   have HTK : Hid (∀ W, Kept (fun _ => False) w W → Turns w b D k nd.p W) := fun W hW => Turns.of_kept h hnd hW
   have c6 : w.cell? ⟨g, k * 8 + 6, none⟩ = some (.int .u64 (nd.p.uses : Int)) := h.nodeC hnd ho 6 (by omega) _ rfl
   have HF6 : Hid (∀ W, Kept (fun _ => False) w W → W.frozen? ⟨g, k * 8 + 6, none⟩ = false) := fun W hW => (HDA.out W hW).nodeF ho _
   clear h hnd ho
   go_enter Tryz.func145, Tryz.ntmps145
   go_wp2_with fail
   generalize hW : w.alloc (.cells #[.string e.q, .int .i32 e.val, .int .u64 (e.fr : Int), .int .u64 (e.till : Int), .bool e.op, .int .u64 (e.kn : Int)] 55) = W at HB0 ⊢
   have kW : Kept (fun _ => False) w W := by rw [← hW]; exact Kept.alloc _ _ _
   have d5 := kW.hold c5
   have d1 := kW.hold c1
   have u6' := kW.hold c6
   have g6' := HF6.out W kW
   have hsz : w.heap.size < W.heap.size := by rw [← hW]; simp
   have HKW : Hid (Kept (fun _ => False) w W) := kW
   clear hW kW
   go_quiet (fail)
   have HT1 : Hid (Turns w b D k nd.p (W.drewN nq)) := HTK.out _ (HKW.out.drewN _)
   have HBX : Hid (Blk (W.drewN nq) w.heap.size 55 #[.string e.q, .int .i32 e.val, .int .u64 (e.fr : Int), .int .u64 (e.till : Int), .bool e.op, .int .u64 (e.kn : Int)]) := HB0.out
   generalize W.drewN nq = W1 at HT1 HBX ⊢
   clear d5 d1 u6' g6'
   obtain ⟨nd1, e1, hb1⟩ := HT1.out
   have hn1 := putN_at nd1 HN.out.1
   have u6 : W1.cell? ⟨g, k * 8 + 6, none⟩ = some (.int .u64 (nd.p.uses : Int)) := by have := hb1.1.nodeC hn1 HN.out.2 6 (by omega) _ rfl; rw [e1] at this; exact this
   have g6 : W1.frozen? ⟨g, k * 8 + 6, none⟩ = false := hb1.1.nodeF HN.out.2 _
   have hb2 := hb1.1.cellN hn1 HN.out.2 6 (by omega) (.int .u64 ((nd.p.uses : Int) + 1)) (y := { nd1 with p := { nd1.p with uses := nd.p.uses + 1 } }) rfl rfl
   rw [putN_putN] at hb2
   have hb3 := hb1.trans hb2
   obtain ⟨nd2, hnd2⟩ : ∃ nd2 : DNodeE, nd2 = { nd1 with p := { nd1.p with uses := nd.p.uses + 1 } } := ⟨_, rfl⟩
   rw [← hnd2] at hb3
   have hn2 := putN_at nd2 HN.out.1
   have bx := HBX.out.kept (Kept.setCell W1 ⟨g, k * 8 + 6, none⟩ (.int .u64 ((nd.p.uses : Int) + 1))) (by simp only; omega)
   go_wp2_with fail
   generalize W1.setCell ⟨g, k * 8 + 6, none⟩ (.int .u64 ((nd.p.uses : Int) + 1)) = W2 at hb3 bx ⊢
   obtain ⟨l, hll⟩ : ∃ l, l = nd2.p.ents := ⟨_, rfl⟩
   obtain ⟨av, cv, hv, _⟩ := (hb3.1.ents nd2 (List.mem_of_getElem? hn2)).form
   rw [← hll] at hv
   have hln : l.length ≤ 1000 := by rw [hll, hnd2]; exact (by rw [e1]; exact HLEN.out)
   have d5 : W2.cell? ⟨g, k * 8 + 5, none⟩ = some (.slice av l.length cv) := by rw [← hv]; exact hb3.1.nodeC hn2 HN.out.2 5 (by omega) _ rfl
   have d6 : W2.cell? ⟨g, k * 8 + 6, none⟩ = some (.int .u64 ((nd.p.uses : Int) + 1)) := by have := hb3.1.nodeC hn2 HN.out.2 6 (by omega) _ rfl; rw [hnd2] at this; exact this
   have z0 : W2.cell? ⟨w.heap.size, 0, none⟩ = some (.string e.q) := bx.cell 0
   have z1 : W2.cell? ⟨w.heap.size, 1, none⟩ = some (.int .i32 e.val) := bx.cell 1
   have z2 : W2.cell? ⟨w.heap.size, 2, none⟩ = some (.int .u64 (e.fr : Int)) := bx.cell 2
   have z3 : W2.cell? ⟨w.heap.size, 3, none⟩ = some (.int .u64 (e.till : Int)) := bx.cell 3
   have z4 : W2.cell? ⟨w.heap.size, 4, none⟩ = some (.bool e.op) := bx.cell 4
   have z5 : W2.cell? ⟨w.heap.size, 5, none⟩ = some (.int .u64 (e.kn : Int)) := bx.cell 5
   have hg2 : g < W2.heap.size := World.block_lt_of_cell? W2 _ d5
   have qb : ∀ o : Obj, (W2.alloc o).cell? ⟨g, k * 8 + 5, none⟩ = some (.slice av l.length cv) := fun o => hold_al d5
   have HROW : Hid (∀ o : Obj, Row ((W2.alloc o).drew) 227 7 (.slice av l.length cv) l.length (l.flatMap Go.Proofs.YtpfcacedpkaihaaGreat.heldC)) := fun o => by rw [← hv, hll]; exact (hb3.1.ents nd2 (List.mem_of_getElem? hn2)).kept ((Kept.alloc W2 o (fun _ => False)).drew) (fun _ _ => id)
   have HAP : Hid (∀ (o : Obj) (w' : World) (v' : Value), Appended ((W2.alloc o).drew) w' 227 7 (.slice av l.length cv) v' l.length 1 (l.flatMap Go.Proofs.YtpfcacedpkaihaaGreat.heldC) (Go.Proofs.YtpfcacedpkaihaaGreat.heldC ⟨e, nd.p.uses + 1⟩) → w'.cell? ⟨g, k * 8 + 5, none⟩ = some (.slice av l.length cv) ∧ w'.frozen? ⟨g, k * 8 + 5, none⟩ = false ∧ Hid (Turns w b D k (nd.p.lay e) (w'.setCell ⟨g, k * 8 + 5, none⟩ v'))) := fun o w' v' hA => by
    obtain ⟨q1, q2, q3⟩ := hb3.1.appIn hn2 HN.out.2 2 ⟨227, 7, nd2.en, nd2.p.ents.length, nd2.p.ents.flatMap Go.Proofs.YtpfcacedpkaihaaGreat.heldC⟩ rfl hv ((Kept.alloc W2 o (fun _ => False)).drew) hA
    have s := hb3.1.putEnts hn2 HN.out.2 (l ++ [⟨e, nd.p.uses + 1⟩]) v' (by rw [hv]; exact q3.kept) (row_snoc q3.row) (fun x hx => by rw [hv]; exact q3.new x hx)
    rw [putN_putN] at s
    refine ⟨by rw [← hv]; exact q1 5 _ (by omega) rfl, q2 _, ⟨_, ?_, hb3.trans s⟩⟩
    rw [HLAY.out, hll, hnd2]
    dsimp only
    rw [e1]
    rfl
   have b1 : l.length + 1 ≤ maxLen := by unfold maxLen; omega
   have b2 : (l.length + 1) * 64 ≤ 140737488355328 := by omega
   clear hb1 hb2 hb3 hn1 hn2 bx hv hll hnd2 e1 u6 g6
   go_region_law (refine step_append_mine rfl (.tmp 31) (.tmp 38) 131 rfl 227 i0 (.agg #[.string ByteArray.empty, .int .i32 0, .int .u64 0, .int .u64 0, .bool false, .int .u64 0, .int .u64 0]) 7 64 Tryz.underlying131 HI.out.1 HI.out.2.1 HI.out.2.2.1 HI.out.2.2.2 rfl (Nat.succ_pos 6) (.slice av l.length cv) l.length (l.flatMap Go.Proofs.YtpfcacedpkaihaaGreat.heldC) rfl (HROW.out _) ⟨W2.heap.size, 0, none⟩ 1 1 (Go.Proofs.YtpfcacedpkaihaaGreat.heldC ⟨e, nd.p.uses + 1⟩) rfl rfl (fun j u hj => news_held W2 ⟨e, nd.p.uses + 1⟩ _ j u hj) (oneCell_held ⟨e, nd.p.uses + 1⟩) b1 b2 ?_; intro v' w' hA; obtain ⟨p1, p2, p4⟩ := HAP.out _ _ _ hA; obtain ⟨ao', cap', hv', _⟩ := hA.row.form; clear hA; subst hv')
   all_goals
    clear p1 p2 qb
    go_wp2
    go_end0
    exact ⟨rfl, p4⟩
def DLatestPost (w : World) (nd : DNodeE) (q : ByteArray) (lo hi : Nat) (e : Ending) (w' : World) : Prop := Kept (fun _ => False) w w' ∧
 ((nd.p.ans q lo hi nd.p.ents.length < 0 ∧ e = .returned (.pointer none)) ∨ (∃ (j : Nat) (x : HeldE) (ge : Nat), nd.p.ans q lo hi nd.p.ents.length = j ∧ nd.p.ents[j]? = some x ∧ nd.en.ownBlock = some ge ∧ e = .returned (.pointer (some ⟨ge, j * 7, none⟩))))
theorem map_e {l : List HeldE} {j : Nat} {x : HeldE} (h : l[j]? = some x) : (l.map (·.e))[j]? = some x.e := by rw [List.getElem?_map, h]; rfl
theorem ans_next (p : NodeP) (q : ByteArray) (lo hi j : Nat) (x : HeldE) (hx : p.ents[j]? = some x) :
 p.ans q lo hi (j + 1) = if meetsE p.horizon q lo hi x.e ∧ (p.ans q lo hi j < 0 ∨ ∃ y : HeldE, p.ents[(p.ans q lo hi j).toNat]? = some y ∧ y.e.fr < x.e.fr) then (j : Int) else p.ans q lo hi j := by
 show ansN true p.horizon q lo hi (p.ents.map (·.e)) (j + 1) = _
 rw [ansN, map_e hx]
 have e : (∃ y : EntE, (p.ents.map (·.e))[(ansN true p.horizon q lo hi (p.ents.map (·.e)) j).toNat]? = some y ∧ y.fr < x.e.fr) ↔ ∃ y : HeldE, p.ents[(p.ans q lo hi j).toNat]? = some y ∧ y.e.fr < x.e.fr := by
  constructor
  · rintro ⟨y, h1, h2⟩
    rw [List.getElem?_map] at h1
    cases hh : p.ents[(ansN true p.horizon q lo hi (p.ents.map (·.e)) j).toNat]? with
    | none => rw [hh] at h1; simp at h1
    | some z => rw [hh] at h1; simp at h1; exact ⟨z, hh, by rw [h1]; exact h2⟩
  · rintro ⟨y, h1, h2⟩
    exact ⟨y.e, map_e h1, h2⟩
 have e2 : (true = true ∧ meetsE p.horizon q lo hi x.e ∧ (ansN true p.horizon q lo hi (p.ents.map (·.e)) j < 0 ∨ ∃ y : EntE, (p.ents.map (·.e))[(ansN true p.horizon q lo hi (p.ents.map (·.e)) j).toNat]? = some y ∧ y.fr < x.e.fr)) ↔ (meetsE p.horizon q lo hi x.e ∧ (p.ans q lo hi j < 0 ∨ ∃ y : HeldE, p.ents[(p.ans q lo hi j).toNat]? = some y ∧ y.e.fr < x.e.fr)) := by
  rw [← e]
  exact ⟨fun h => h.2, fun h => ⟨rfl, h⟩⟩
 by_cases hc : meetsE p.horizon q lo hi x.e ∧ (p.ans q lo hi j < 0 ∨ ∃ y : HeldE, p.ents[(p.ans q lo hi j).toNat]? = some y ∧ y.e.fr < x.e.fr)
 · rw [if_pos hc]
   exact if_pos (e2.mpr hc)
 · rw [if_neg hc]
   exact if_neg fun h => hc (e2.mp h)
theorem dlatest (w : World) (b k g : Nat) (D : DevS) (nd : DNodeE) (q : ByteArray) (lo hi : Nat) (h : Dev w b D) (hnd : D.nodes[k]? = some nd) (ho : D.vn.ownBlock = some g) (hn : nd.p.ents.length ≤ 1000) (hfit : ∀ x ∈ nd.p.ents, x.e.Fit ∧ x.e.fr ≤ lastE x.e nd.p.horizon) (hlo : lo ≤ hi) :
 Calls Tryz.prog 135 #[.pointer (some ⟨g, k * 8, none⟩), .string q, .agg #[.int .u64 (lo : Int), .int .u64 (hi : Int)]] w fun e w' => DLatestPost w nd q lo hi e w' := by
 have c5 : w.cell? ⟨g, k * 8 + 5, none⟩ = some nd.en := h.nodeC hnd ho 5 (by omega) _ rfl
 have c2 : w.cell? ⟨g, k * 8 + 2, none⟩ = some (.int .u64 (nd.p.horizon : Int)) := h.nodeC hnd ho 2 (by omega) _ rfl
 obtain ⟨ae, ce, hve, hp⟩ := (h.ents nd (List.mem_of_getElem? hnd)).helds
 rw [hve] at c5
 have HP : Hid (∀ j (hj : j < nd.p.ents.length), ∃ ge, ae = some ⟨ge, 0, none⟩ ∧ ge < w.heap.size ∧ ∀ f, f < 7 → w.cell? ⟨ge, j * 7 + f, none⟩ = (Go.Proofs.YtpfcacedpkaihaaGreat.heldC nd.p.ents[j])[f]?) := hp
 have HOWN : Hid (∀ ge, ae = some ⟨ge, 0, none⟩ → nd.en.ownBlock = some ge) := fun ge e => by rw [hve, e]; rfl
 have HF : Hid (∀ x ∈ nd.p.ents, x.e.Fit ∧ x.e.fr ≤ lastE x.e nd.p.horizon) := hfit
 obtain ⟨A, hA⟩ : ∃ A : Nat → Int, ∀ i, A i = nd.p.ans q lo hi i := ⟨_, fun _ => rfl⟩
 have HA : Hid (∀ i, A i = nd.p.ans q lo hi i) := hA
 have HAL : Hid (∀ j, -1 ≤ A j ∧ A j < (j : Int)) := fun j => by rw [hA]; exact ansN_lt true nd.p.horizon q lo hi (nd.p.ents.map (·.e)) j
 have HNX : Hid (∀ j x, nd.p.ents[j]? = some x → A (j + 1) = if meetsE nd.p.horizon q lo hi x.e ∧ (A j < 0 ∨ ∃ y : HeldE, nd.p.ents[(A j).toNat]? = some y ∧ y.e.fr < x.e.fr) then (j : Int) else A j) := fun j x hx => by rw [hA, hA]; exact ans_next nd.p q lo hi j x hx
 have c5a : ∀ o : Obj, (w.alloc o).cell? ⟨g, k * 8 + 5, none⟩ = some (.slice ae nd.p.ents.length ce) := fun o => hold_al c5
 have hgl : g < w.heap.size := World.block_lt_of_cell? w _ c5
 clear h hnd ho hve hA hp hfit
 go_enter Tryz.func135, Tryz.ntmps135
 go_wp2
 go_loopw [7, 16] (fun bv jv wr => ∃ j : Nat, j ≤ nd.p.ents.length ∧ jv = .int .i64 j ∧ ((A j < 0 ∧ bv = .pointer none) ∨ ∃ (i ge : Nat), A j = (i : Int) ∧ ae = some ⟨ge, 0, none⟩ ∧ bv = .pointer (some ⟨ge, i * 7, none⟩)) ∧ Hid (Kept (fun _ => False) w wr ∧ Blk wr w.heap.size 88 #[.int .u64 (lo : Int), .int .u64 (hi : Int)])) (fun _ jv _ => nd.p.ents.length - (intOf jv).toNat)
 case atStart => exact ⟨0, Nat.zero_le _, rfl, .inl ⟨by rw [HA.out]; exact (by decide : (-1 : Int) < 0), rfl⟩, Kept.alloc _ _ _, Blk.new _ _ _⟩
 case round =>
  obtain ⟨j, hj, rfl, hbest, HK⟩ := hrel
  by_cases hlt : j < nd.p.ents.length
  · obtain ⟨ge, hae, hgel, hce⟩ := HP.out j hlt
    obtain ⟨x, hx⟩ : ∃ x, x = nd.p.ents[j] := ⟨_, rfl⟩
    have hx' : nd.p.ents[j]? = some x := by rw [hx]; exact List.getElem?_eq_getElem hlt
    obtain ⟨hxf, hfl⟩ := HF.out x (List.mem_of_getElem? hx')
    rw [← hx] at hce
    obtain ⟨x0, x1, x2, x3, x4, x5, x6⟩ := heldBlk (w := wr) (ge := ge) (o := j * 7) (x := x) fun f hf => HK.out.1.hold' (hce f hf) hf
    have d5 := HK.out.1.hold c5
    have d2 := HK.out.1.hold c2
    have hj0 : (0 : Int) ≤ (j : Int) := by omega
    have hj1 : (j : Int) < (nd.p.ents.length : Int) := by omega
    have HS := HNX.out j x hx'
    obtain ⟨L, hL⟩ : ∃ L, L = lastE x.e nd.p.horizon := ⟨_, rfl⟩
    have HCO : Hid (∀ W, W.cell? ⟨g, k * 8 + 2, none⟩ = some (.int .u64 (nd.p.horizon : Int)) → Calls Tryz.prog 137 #[.pointer (some ⟨g, k * 8, none⟩), .agg #[.string x.e.q, .int .i32 x.e.val, .int .u64 (x.e.fr : Int), .int .u64 (x.e.till : Int), .bool x.e.op, .int .u64 (x.e.kn : Int)]] W fun e w' => e = .returned (.agg #[.int .u64 (x.e.fr : Int), .int .u64 (L : Int)]) ∧ Kept (fun _ => False) W w') := fun W hc => by rw [hL]; exact dcover W g (k * 8) x.e nd.p.horizon hxf hc
    have HM : Hid (x.e.q = q → x.e.fr ≤ hi → lo ≤ L → meetsE nd.p.horizon q lo hi x.e) := fun hq h1 h2 => ⟨hq, by rw [← hL]; rw [← hL] at hfl; omega⟩
    have HM2 : Hid (meetsE nd.p.horizon q lo hi x.e → x.e.q = q ∧ x.e.fr ≤ hi ∧ lo ≤ L) := fun hm => ⟨hm.1, by have := hm.2; rw [← hL] at this; omega⟩
    have HS' : Hid (A (j + 1) = if meetsE nd.p.horizon q lo hi x.e ∧ (A j < 0 ∨ ∃ y : HeldE, nd.p.ents[(A j).toNat]? = some y ∧ y.e.fr < x.e.fr) then (j : Int) else A j) := HS
    clear hx hxf hfl hL hce hx' HS
    subst hae
    have HBEST : Hid ((A j < 0 ∧ u7 = .pointer none) ∨ ∃ (i ge' : Nat), A j = (i : Int) ∧ (some ⟨ge, 0, none⟩ : Option Addr) = some ⟨ge', 0, none⟩ ∧ u7 = .pointer (some ⟨ge', i * 7, none⟩)) := hbest
    have HCALL : Hid (∀ W, Kept (fun _ => False) wr W → Calls Tryz.prog 137 #[.pointer (some ⟨g, k * 8, none⟩), .agg #[.string x.e.q, .int .i32 x.e.val, .int .u64 (x.e.fr : Int), .int .u64 (x.e.till : Int), .bool x.e.op, .int .u64 (x.e.kn : Int)]] W fun e w' => e = .returned (.agg #[.int .u64 (x.e.fr : Int), .int .u64 (L : Int)]) ∧ Kept (fun _ => False) W w') := fun W hW => HCO.out W (hW.hold d2)
    by_cases hm : x.e.q = q ∧ x.e.fr ≤ hi ∧ lo ≤ L
    · obtain ⟨m1, m2, m3⟩ := hm
      have HMT : Hid (meetsE nd.p.horizon q lo hi x.e) := HM.out m1 m2 m3
      have hqb : (x.e.q.toList != q.toList) = false := by rw [m1]; simp
      have hqb' : (x.e.q.toList == q.toList) = true := by rw [m1]; simp
      have hd1 : decide ((hi : Int) < (x.e.fr : Int)) = false := by simp; omega
      have hd2 : decide ((L : Int) < (lo : Int)) = false := by simp; omega
      clear m1 hbest
      rcases HBEST.out with ⟨hneg, rfl⟩ | ⟨i, ge', hi', hge', rfl⟩
      · have HRES : Hid (A (j + 1) = (j : Int)) := by show _ = _; rw [HS'.out, if_pos ⟨HMT.out, .inl hneg⟩]
        clear hneg
        go_wp2_with (go_at_call 137; refine (HCALL.out _ (Kept.refl _ _)).mono ?_; rintro e w1 ⟨rfl, hk1⟩; have HK1 : Hid (Kept (fun _ => False) w w1 ∧ Blk w1 w.heap.size 88 #[.int .u64 (lo : Int), .int .u64 (hi : Int)]) := ⟨HK.out.1.trans hk1 (fun _ => id) (fun _ _ => id), HK.out.2.kept hk1 id⟩; have v0 := hk1.hold x0; have v2 := hk1.hold x2; have s0 : w1.cell? ⟨w.heap.size, 0, none⟩ = some (.int .u64 (lo : Int)) := HK1.out.2.cell 0; have s1 : w1.cell? ⟨w.heap.size, 1, none⟩ = some (.int .u64 (hi : Int)) := HK1.out.2.cell 1; have ssz : w.heap.size < w1.heap.size := HK1.out.2.lt; have gsz : ge < w1.heap.size := World.block_lt_of_cell? w1 _ v0; clear hk1)
        go_quiet (fail)
        go_wp2
        go_roundw
        case rel => exact ⟨j + 1, by omega, by go_num, .inr ⟨j, ge, HRES.out, rfl, rfl⟩, (HK1.out.1.allocNew _).drewN _, HK1.out.2.kept ((Kept.alloc _ _ (fun _ => False)).drewN _) id⟩
        case measure => simp [intOf]; omega
      · obtain rfl : ge = ge' := by injection hge' with e1; injection e1
        have hil : i < j := by have := (HAL.out j).2; omega
        obtain ⟨ge2, hae2, _, hce2⟩ := HP.out i (by omega)
        obtain rfl : ge = ge2 := by injection hae2 with e1; injection e1
        obtain ⟨y, hy⟩ : ∃ y, y = nd.p.ents[i]'(by omega) := ⟨_, rfl⟩
        rw [← hy] at hce2
        have z2 : wr.cell? ⟨ge, i * 7 + 2, none⟩ = some (.int .u64 (y.e.fr : Int)) := HK.out.1.hold (hce2 2 (by omega))
        have HY : Hid (nd.p.ents[i]? = some y) := by show _ = _; rw [hy]; exact List.getElem?_eq_getElem (by omega)
        clear hy hce2 hae2 hge'
        by_cases hfr : y.e.fr < x.e.fr
        · have HRES : Hid (A (j + 1) = (j : Int)) := by show _ = _; rw [HS'.out, if_pos ⟨HMT.out, .inr ⟨y, by rw [hi']; exact HY.out, hfr⟩⟩]
          have hd4 : (y.e.fr : Int) < (x.e.fr : Int) := by omega
          clear hi'
          go_wp2_with (go_at_call 137; refine (HCALL.out _ (Kept.refl _ _)).mono ?_; rintro e w1 ⟨rfl, hk1⟩; have HK1 : Hid (Kept (fun _ => False) w w1 ∧ Blk w1 w.heap.size 88 #[.int .u64 (lo : Int), .int .u64 (hi : Int)]) := ⟨HK.out.1.trans hk1 (fun _ => id) (fun _ _ => id), HK.out.2.kept hk1 id⟩; have v0 := hk1.hold x0; have v2 := hk1.hold x2; have v3 := hk1.hold z2; have s0 : w1.cell? ⟨w.heap.size, 0, none⟩ = some (.int .u64 (lo : Int)) := HK1.out.2.cell 0; have s1 : w1.cell? ⟨w.heap.size, 1, none⟩ = some (.int .u64 (hi : Int)) := HK1.out.2.cell 1; have ssz : w.heap.size < w1.heap.size := HK1.out.2.lt; have gsz : ge < w1.heap.size := World.block_lt_of_cell? w1 _ v0; clear hk1)
          go_quiet (fail)
          go_wp2
          go_roundw
          case rel => exact ⟨j + 1, by omega, by go_num, .inr ⟨j, ge, HRES.out, rfl, rfl⟩, (HK1.out.1.allocNew _).drewN _, HK1.out.2.kept ((Kept.alloc _ _ (fun _ => False)).drewN _) id⟩
          case measure => simp [intOf]; omega
        · have HRES : Hid (A (j + 1) = (i : Int)) := by
           show _ = _
           rw [HS'.out, if_neg, hi']
           rintro ⟨_, h1 | ⟨y', h1, h2⟩⟩
           · omega
           · rw [hi'] at h1
             have : nd.p.ents[i]? = some y' := h1
             rw [HY.out] at this
             injection this with this
             subst this
             exact hfr h2
          have hd3 : x.e.fr ≤ y.e.fr := by omega
          have hd4 : ¬ (y.e.fr : Int) < (x.e.fr : Int) := by omega
          clear hi'
          go_wp2_with (go_at_call 137; refine (HCALL.out _ (Kept.refl _ _)).mono ?_; rintro e w1 ⟨rfl, hk1⟩; have HK1 : Hid (Kept (fun _ => False) w w1 ∧ Blk w1 w.heap.size 88 #[.int .u64 (lo : Int), .int .u64 (hi : Int)]) := ⟨HK.out.1.trans hk1 (fun _ => id) (fun _ _ => id), HK.out.2.kept hk1 id⟩; have v0 := hk1.hold x0; have v2 := hk1.hold x2; have v3 := hk1.hold z2; have s0 : w1.cell? ⟨w.heap.size, 0, none⟩ = some (.int .u64 (lo : Int)) := HK1.out.2.cell 0; have s1 : w1.cell? ⟨w.heap.size, 1, none⟩ = some (.int .u64 (hi : Int)) := HK1.out.2.cell 1; have ssz : w.heap.size < w1.heap.size := HK1.out.2.lt; have gsz : ge < w1.heap.size := World.block_lt_of_cell? w1 _ v0; clear hk1)
          go_quiet (fail)
          go_wp2
          go_roundw
          case rel => exact ⟨j + 1, by omega, by go_num, .inr ⟨i, ge, HRES.out, rfl, rfl⟩, (HK1.out.1.allocNew _).drewN _, HK1.out.2.kept ((Kept.alloc _ _ (fun _ => False)).drewN _) id⟩
          case measure => simp [intOf]; omega
    · have HRES : Hid (A (j + 1) = A j) := by show _ = _; rw [HS'.out, if_neg]; rintro ⟨h1, _⟩; exact hm (HM2.out h1)
      have hcs : ((x.e.q.toList != q.toList) = true ∧ (x.e.q.toList == q.toList) = false) ∨ ((x.e.q.toList != q.toList) = false ∧ (x.e.q.toList == q.toList) = true ∧ hi < x.e.fr) ∨ ((x.e.q.toList != q.toList) = false ∧ (x.e.q.toList == q.toList) = true ∧ x.e.fr ≤ hi ∧ L < lo) := by
       by_cases h1 : x.e.q = q
       · by_cases h2 : x.e.fr ≤ hi
         · refine .inr (.inr ⟨by rw [h1]; simp, by rw [h1]; simp, h2, ?_⟩)
           have : ¬ lo ≤ L := fun h3 => hm ⟨h1, h2, h3⟩
           omega
         · exact .inr (.inl ⟨by rw [h1]; simp, by rw [h1]; simp, by omega⟩)
       · have h2 : (x.e.q.toList == q.toList) = false := beq_eq_false_iff_ne.mpr fun h => h1 (bytes_inj h)
         exact .inl ⟨by rw [bne, h2]; rfl, h2⟩
      have HB2 : Hid ((A (j + 1) < 0 ∧ u7 = .pointer none) ∨ ∃ (i ge' : Nat), A (j + 1) = (i : Int) ∧ (some ⟨ge, 0, none⟩ : Option Addr) = some ⟨ge', 0, none⟩ ∧ u7 = .pointer (some ⟨ge', i * 7, none⟩)) := by rw [HRES.out]; exact HBEST.out
      clear hm hbest
      rcases hcs with ⟨hq1, hq2⟩ | ⟨hq1, hq2, hq3⟩ | ⟨hq1, hq2, hq3, hq4⟩ <;>
      · go_wp2_with (go_at_call 137; refine (HCALL.out _ (Kept.refl _ _)).mono ?_; rintro e w1 ⟨rfl, hk1⟩; have HK1 : Hid (Kept (fun _ => False) w w1 ∧ Blk w1 w.heap.size 88 #[.int .u64 (lo : Int), .int .u64 (hi : Int)]) := ⟨HK.out.1.trans hk1 (fun _ => id) (fun _ _ => id), HK.out.2.kept hk1 id⟩; have v0 := hk1.hold x0; have v2 := hk1.hold x2; have s0 : w1.cell? ⟨w.heap.size, 0, none⟩ = some (.int .u64 (lo : Int)) := HK1.out.2.cell 0; have s1 : w1.cell? ⟨w.heap.size, 1, none⟩ = some (.int .u64 (hi : Int)) := HK1.out.2.cell 1; have ssz : w.heap.size < w1.heap.size := HK1.out.2.lt; have gsz : ge < w1.heap.size := World.block_lt_of_cell? w1 _ v0; clear hk1)
        go_roundw
        case rel => exact ⟨j + 1, by omega, by go_num, HB2.out, HK1.out.1.allocNew _, HK1.out.2.kept (Kept.alloc _ _ (fun _ => False)) id⟩
        case measure => simp [intOf]; omega
  · have hjn : j = nd.p.ents.length := by omega
    subst hjn
    have HPO : Hid (∀ e, ((A nd.p.ents.length < 0 ∧ e = .returned (.pointer none)) ∨ ∃ (i ge : Nat), A nd.p.ents.length = (i : Int) ∧ ae = some ⟨ge, 0, none⟩ ∧ e = .returned (.pointer (some ⟨ge, i * 7, none⟩))) → DLatestPost w nd q lo hi e wr) := fun e he => by
     refine ⟨HK.out.1, ?_⟩
     rw [← HA.out]
     rcases he with h1 | ⟨i, ge, h1, h2, h3⟩
     · exact .inl h1
     · have hil : i < nd.p.ents.length := by have := (HAL.out nd.p.ents.length).2; omega
       exact .inr ⟨i, nd.p.ents[i], ge, h1, List.getElem?_eq_getElem hil, HOWN.out ge h2, h3⟩
    rcases hbest with ⟨h1, rfl⟩ | ⟨i, ge, h1, h2, rfl⟩
    · have H1 : Hid (A nd.p.ents.length < 0) := h1
      clear h1
      go_wp2
      go_ret
      exact HPO.out _ (.inl ⟨H1.out, rfl⟩)
    · have H1 : Hid (A nd.p.ents.length = (i : Int) ∧ ae = some ⟨ge, 0, none⟩) := ⟨h1, h2⟩
      clear h1 h2
      go_wp2
      go_ret
      exact HPO.out _ (.inr ⟨i, ge, H1.out.1, H1.out.2, rfl⟩)
end Go.Proofs.YtpfcacedpkaihaaGreat
