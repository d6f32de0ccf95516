import Derived.Test.YtpfcacedpkaihaaGreatC10
namespace Go.Proofs.YtpfcacedpkaihaaGreat
open Go.RowKit
set_option maxRecDepth 100000
set_option maxHeartbeats 16000000
theorem dlay (w : World) (b k g : Nat) (D : DevS) (nd : DNodeE) (e : EntE) (h : Dev w b D) (hnd : D.nodes[k]? = some nd) (ho : D.vn.ownBlock = some g) (hl : nd.p.ents.length ≤ 900) (hr1 : 1 ≤ nd.p.room) (hr2 : nd.p.room ≤ 1000) (hu : nd.p.uses < 9223372036854775808) :
  Calls Tryz.prog 145 #[.pointer (some ⟨g, k * 8, none⟩), .agg #[.string e.q, .int .i32 e.val, .int .u64 (e.fr : Int), .int .u64 (e.till : Int), .bool e.op, .int .u64 (e.kn : Int)]] w fun e' w' => e' = .returned (.tuple #[]) ∧ Hid (Turns w b D k (nd.p.lay e) w') := by
 have HN : Hid (D.nodes[k]? = some nd ∧ D.vn.ownBlock = some g) := ⟨hnd, ho⟩
 obtain ⟨ae, ce, hve, _⟩ := (h.ents nd (List.mem_of_getElem? hnd)).form
 have c5 : w.cell? ⟨g, k * 8 + 5, none⟩ = some (.slice ae nd.p.ents.length ce) := by rw [← hve]; exact h.nodeC hnd ho 5 (by omega) _ rfl
 have c1 : w.cell? ⟨g, k * 8 + 1, none⟩ = some (.int .i64 nd.p.room) := h.nodeC hnd ho 1 (by omega) _ rfl
 have hgl : g < w.heap.size := World.block_lt_of_cell? w _ c5
 have HLT : Hid (∀ j, D.fp b j → j < w.heap.size) := h.lt
 obtain ⟨i0, hi, hz0, hz1, hz2⟩ := info_parts Tryz.infoHeld
 have HI : Hid (Tryz.prog.info? 227 = some i0 ∧ i0.zero = some (.agg #[.string ByteArray.empty, .int .i32 0, .int .u64 0, .int .u64 0, .bool false, .int .u64 0, .int .u64 0]) ∧ i0.size = 7 ∧ i0.bytes = 64) := ⟨hi, hz0, hz1, hz2⟩
 have HB0 : Hid (Blk (w.alloc (.cells #[.string e.q, .int .i32 e.val, .int .u64 (e.fr : Int), .int .u64 (e.till : Int), .bool e.op, .int .u64 (e.kn : Int)] 55)) w.heap.size 55 #[.string e.q, .int .i32 e.val, .int .u64 (e.fr : Int), .int .u64 (e.till : Int), .bool e.op, .int .u64 (e.kn : Int)]) := Blk.new _ _ _
 have HDA : Hid (∀ W, Kept (fun _ => False) w W → Dev W b D) := fun W hW => h.kept hW (fun _ _ => id)
 clear hi hz0 hz1 hz2 hve
 by_cases hf : nd.p.room ≤ (nd.p.ents.length : Int)
 · have hd : decide (nd.p.room ≤ (nd.p.ents.length : Int)) = true := by simpa using hf
  have HLW : Hid (∀ W, Kept (fun _ => False) w W → Calls Tryz.prog 162 #[.pointer (some ⟨g, k * 8, none⟩)] W fun e w' => e = .returned (.int .i64 (leastD nd.p.ents nd.p.ents.length : Int)) ∧ Kept (fun _ => False) W w') := fun W hW => dleast W b k g D nd (HDA.out W hW) hnd ho (by omega) (by omega)
  have HRM : Hid (∀ W, Kept (fun _ => False) w W → Calls Tryz.prog 149 #[.pointer (some ⟨g, k * 8, none⟩), .int .i64 (leastD nd.p.ents nd.p.ents.length : Int)] W fun e w' => e = .returned (.tuple #[]) ∧ Hid (Turns W b D k (nd.p.remove (leastD nd.p.ents nd.p.ents.length)) w')) := fun W hW => dremove W b k g D nd _ (HDA.out W hW) hnd ho (by omega)
  have HLAY : Hid (nd.p.lay e = (nd.p.remove (leastD nd.p.ents nd.p.ents.length)).lay0 e) := by show _ = _; rw [NodeP.lay, if_pos hf]
  have hlen : (nd.p.remove (leastD nd.p.ents nd.p.ents.length)).ents.length ≤ 1000 := by
   have := List.length_eraseIdx_le nd.p.ents (leastD nd.p.ents nd.p.ents.length)
   show (nd.p.ents.eraseIdx _).length ≤ 1000
   omega
  have HLEN : Hid ((nd.p.remove (leastD nd.p.ents nd.p.ents.length)).ents.length ≤ 1000) := hlen
  generalize leastD nd.p.ents nd.p.ents.length = li at *
  clear h hnd ho hlen
  go_enter Tryz.func145, Tryz.ntmps145
  go_wp2_with fail
  generalize hW : w.alloc (.cells #[.string e.q, .int .i32 e.val, .int .u64 (e.fr : Int), .int .u64 (e.till : Int), .bool e.op, .int .u64 (e.kn : Int)] 55) = W at HB0 ⊢
  have kW : Kept (fun _ => False) w W := by rw [← hW]; exact Kept.alloc _ _ _
  have d5 := kW.hold c5
  have d1 := kW.hold c1
  have HKW : Hid (Kept (fun _ => False) w W) := kW
  clear hW kW
  go_quiet (fail)
  go_wp2_with first
   | (go_at_call 162; refine (HLW.out _ (HKW.out.drewN _)).mono ?_; rintro e2 w1 ⟨rfl, hk1⟩; have HK1 : Hid (Kept (fun _ => False) w w1 ∧ Blk w1 w.heap.size 55 #[.string e.q, .int .i32 e.val, .int .u64 (e.fr : Int), .int .u64 (e.till : Int), .bool e.op, .int .u64 (e.kn : Int)]) := ⟨(HKW.out.drewN _).trans hk1 (fun _ => id) (fun _ _ => id), HB0.out.kept ((Kept.refl (fun _ => False) W).drewN _ |>.trans hk1 (fun _ => id) (fun _ _ => id)) id⟩; clear hk1)
   | (go_at_call 149; refine (HRM.out _ HK1.out.1).mono ?_; rintro e2 W1 ⟨rfl, hT1⟩; have HT1 : Hid (Turns w b D k (nd.p.remove li) W1) := Turns.from HK1.out.1 hT1.out; have HBX : Hid (Blk W1 w.heap.size 55 #[.string e.q, .int .i32 e.val, .int .u64 (e.fr : Int), .int .u64 (e.till : Int), .bool e.op, .int .u64 (e.kn : Int)]) := (by obtain ⟨_, _, hx⟩ := hT1.out; exact HK1.out.2.kept hx.2.1 (fun hh => absurd (HLT.out _ hh) (Nat.lt_irrefl _))); clear hT1; skip; obtain ⟨nd1, e1, hb1⟩ := HT1.out; have hn1 := putN_at nd1 HN.out.1; have u6 : W1.cell? ⟨g, k * 8 + 6, none⟩ = some (.int .u64 (nd.p.uses : Int)) := (by have := hb1.1.nodeC hn1 HN.out.2 6 (by omega) _ rfl; rw [e1] at this; exact this); have g6 : W1.frozen? ⟨g, k * 8 + 6, none⟩ = false := hb1.1.nodeF HN.out.2 _; have hgW : g < W1.heap.size := World.block_lt_of_cell? W1 _ u6; clear e1 hb1 hn1)
  obtain ⟨nd1, e1, hb1⟩ := HT1.out
  have hn1 := putN_at nd1 HN.out.1
  have u6 : W1.cell? ⟨g, k * 8 + 6, none⟩ = some (.int .u64 (nd.p.uses : Int)) := by have := hb1.1.nodeC hn1 HN.out.2 6 (by omega) _ rfl; rw [e1] at this; exact this
  have g6 : W1.frozen? ⟨g, k * 8 + 6, none⟩ = false := hb1.1.nodeF HN.out.2 _
  have hb2 := hb1.1.cellN hn1 HN.out.2 6 (by omega) (.int .u64 ((nd.p.uses : Int) + 1)) (y := { nd1 with p := { nd1.p with uses := nd.p.uses + 1 } }) rfl rfl
  rw [putN_putN] at hb2
  have hb3 := hb1.trans hb2
  obtain ⟨nd2, hnd2⟩ : ∃ nd2 : DNodeE, nd2 = { nd1 with p := { nd1.p with uses := nd.p.uses + 1 } } := ⟨_, rfl⟩
  rw [← hnd2] at hb3
  have hn2 := putN_at nd2 HN.out.1
  have bx := HBX.out.kept (Kept.setCell W1 ⟨g, k * 8 + 6, none⟩ (.int .u64 ((nd.p.uses : Int) + 1))) (by simp only; omega)
  go_wp2_with fail
  generalize W1.setCell ⟨g, k * 8 + 6, none⟩ (.int .u64 ((nd.p.uses : Int) + 1)) = W2 at hb3 bx ⊢
  obtain ⟨l, hll⟩ : ∃ l, l = nd2.p.ents := ⟨_, rfl⟩
  obtain ⟨av, cv, hv, _⟩ := (hb3.1.ents nd2 (List.mem_of_getElem? hn2)).form
  rw [← hll] at hv
  have hln : l.length ≤ 1000 := by rw [hll, hnd2]; exact (by rw [e1]; exact HLEN.out)
  have d5 : W2.cell? ⟨g, k * 8 + 5, none⟩ = some (.slice av l.length cv) := by rw [← hv]; exact hb3.1.nodeC hn2 HN.out.2 5 (by omega) _ rfl
  have d6 : W2.cell? ⟨g, k * 8 + 6, none⟩ = some (.int .u64 ((nd.p.uses : Int) + 1)) := by have := hb3.1.nodeC hn2 HN.out.2 6 (by omega) _ rfl; rw [hnd2] at this; exact this
  have z0 : W2.cell? ⟨w.heap.size, 0, none⟩ = some (.string e.q) := bx.cell 0
  have z1 : W2.cell? ⟨w.heap.size, 1, none⟩ = some (.int .i32 e.val) := bx.cell 1
  have z2 : W2.cell? ⟨w.heap.size, 2, none⟩ = some (.int .u64 (e.fr : Int)) := bx.cell 2
  have z3 : W2.cell? ⟨w.heap.size, 3, none⟩ = some (.int .u64 (e.till : Int)) := bx.cell 3
  have z4 : W2.cell? ⟨w.heap.size, 4, none⟩ = some (.bool e.op) := bx.cell 4
  have z5 : W2.cell? ⟨w.heap.size, 5, none⟩ = some (.int .u64 (e.kn : Int)) := bx.cell 5
  have hg2 : g < W2.heap.size := World.block_lt_of_cell? W2 _ d5
  have qb : ∀ o : Obj, (W2.alloc o).cell? ⟨g, k * 8 + 5, none⟩ = some (.slice av l.length cv) := fun o => hold_al d5
  have HROW : Hid (∀ o : Obj, Row ((W2.alloc o).drew) 227 7 (.slice av l.length cv) l.length (l.flatMap Go.Proofs.YtpfcacedpkaihaaGreat.heldC)) := fun o => by rw [← hv, hll]; exact (hb3.1.ents nd2 (List.mem_of_getElem? hn2)).kept ((Kept.alloc W2 o (fun _ => False)).drew) (fun _ _ => id)
  have HAP : Hid (∀ (o : Obj) (w' : World) (v' : Value), Appended ((W2.alloc o).drew) w' 227 7 (.slice av l.length cv) v' l.length 1 (l.flatMap Go.Proofs.YtpfcacedpkaihaaGreat.heldC) (Go.Proofs.YtpfcacedpkaihaaGreat.heldC ⟨e, nd.p.uses + 1⟩) → w'.cell? ⟨g, k * 8 + 5, none⟩ = some (.slice av l.length cv) ∧ w'.frozen? ⟨g, k * 8 + 5, none⟩ = false ∧ Hid (Turns w b D k (nd.p.lay e) (w'.setCell ⟨g, k * 8 + 5, none⟩ v'))) := fun o w' v' hA => by
   obtain ⟨q1, q2, q3⟩ := hb3.1.appIn hn2 HN.out.2 2 ⟨227, 7, nd2.en, nd2.p.ents.length, nd2.p.ents.flatMap Go.Proofs.YtpfcacedpkaihaaGreat.heldC⟩ rfl hv ((Kept.alloc W2 o (fun _ => False)).drew) hA
   have s := hb3.1.putEnts hn2 HN.out.2 (l ++ [⟨e, nd.p.uses + 1⟩]) v' (by rw [hv]; exact q3.kept) (row_snoc q3.row) (fun x hx => by rw [hv]; exact q3.new x hx)
   rw [putN_putN] at s
   refine ⟨by rw [← hv]; exact q1 5 _ (by omega) rfl, q2 _, ⟨_, ?_, hb3.trans s⟩⟩
   rw [HLAY.out, hll, hnd2]
   dsimp only
   rw [e1]
   rfl
  have b1 : l.length + 1 ≤ maxLen := by unfold maxLen; omega
  have b2 : (l.length + 1) * 64 ≤ 140737488355328 := by omega
  clear hb1 hb2 hb3 hn1 hn2 bx hv hll hnd2 e1 u6 g6
  go_region_law (refine step_append_mine rfl (.tmp 31) (.tmp 38) 131 rfl 227 i0 (.agg #[.string ByteArray.empty, .int .i32 0, .int .u64 0, .int .u64 0, .bool false, .int .u64 0, .int .u64 0]) 7 64 Tryz.underlying131 HI.out.1 HI.out.2.1 HI.out.2.2.1 HI.out.2.2.2 rfl (Nat.succ_pos 6) (.slice av l.length cv) l.length (l.flatMap Go.Proofs.YtpfcacedpkaihaaGreat.heldC) rfl (HROW.out _) ⟨W2.heap.size, 0, none⟩ 1 1 (Go.Proofs.YtpfcacedpkaihaaGreat.heldC ⟨e, nd.p.uses + 1⟩) rfl rfl (fun j u hj => news_held W2 ⟨e, nd.p.uses + 1⟩ _ j u hj) (oneCell_held ⟨e, nd.p.uses + 1⟩) b1 b2 ?_; intro v' w' hA; obtain ⟨p1, p2, p4⟩ := HAP.out _ _ _ hA; obtain ⟨ao', cap', hv', _⟩ := hA.row.form; clear hA; subst hv')
  all_goals
   clear p1 p2 qb
   go_wp2
   go_end0
   exact ⟨rfl, p4⟩
 · have hd : decide (nd.p.room ≤ (nd.p.ents.length : Int)) = false := by simpa using hf
  have HLAY : Hid (nd.p.lay e = nd.p.lay0 e) := by show _ = _; rw [NodeP.lay, if_neg hf]
  have HLEN : Hid (nd.p.ents.length ≤ 1000) := by show _ ≤ _; omega
  have HTK : Hid (∀ W, Kept (fun _ => False) w W → Turns w b D k nd.p W) := fun W hW => Turns.of_kept h hnd hW
  have c6 : w.cell? ⟨g, k * 8 + 6, none⟩ = some (.int .u64 (nd.p.uses : Int)) := h.nodeC hnd ho 6 (by omega) _ rfl
  have HF6 : Hid (∀ W, Kept (fun _ => False) w W → W.frozen? ⟨g, k * 8 + 6, none⟩ = false) := fun W hW => (HDA.out W hW).nodeF ho _
  clear h hnd ho
  go_enter Tryz.func145, Tryz.ntmps145
  go_wp2_with fail
  generalize hW : w.alloc (.cells #[.string e.q, .int .i32 e.val, .int .u64 (e.fr : Int), .int .u64 (e.till : Int), .bool e.op, .int .u64 (e.kn : Int)] 55) = W at HB0 ⊢
  have kW : Kept (fun _ => False) w W := by rw [← hW]; exact Kept.alloc _ _ _
  have d5 := kW.hold c5
  have d1 := kW.hold c1
  have u6' := kW.hold c6
  have g6' := HF6.out W kW
  have hsz : w.heap.size < W.heap.size := by rw [← hW]; simp
  have HKW : Hid (Kept (fun _ => False) w W) := kW
  clear hW kW
  go_quiet (fail)
  have HT1 : Hid (Turns w b D k nd.p (W.drewN nq)) := HTK.out _ (HKW.out.drewN _)
  have HBX : Hid (Blk (W.drewN nq) w.heap.size 55 #[.string e.q, .int .i32 e.val, .int .u64 (e.fr : Int), .int .u64 (e.till : Int), .bool e.op, .int .u64 (e.kn : Int)]) := HB0.out
  generalize W.drewN nq = W1 at HT1 HBX ⊢
  clear d5 d1 u6' g6'
  obtain ⟨nd1, e1, hb1⟩ := HT1.out
  have hn1 := putN_at nd1 HN.out.1
  have u6 : W1.cell? ⟨g, k * 8 + 6, none⟩ = some (.int .u64 (nd.p.uses : Int)) := by have := hb1.1.nodeC hn1 HN.out.2 6 (by omega) _ rfl; rw [e1] at this; exact this
  have g6 : W1.frozen? ⟨g, k * 8 + 6, none⟩ = false := hb1.1.nodeF HN.out.2 _
  have hb2 := hb1.1.cellN hn1 HN.out.2 6 (by omega) (.int .u64 ((nd.p.uses : Int) + 1)) (y := { nd1 with p := { nd1.p with uses := nd.p.uses + 1 } }) rfl rfl
  rw [putN_putN] at hb2
  have hb3 := hb1.trans hb2
  obtain ⟨nd2, hnd2⟩ : ∃ nd2 : DNodeE, nd2 = { nd1 with p := { nd1.p with uses := nd.p.uses + 1 } } := ⟨_, rfl⟩
  rw [← hnd2] at hb3
  have hn2 := putN_at nd2 HN.out.1
  have bx := HBX.out.kept (Kept.setCell W1 ⟨g, k * 8 + 6, none⟩ (.int .u64 ((nd.p.uses : Int) + 1))) (by simp only; omega)
  go_wp2_with fail
  generalize W1.setCell ⟨g, k * 8 + 6, none⟩ (.int .u64 ((nd.p.uses : Int) + 1)) = W2 at hb3 bx ⊢
  obtain ⟨l, hll⟩ : ∃ l, l = nd2.p.ents := ⟨_, rfl⟩
  obtain ⟨av, cv, hv, _⟩ := (hb3.1.ents nd2 (List.mem_of_getElem? hn2)).form
  rw [← hll] at hv
  have hln : l.length ≤ 1000 := by rw [hll, hnd2]; exact (by rw [e1]; exact HLEN.out)
  have d5 : W2.cell? ⟨g, k * 8 + 5, none⟩ = some (.slice av l.length cv) := by rw [← hv]; exact hb3.1.nodeC hn2 HN.out.2 5 (by omega) _ rfl
  have d6 : W2.cell? ⟨g, k * 8 + 6, none⟩ = some (.int .u64 ((nd.p.uses : Int) + 1)) := by have := hb3.1.nodeC hn2 HN.out.2 6 (by omega) _ rfl; rw [hnd2] at this; exact this
  have z0 : W2.cell? ⟨w.heap.size, 0, none⟩ = some (.string e.q) := bx.cell 0
  have z1 : W2.cell? ⟨w.heap.size, 1, none⟩ = some (.int .i32 e.val) := bx.cell 1
  have z2 : W2.cell? ⟨w.heap.size, 2, none⟩ = some (.int .u64 (e.fr : Int)) := bx.cell 2
  have z3 : W2.cell? ⟨w.heap.size, 3, none⟩ = some (.int .u64 (e.till : Int)) := bx.cell 3
  have z4 : W2.cell? ⟨w.heap.size, 4, none⟩ = some (.bool e.op) := bx.cell 4
  have z5 : W2.cell? ⟨w.heap.size, 5, none⟩ = some (.int .u64 (e.kn : Int)) := bx.cell 5
  have hg2 : g < W2.heap.size := World.block_lt_of_cell? W2 _ d5
  have qb : ∀ o : Obj, (W2.alloc o).cell? ⟨g, k * 8 + 5, none⟩ = some (.slice av l.length cv) := fun o => hold_al d5
  have HROW : Hid (∀ o : Obj, Row ((W2.alloc o).drew) 227 7 (.slice av l.length cv) l.length (l.flatMap Go.Proofs.YtpfcacedpkaihaaGreat.heldC)) := fun o => by rw [← hv, hll]; exact (hb3.1.ents nd2 (List.mem_of_getElem? hn2)).kept ((Kept.alloc W2 o (fun _ => False)).drew) (fun _ _ => id)
  have HAP : Hid (∀ (o : Obj) (w' : World) (v' : Value), Appended ((W2.alloc o).drew) w' 227 7 (.slice av l.length cv) v' l.length 1 (l.flatMap Go.Proofs.YtpfcacedpkaihaaGreat.heldC) (Go.Proofs.YtpfcacedpkaihaaGreat.heldC ⟨e, nd.p.uses + 1⟩) → w'.cell? ⟨g, k * 8 + 5, none⟩ = some (.slice av l.length cv) ∧ w'.frozen? ⟨g, k * 8 + 5, none⟩ = false ∧ Hid (Turns w b D k (nd.p.lay e) (w'.setCell ⟨g, k * 8 + 5, none⟩ v'))) := fun o w' v' hA => by
   obtain ⟨q1, q2, q3⟩ := hb3.1.appIn hn2 HN.out.2 2 ⟨227, 7, nd2.en, nd2.p.ents.length, nd2.p.ents.flatMap Go.Proofs.YtpfcacedpkaihaaGreat.heldC⟩ rfl hv ((Kept.alloc W2 o (fun _ => False)).drew) hA
   have s := hb3.1.putEnts hn2 HN.out.2 (l ++ [⟨e, nd.p.uses + 1⟩]) v' (by rw [hv]; exact q3.kept) (row_snoc q3.row) (fun x hx => by rw [hv]; exact q3.new x hx)
   rw [putN_putN] at s
   refine ⟨by rw [← hv]; exact q1 5 _ (by omega) rfl, q2 _, ⟨_, ?_, hb3.trans s⟩⟩
   rw [HLAY.out, hll, hnd2]
   dsimp only
   rw [e1]
   rfl
  have b1 : l.length + 1 ≤ maxLen := by unfold maxLen; omega
  have b2 : (l.length + 1) * 64 ≤ 140737488355328 := by omega
  clear hb1 hb2 hb3 hn1 hn2 bx hv hll hnd2 e1 u6 g6
  go_region_law (refine step_append_mine rfl (.tmp 31) (.tmp 38) 131 rfl 227 i0 (.agg #[.string ByteArray.empty, .int .i32 0, .int .u64 0, .int .u64 0, .bool false, .int .u64 0, .int .u64 0]) 7 64 Tryz.underlying131 HI.out.1 HI.out.2.1 HI.out.2.2.1 HI.out.2.2.2 rfl (Nat.succ_pos 6) (.slice av l.length cv) l.length (l.flatMap Go.Proofs.YtpfcacedpkaihaaGreat.heldC) rfl (HROW.out _) ⟨W2.heap.size, 0, none⟩ 1 1 (Go.Proofs.YtpfcacedpkaihaaGreat.heldC ⟨e, nd.p.uses + 1⟩) rfl rfl (fun j u hj => news_held W2 ⟨e, nd.p.uses + 1⟩ _ j u hj) (oneCell_held ⟨e, nd.p.uses + 1⟩) b1 b2 ?_; intro v' w' hA; obtain ⟨p1, p2, p4⟩ := HAP.out _ _ _ hA; obtain ⟨ao', cap', hv', _⟩ := hA.row.form; clear hA; subst hv')
  all_goals
   clear p1 p2 qb
   go_wp2
   go_end0
   exact ⟨rfl, p4⟩
end Go.Proofs.YtpfcacedpkaihaaGreat
