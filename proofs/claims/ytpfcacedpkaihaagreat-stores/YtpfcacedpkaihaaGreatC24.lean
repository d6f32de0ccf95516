import Derived.Test.YtpfcacedpkaihaaGreatC23
import Derived.Test.YtpfcacedpkaihaaGreatC3
namespace Go.Proofs.YtpfcacedpkaihaaGreat
open Go.RowKit
set_option maxRecDepth 100000
set_option maxHeartbeats 16000000
def FullPost (w : World) (e : Ending) (w' : World) : Prop := e = .returned (.tuple #[.int .u64 0, .int .i64 6]) ∧ w = w'
theorem rcommit_full (w : World) (b : Nat) (R : RefS) (ao : Option Addr) (n cap : Nat) (ws : List (Int × Int)) (h : Ref w b R) (hf : R.Fit) (hw : Wr w ao n ws) (hn : n ≤ 8) (hk : ws.all keyOk = true) (h7 : R.past.length = 701) :
  Calls Tryz.prog 29 #[.pointer (some ⟨b, 0, none⟩), .slice ao n cap] w fun e w' => FullPost w e w' := by
 have HW : Hid (Wr w ao n ws) := hw
 have HB : Hid (∀ j (h : j < ws.length), 0 ≤ ws[j].1 ∧ ws[j].1 < 8) := by
  intro j hj
  have := List.all_eq_true.mp hk _ (List.getElem_mem hj)
  simpa [keyOk] using this
 have hl := hw.len
 have HNW : Hid (Calls Tryz.prog 77 #[.pointer (some ⟨b, 0, none⟩)] w fun e w' => e = .returned (.int .u64 700) ∧ w = w') := by
  have := rnewest w b R h hf
  rw [h7] at this
  exact this
 clear hw hk h hf h7
 go_enter Tryz.func29, Tryz.ntmps29
 go_wp2
 go_loop [6] (fun i => ∃ k : Nat, k ≤ n ∧ i = .int .i64 k) (fun i => n - (intOf i).toNat)
 case atStart => exact ⟨0, Nat.zero_le _, rfl⟩
 case round =>
  obtain ⟨k, hkn, rfl⟩ := hrel
  by_cases hlt : k < n
  · have hlt' : k < ws.length := by omega
   obtain ⟨bl, off, hao, c0, _⟩ := HW.out.cell k hlt'
   obtain ⟨x, hx⟩ : ∃ x, x = ws[k].1 := ⟨_, rfl⟩
   obtain ⟨hx0, hx8⟩ := HB.out k hlt'
   rw [← hx] at c0 hx0 hx8
   subst hao
   clear hx
   have hd : decide (x < 0) = false := by simp; omega
   go_wp2
   go_round
   case rel => exact ⟨k + 1, by omega, by go_num⟩
   case measure => simp [intOf]; omega
  · go_wp2_with (go_at_call 77; refine HNW.out.mono ?_; rintro e w' ⟨rfl, rfl⟩)
   go_ret2
   exact ⟨rfl, rfl⟩
theorem rnew_nodes (n r : Int) (w : World) (h : n < 1 ∨ 3 < n) :
  Calls Tryz.prog 24 #[.int .i64 n, .int .i64 r] w fun e w' => e = .returned (.tuple #[.pointer none, .int .i64 1]) ∧ w = w' := by
 by_cases h0 : n < 1
 · have hd : decide (n < 1) = true := by simpa using h0
  go_enter Tryz.func24, Tryz.ntmps24
  go_wp2
  go_ret2
  exact ⟨rfl, rfl⟩
 · have hd : decide (n < 1) = false := by simpa using h0
  have h3 : 3 < n := by omega
  go_enter Tryz.func24, Tryz.ntmps24
  go_wp2
  go_ret2
  exact ⟨rfl, rfl⟩
theorem rnew_room (n r : Int) (w : World) (h1 : 1 ≤ n) (h2 : n ≤ 3) (h : r < 1 ∨ 6 < r) :
  Calls Tryz.prog 24 #[.int .i64 n, .int .i64 r] w fun e w' => e = .returned (.tuple #[.pointer none, .int .i64 2]) ∧ w = w' := by
 have hd0 : decide (n < 1) = false := by simp; omega
 by_cases h0 : r < 1
 · have hd : decide (r < 1) = true := by simpa using h0
  go_enter Tryz.func24, Tryz.ntmps24
  go_wp2
  go_ret2
  exact ⟨rfl, rfl⟩
 · have hd : decide (r < 1) = false := by simpa using h0
  have h6 : 6 < r := by omega
  go_enter Tryz.func24, Tryz.ntmps24
  go_wp2
  go_ret2
  exact ⟨rfl, rfl⟩
def upN : NodeE := { zeroN with up := true }
def newR (room : Int) (k : Nat) (vp vn : Value) : RefS := ⟨[zeroP], 0, [], List.replicate k upN, room, 0, [], [], vp, nilV, vn, nilV, nilV⟩
theorem Tryz.infoNode : (Tryz.prog.info? 146).map (fun i => (i.zero, i.size, i.bytes)) = some (some (.agg #[.bool false, .int .u64 0, .int .u64 0, .slice none 0 0, .slice none 0 0, .slice none 0 0, .slice none 0 0]), 7, 120) := by kernel_rfl
structure NewL (w wr : World) (room : Int) (k : Nat) (vp vn : Value) : Prop where
 ref : Ref wr w.heap.size (newR room k vp vn)
 kept : Kept (fun _ => False) w wr
 new : ∀ x, (newR room k vp vn).fp w.heap.size x → w.heap.size ≤ x
theorem upN_nil : ∀ r ∈ nodeR upN, r.v = .slice none 0 0 ∧ r.n = 0 ∧ r.xs = [] := by
 intro r hr
 simp only [nodeR, upN, zeroN, List.mem_cons, List.not_mem_nil, or_false] at hr
 rcases hr with rfl | rfl | rfl | rfl <;> exact ⟨rfl, rfl, rfl⟩
theorem NewL.start (w : World) (room : Int) {w' : World} {v : Value} {o : Obj}
  (hA : Appended ((w.alloc (.cells #[.slice none 0 0, .int .i64 0, .slice none 0 0, .slice none 0 0, .int .i64 room, .slice none 0 0, .slice none 0 0, .int .i64 0] 84)).alloc o) w' 143 10 (.slice none 0 0) v 0 1 [] (pastC zeroP)) :
  NewL w (w'.setCell ⟨w.heap.size, 0, none⟩ v) room 0 v nilV := by
 have hnil : ∀ r ∈ (⟨[], 0, [], [], room, 0, [], [], nilV, nilV, nilV, nilV, nilV⟩ : RefS).rows, r.v = .slice none 0 0 ∧ r.n = 0 ∧ r.xs = [] := by
  intro r hr
  simp only [RefS.rows, List.flatMap_nil, List.mem_cons, List.not_mem_nil, or_false] at hr
  rcases hr with rfl | rfl | rfl | rfl | rfl <;> exact ⟨rfl, rfl, rfl⟩
 have h0 : Ref (w.alloc (.cells #[.slice none 0 0, .int .i64 0, .slice none 0 0, .slice none 0 0, .int .i64 room, .slice none 0 0, .slice none 0 0, .int .i64 0] 84)) w.heap.size ⟨[], 0, [], [], room, 0, [], [], nilV, nilV, nilV, nilV, nilV⟩ :=
  ⟨Blk.new _ _ _, rows_nil hnil⟩
 obtain ⟨z1, z2, z3⟩ := h0.pushP zeroP v hA.of_alloc
 have hfp : ∀ x, (⟨[], 0, [], [], room, 0, [], [], nilV, nilV, nilV, nilV, nilV⟩ : RefS).fp w.heap.size x → x = w.heap.size := by
  rintro x (rfl | ⟨r, hr, hx⟩)
  · rfl
  · rw [(hnil r hr).1] at hx; simp [Value.ownBlock] at hx
 refine ⟨z1, (Kept.alloc w _ (fun _ => False)).trans z2 (fun _ => id) (fun x hx hf => ?_), fun x hx => ?_⟩
 · have := hfp x hf; omega
 · rcases z3 x hx with h | h
  · rw [hfp x h]; exact Nat.le_refl _
  · simp at h; omega
theorem NewL.next {w wr w' : World} {room : Int} {k : Nat} {vp vn v : Value} {o : Obj} (h : NewL w wr room k vp vn) (hA : Appended (wr.alloc o) w' 146 7 vn v k 1 ((List.replicate k upN).flatMap nodeC) (nodeC upN)) :
  NewL w (w'.setCell ⟨w.heap.size, 3, none⟩ v) room (k + 1) vp v := by
 have hA := hA.of_alloc
 have r := h.ref
 have k1 := hA.kept
 have k2 := Kept.setCell w' ⟨w.heap.size, 3, none⟩ v
 have ownv : ∀ x, v.ownBlock = some x → vn.ownBlock = some x ∨ wr.heap.size ≤ x := fun x hx => hA.own.imp (fun e => by rw [← e]; exact hx) (fun e => e x hx)
 have blk1 : Blk w' w.heap.size _ _ := r.blk.kept k1 fun he => r.nodes.ne_block r.blk (by decide) he
 have hn : RowD.Is w' ⟨146, 7, v, (List.replicate (k + 1) upN).length, (List.replicate (k + 1) upN).flatMap nodeC⟩ := by
  show Row w' _ 7 v (List.replicate (k + 1) upN).length ((List.replicate (k + 1) upN).flatMap nodeC)
  rw [List.length_replicate, List.replicate_succ', List.flatMap_append]
  simpa using hA.row
 have all1 := (r.all.put 2 (newR room k vp vn).nodeD ⟨146, 7, v, (List.replicate (k + 1) upN).length, (List.replicate (k + 1) upN).flatMap nodeC⟩ rfl k1 hn ownv).more upN_nil
 have er : (newR room (k + 1) vp v).rows = ((newR room k vp vn).rows.set 2 ⟨146, 7, v, (List.replicate (k + 1) upN).length, (List.replicate (k + 1) upN).flatMap nodeC⟩) ++ nodeR upN := by
  show _ :: _ :: _ :: _ :: _ :: (List.replicate (k + 1) upN).flatMap nodeR = _ :: _ :: _ :: _ :: _ :: ((List.replicate k upN).flatMap nodeR ++ nodeR upN)
  have e : (List.replicate (k + 1) upN).flatMap nodeR = (List.replicate k upN).flatMap nodeR ++ nodeR upN := by rw [List.replicate_succ', List.flatMap_append]; simp
  rw [e]; rfl
 have mem : ∀ a ∈ (newR room (k + 1) vp v).rows, ∀ x, a.v.ownBlock = some x → w.heap.size ≤ x := by
  intro a ha x hx
  rw [er] at ha
  rcases List.mem_append.mp ha with ha | ha
  · rcases List.mem_or_eq_of_mem_set ha with ha | rfl
   · exact h.new x (.inr ⟨a, ha, hx⟩)
   · rcases ownv x hx with e | e
    · exact h.new x (fp_vn e)
    · exact Nat.le_trans h.kept.size e
  · rw [(upN_nil a ha).1] at hx; simp [Value.ownBlock] at hx
 refine ⟨⟨blk1.set 3 v, ?_⟩, h.kept.trans (k1.trans k2 (H := fun x => vn.ownBlock = some x ∨ x = w.heap.size) (fun x hx => .inl hx) (fun x _ hx => .inr hx)) (fun _ => id) (fun x hx hf => ?_), ?_⟩
 · rw [er]
  refine all1.kept k2 ?_
  rintro j ⟨a, ha, hj⟩ he
  subst he
  exact (all1.row a ha).ne_block blk1 (rows_ne_world (R := newR room (k + 1) vp v) (by rw [er]; exact ha)) hj
 · rcases hf with hf | hf
  · have := h.new x (fp_vn hf); omega
  · omega
 · rintro x (rfl | ⟨a, ha, hx⟩)
  · exact Nat.le_refl _
  · exact mem a ha x hx
theorem oneCell_node : ∀ u ∈ nodeC upN, u.oneCell' = true := by
 intro u hu; simp [nodeC, upN, zeroN] at hu; rcases hu with rfl | rfl | rfl <;> rfl
theorem news_node (w : World) (t : TypeId) : ∀ j u, (nodeC upN)[j]? = some u → (w.alloc (.cells #[.bool true, .int .u64 0, .int .u64 0, .slice none 0 0, .slice none 0 0, .slice none 0 0, .slice none 0 0] t)).cell? ((⟨w.heap.size, 0, none⟩ : Addr).add j) = some u := by
 intro j u hj
 have e : (⟨w.heap.size, 0, none⟩ : Addr).add j = ⟨w.heap.size, j, none⟩ := by cases j <;> simp [Addr.add]
 rw [e, World.cell?_alloc_at _ _ _ _ rfl]
 simpa [nodeC, upN, zeroN] using hj
def NewPost (w : World) (n : Nat) (room : Int) (e : Ending) (w' : World) : Prop :=
 e = .returned (.tuple #[.pointer (some ⟨w.heap.size, 0, none⟩), .int .i64 0]) ∧ ∃ vp vn, NewL w w' room n vp vn
theorem news_zero (w : World) (o : Obj) (t : TypeId) : ∀ j u, (pastC zeroP)[j]? = some u → ((w.alloc o).alloc (.cells #[.int .i32 0, .int .i32 0, .int .i32 0, .int .i32 0, .int .i32 0, .int .i32 0, .int .i32 0, .int .i32 0, .int .u8 0, .int .i64 0] t)).cell? ((⟨w.heap.size + 1, 0, none⟩ : Addr).add j) = some u := by
 intro j u hj
 have e : (⟨w.heap.size + 1, 0, none⟩ : Addr).add j = ⟨w.heap.size + 1, j, none⟩ := by cases j <;> simp [Addr.add]
 rw [e, World.cell?_alloc_at _ _ _ _ (by simp)]
 simpa [pastC, zeroP] using hj
theorem rnew (n : Nat) (r : Int) (w : World) (h1 : 1 ≤ n) (h2 : n ≤ 3) (h3 : 1 ≤ r) (h4 : r ≤ 6) :
  Calls Tryz.prog 24 #[.int .i64 n, .int .i64 r] w fun e w' => NewPost w n r e w' := by
 have hd0 : decide ((n : Int) < 1) = false := by simp; omega
 have hd1 : decide (r < 1) = false := by simp; omega
 obtain ⟨i0, hi, hz0, hz1, hz2⟩ := info_parts Tryz.infoPast
 have HI : Hid (Tryz.prog.info? 143 = some i0 ∧ i0.zero = some (.agg #[.int .i32 0, .int .i32 0, .int .i32 0, .int .i32 0, .int .i32 0, .int .i32 0, .int .i32 0, .int .i32 0, .int .u8 0, .int .i64 0]) ∧ i0.size = 10 ∧ i0.bytes = 48) := ⟨hi, hz0, hz1, hz2⟩
 clear hi hz0 hz1 hz2
 obtain ⟨i1, hi, hz0, hz1, hz2⟩ := info_parts Tryz.infoNode
 have HN : Hid (Tryz.prog.info? 146 = some i1 ∧ i1.zero = some (.agg #[.bool false, .int .u64 0, .int .u64 0, .slice none 0 0, .slice none 0 0, .slice none 0 0, .slice none 0 0]) ∧ i1.size = 7 ∧ i1.bytes = 120) := ⟨hi, hz0, hz1, hz2⟩
 clear hi hz0 hz1 hz2
 go_enter Tryz.func24, Tryz.ntmps24
 go_wp2_with (at_builtin; go_must (refine wpList_append_mine _ rfl (.tmp 27) (.tmp 29) 80 rfl 143 i0 (.agg #[.int .i32 0, .int .i32 0, .int .i32 0, .int .i32 0, .int .i32 0, .int .i32 0, .int .i32 0, .int .i32 0, .int .u8 0, .int .i64 0]) 10 48 Tryz.underlying80 HI.out.1 HI.out.2.1 HI.out.2.2.1 HI.out.2.2.2 rfl (by decide) (.slice none 0 0) 0 [] rfl (Row.nil _ _ _) ⟨w.heap.size + 1, 0, none⟩ 1 1 (pastC zeroP) rfl rfl (news_zero w _ _) (oneCell_past zeroP) (by unfold maxLen; omega) (by omega) ?_); intro v' w1 hA; have HS : Hid (NewL w (w1.setCell ⟨w.heap.size, 0, none⟩ v') r 0 v' nilV) := NewL.start w r hA; have hb1 := (hA.kept.block w.heap.size (by simp; omega) (by simp [Value.ownBlock])); have hc0 : w1.cell? ⟨w.heap.size, 0, none⟩ = some (.slice none 0 0) := (World.cell?_of_block (a := ⟨w.heap.size, 0, none⟩) hb1).trans (by simp [go_sem]); have hf0 : w1.frozen? ⟨w.heap.size, 0, none⟩ = false := (World.frozen?_of_block (a := ⟨w.heap.size, 0, none⟩) hb1).trans (by simp [go_sem]); clear hb1; obtain ⟨ao', cap', hv', _⟩ := hA.row.form; clear hA; subst hv')
 go_loopw [7] (fun i wr => ∃ k : Nat, k ≤ n ∧ i = .int .i64 k ∧ Hid (∃ vp vn, NewL w wr r k vp vn)) (fun i _ => n - (intOf i).toNat)
 case atStart => exact ⟨0, Nat.zero_le _, rfl, _, _, HS.out⟩
 case round =>
  obtain ⟨k, hk, rfl, HL⟩ := hrel
  obtain ⟨vp, vn, hL⟩ := HL.out
  obtain ⟨ao, cap, hvn, _⟩ := hL.ref.nodes.form
  have hvn' : vn = .slice ao k cap := by have : (newR r k vp vn).nodes.length = k := by simp [newR]
                                         rw [this] at hvn; exact hvn
  subst hvn'
  have c3 : wr.cell? ⟨w.heap.size, 3, none⟩ = some (.slice ao k cap) := hL.ref.c3
  have f3 := hL.ref.blk.free 3
  have hz := hL.ref.blk.lt
  have HLL : Hid (NewL w wr r k vp (.slice ao k cap)) := hL
  have HROW : Hid (∀ o : Obj, Row (wr.alloc o) 146 7 (.slice ao k cap) k ((List.replicate k upN).flatMap nodeC)) := fun o => by
   have := hL.ref.nodes.kept (Kept.alloc wr o (fun _ => False)) (fun _ _ => id)
   have e : (newR r k vp (.slice ao k cap)).nodes.length = k := by simp [newR]
   rw [e] at this
   exact this
  have HAFT : Hid (∀ (o : Obj) (w' : World) (v' : Value), Appended (wr.alloc o) w' 146 7 (.slice ao k cap) v' k 1 ((List.replicate k upN).flatMap nodeC) (nodeC upN) → w'.cell? ⟨w.heap.size, 3, none⟩ = some (.slice ao k cap) ∧ w'.frozen? ⟨w.heap.size, 3, none⟩ = false) := by
   intro o w' v' hA
   have bb := hL.ref.blk.kept hA.of_alloc.kept fun he => hL.ref.nodes.ne_block hL.ref.blk (by decide) he
   exact ⟨bb.cell 3, bb.free 3⟩
  clear hL hvn
  by_cases hlt : k < n
  · go_wp2_with (at_builtin; go_must (refine wpList_append_mine _ rfl (.tmp 42) (.tmp 44) 82 rfl 146 i1 (.agg #[.bool false, .int .u64 0, .int .u64 0, .slice none 0 0, .slice none 0 0, .slice none 0 0, .slice none 0 0]) 7 120 Tryz.underlying82 HN.out.1 HN.out.2.1 HN.out.2.2.1 HN.out.2.2.2 rfl (by decide) (.slice ao k cap) k ((List.replicate k upN).flatMap nodeC) rfl (HROW.out _) ⟨wr.heap.size, 0, none⟩ 1 1 (nodeC upN) rfl rfl (news_node wr _) oneCell_node (by unfold maxLen; omega) (by omega) ?_); intro v' w1 hA; obtain ⟨x3, y3⟩ := HAFT.out _ _ _ hA; have HNX : Hid (NewL w (w1.setCell ⟨w.heap.size, 3, none⟩ v') r (k + 1) vp v') := HLL.out.next hA; obtain ⟨ao', cap', hv', _⟩ := hA.row.form; clear hA; subst hv')
   go_roundw
   case rel => exact ⟨k + 1, by omega, by go_num, vp, _, HNX.out⟩
   case measure => simp [intOf]; omega
  · have hkk : k = n := by omega
   subst hkk
   go_wp2
   go_ret2
   exact ⟨rfl, vp, _, HLL.out⟩
theorem Ref.c5 {w : World} {b : Nat} {R : RefS} (h : Ref w b R) : w.cell? ⟨b, 5, none⟩ = some R.vu := h.blk.cell 5
def RefS.setPuts (R : RefS) (l : List EntE) (v : Value) : RefS := { R with puts := l, vu := v }
theorem Ref.setPuts {w w' : World} {b : Nat} {R : RefS} (h : Ref w b R) (l : List EntE) (v : Value) (k : Kept (fun _ => False) w w') (hr : Row w' 55 6 v l.length (l.flatMap entC)) (hown : ∀ x, v.ownBlock = some x → w.heap.size ≤ x) :
  Ref (w'.setCell ⟨b, 5, none⟩ v) b (R.setPuts l v) ∧ Kept (R.fp b) w (w'.setCell ⟨b, 5, none⟩ v) ∧ (∀ x, (R.setPuts l v).fp b x → R.fp b x ∨ w.heap.size ≤ x) :=
 h.put 3 5 ⟨55, 6, R.vu, R.puts.length, R.puts.flatMap entC⟩ ⟨55, 6, v, l.length, l.flatMap entC⟩ rfl (k.mono fun _ => False.elim) hr (fun x hx => .inr (hown x hx)) rfl (by dsimp only; decide) rfl
def DropPost (w : World) (b : Nat) (R : RefS) (i : Int) (e : Ending) (w' : World) : Prop :=
 ((i < 0 ∨ (R.puts.length : Int) ≤ i) ∧ e = .returned (.int .i64 10) ∧ w = w') ∨
 (0 ≤ i ∧ i < (R.puts.length : Int) ∧ e = .returned (.int .i64 0) ∧ ∃ v, Ref w' b (R.setPuts (R.puts.eraseIdx i.toNat) v) ∧ Kept (R.fp b) w w' ∧ (∀ x, (R.setPuts (R.puts.eraseIdx i.toNat) v).fp b x → R.fp b x ∨ w.heap.size ≤ x))
theorem rdrop (w : World) (b : Nat) (R : RefS) (i : Int) (h : Ref w b R) (hp : R.puts.length ≤ 10) :
  Calls Tryz.prog 44 #[.pointer (some ⟨b, 0, none⟩), .int .i64 i] w fun e w' => DropPost w b R i e w' := by
 obtain ⟨ao, cap, hv, _⟩ := h.puts.form
 have c5 := h.c5
 rw [hv] at c5
 by_cases h0 : i < 0
 · have hd : decide (i < 0) = true := by simpa using h0
  clear h hv
  go_enter Tryz.func44, Tryz.ntmps44
  go_wp2
  go_ret
  exact .inl ⟨.inl h0, rfl, rfl⟩
 · have hd : decide (i < 0) = false := by simpa using h0
  by_cases h1 : (R.puts.length : Int) ≤ i
  · have hd1 : decide ((R.puts.length : Int) ≤ i) = true := by simpa using h1
   clear h hv
   go_enter Tryz.func44, Tryz.ntmps44
   go_wp2
   go_ret
   exact .inl ⟨.inr h1, rfl, rfl⟩
  · have hd1 : decide ((R.puts.length : Int) ≤ i) = false := by simpa using h1
   obtain ⟨j, rfl⟩ : ∃ j : Nat, i = j := ⟨i.toNat, by omega⟩
   have hjl : j < R.puts.length := by omega
   rcases h.puts.shape with ⟨_, hn, _⟩ | ⟨g, cp, cur, hv', hb, hcp, hcm, _⟩
   · omega
   rw [hv] at hv'
   injection hv' with e1 _ e2
   subst e1
   subst e2
   have hrow := h.puts
   rw [hv] at hrow
   have HWO : Hid (Calls Tryz.prog 100 #[.slice (some ⟨g, 0, none⟩) R.puts.length cap, .int .i64 j] w fun e w' => WithoutPost w R.puts.length (R.puts.eraseIdx j) e w') := rwithout w g R.puts.length cap j R.puts hrow rfl hjl (by omega) hcp hcm
   have HR : Hid (Ref w b R) := h
   have hz := h.blk.lt
   clear h hv hb hrow
   go_enter Tryz.func44, Tryz.ntmps44
   go_wp2_with (go_at_call 100; refine HWO.out.mono ?_; rintro e w1 ⟨v, rfl, hr1, hk1, ho1⟩; have hl1 : (R.puts.eraseIdx j).length = R.puts.length - 1 := List.length_eraseIdx_of_lt hjl; have HS := HR.out.setPuts (R.puts.eraseIdx j) v hk1 (by rw [hl1]; exact hr1) ho1; have HSH : Hid (Ref (w1.setCell ⟨b, 5, none⟩ v) b (R.setPuts (R.puts.eraseIdx j) v) ∧ Kept (R.fp b) w (w1.setCell ⟨b, 5, none⟩ v) ∧ (∀ x, (R.setPuts (R.puts.eraseIdx j) v).fp b x → R.fp b x ∨ w.heap.size ≤ x)) := HS; have bb := (HR.out.blk.kept hk1 id); have k5 : w1.cell? ⟨b, 5, none⟩ = some R.vu := bb.cell 5; have f5 := bb.free 5; obtain ⟨ao', cap', hv', _⟩ := hr1.form; clear bb hr1 hk1 ho1 HS hl1; subst hv')
   go_ret
   exact .inr ⟨by omega, by omega, rfl, _, HSH.out⟩
theorem ranswering_none (w : World) (up : Bool) (since hz : Nat) (fl wt nm : Value) (ao : Option Addr) (cap : Nat) (q : ByteArray) (lo hi : Nat) :
  Calls Tryz.prog 94 #[.agg #[.bool up, .int .u64 since, .int .u64 hz, fl, wt, .slice ao 0 cap, nm], .string q, .agg #[.int .u64 lo, .int .u64 hi]] w fun e w' =>
   e = .returned (.int .i64 (-1)) ∧ Below w.heap.size w w' := by
 go_enter Tryz.func94, Tryz.ntmps94
 go_wp2
 go_loopw [7, 8] (fun v i wr => v = .int .i64 (-1) ∧ i = .int .i64 0 ∧ wr = (w.alloc (.cells #[.bool up, .int .u64 since, .int .u64 hz, fl, wt, .slice ao 0 cap, nm] 146)).alloc (.cells #[.int .u64 lo, .int .u64 hi] 88)) (fun _ _ _ => 0)
 case atStart => exact ⟨rfl, rfl, rfl⟩
 case round =>
  obtain ⟨rfl, rfl, rfl⟩ := hrel
  go_wp2
  go_ret
  exact ⟨rfl, ((Below.refl _ _).alloc (Nat.le_refl _) _).alloc (by simp) _⟩
structure Making (w wr : World) (P : Nat) (e : EntE) : Prop where
 low : Below w.heap.size w wr
 far : w.heap.size < P
 ans : Blk wr P 55 (entA e)
 res : Blk wr w.heap.size 55 zeroA
theorem Making.put {w wr : World} {P : Nat} {e e' : EntE} (h : Making w wr P e) (f : Nat) (v : Value) (he : (entA e).setIfInBounds f v = entA e') : Making w (wr.setCell ⟨P, f, none⟩ v) P e' :=
 ⟨⟨h.low.os, h.low.tape, h.low.output, by simpa [World.setCell] using h.low.size, fun k hk => ((Kept.setCell wr ⟨P, f, none⟩ v).block k (Nat.lt_of_lt_of_le hk h.low.size) (by have := h.far; simp only; omega)).trans (h.low.block k hk)⟩, h.far, by rw [← he]; exact h.ans.set f v, h.res.kept (Kept.setCell wr ⟨P, f, none⟩ v) (by have := h.far; simp only; omega)⟩
theorem right_first {w w1 : World} {c : Array Value} (h : Below (w.alloc (.cells c 55)).heap.size (w.alloc (.cells c 55)) w1) : Below w.heap.size w w1 ∧ Blk w1 w.heap.size 55 c ∧ w.heap.size < w1.heap.size := by
 have e : (w.alloc (.cells c 55)).heap.size = w.heap.size + 1 := by simp
 have k : Kept (fun _ => False) (w.alloc (.cells c 55)) w1 := Kept.of_below h _
 have hs := k.size
 refine ⟨((Kept.alloc w _ (fun _ => False)).trans k (fun _ => id) (fun _ _ => id)).below (Nat.le_refl _) (fun _ => False.elim), (Blk.new w _ c).kept k id, by omega⟩
theorem right_next {w w1 w2 : World} {c : Array Value} (h1 : Below w.heap.size w w1 ∧ Blk w1 w.heap.size 55 c ∧ w.heap.size < w1.heap.size) (h : Below w1.heap.size w1 w2) : Below w.heap.size w w2 ∧ Blk w2 w.heap.size 55 c ∧ w.heap.size < w2.heap.size := by
 have k : Kept (fun _ => False) w1 w2 := Kept.of_below h _
 have hs := k.size
 refine ⟨((Kept.of_below h1.1 (fun _ => False)).trans k (fun _ => id) (fun _ _ => id)).below (Nat.le_refl _) (fun _ => False.elim), h1.2.1.kept k id, by omega⟩
theorem right_start {w w2 : World} {e : EntE} (h : Below w.heap.size w w2 ∧ Blk w2 w.heap.size 55 zeroA ∧ w.heap.size < w2.heap.size) : Making w (w2.alloc (.cells (entA e) 55)) w2.heap.size e :=
 ⟨((Kept.of_below h.1 (fun _ => False)).trans (Kept.alloc w2 _ (fun _ => False)) (fun _ => id) (fun _ _ => id)).below (Nat.le_refl _) (fun _ => False.elim), h.2.2, Blk.new w2 _ _, h.2.1.kept (Kept.alloc w2 _ (fun _ => False)) id⟩
theorem right_end {w wr : World} {P : Nat} {e : EntE} (h : Making w wr P e) :
  Blk ((((((wr.setCell ⟨w.heap.size, 0, none⟩ (.string e.q)).setCell ⟨w.heap.size, 1, none⟩ (.int .i32 e.val)).setCell ⟨w.heap.size, 2, none⟩ (.int .u64 (e.fr : Int))).setCell ⟨w.heap.size, 3, none⟩ (.int .u64 (e.till : Int))).setCell ⟨w.heap.size, 4, none⟩ (.bool e.op)).setCell ⟨w.heap.size, 5, none⟩ (.int .u64 (e.kn : Int))) w.heap.size 55 (entA e) ∧
  Below w.heap.size w ((((((wr.setCell ⟨w.heap.size, 0, none⟩ (.string e.q)).setCell ⟨w.heap.size, 1, none⟩ (.int .i32 e.val)).setCell ⟨w.heap.size, 2, none⟩ (.int .u64 (e.fr : Int))).setCell ⟨w.heap.size, 3, none⟩ (.int .u64 (e.till : Int))).setCell ⟨w.heap.size, 4, none⟩ (.bool e.op)).setCell ⟨w.heap.size, 5, none⟩ (.int .u64 (e.kn : Int))) := by
 have st : ∀ (a : World) (f : Nat) (v : Value), Kept (fun k => k = w.heap.size) w a → Kept (fun k => k = w.heap.size) w (a.setCell ⟨w.heap.size, f, none⟩ v) := fun a f v ha => ha.trans (Kept.setCell a _ v) (fun _ => id) (fun _ _ hk => hk)
 exact ⟨(((((h.res.set 0 _).set 1 _).set 2 _).set 3 _).set 4 _).set 5 _, (st _ _ _ (st _ _ _ (st _ _ _ (st _ _ _ (st _ _ _ (st _ _ _ (Kept.of_below h.low _))))))).below (Nat.le_refl _) (fun k hk => by omega)⟩
theorem rright (w : World) (b : Nat) (R : RefS) (q : ByteArray) (l : Value) (t : Nat) (p : PastE) (K val : Int) (h : Ref w b R) (hf : R.Fit) (hp : R.past[t]? = some p) (hl : ∃ ao n cap, l = .slice ao n cap)
  (hK : ∀ W, Below w.heap.size w W → Calls Tryz.prog 73 #[l] W fun e w' => e = .returned (.int .u8 K) ∧ Below W.heap.size W w')
  (hW : ∀ W, Below w.heap.size w W → Calls Tryz.prog 140 #[l, .agg #[.int .i32 (p.st 0), .int .i32 (p.st 1), .int .i32 (p.st 2), .int .i32 (p.st 3), .int .i32 (p.st 4), .int .i32 (p.st 5), .int .i32 (p.st 6), .int .i32 (p.st 7)]] W fun e w' => e = .returned (.int .i32 val) ∧ Below W.heap.size W w') :
  Calls Tryz.prog 97 #[.pointer (some ⟨b, 0, none⟩), .string q, l, .int .u64 t] w fun e w' =>
   e = .returned (.agg (entA (rightE R.past q K val t))) ∧ Below w.heap.size w w' := by
 obtain ⟨lo, ln, lc, rfl⟩ := hl
 obtain ⟨hlt, hp'⟩ := List.getElem?_eq_some_iff.mp hp
 have hm := hf.pmax
 obtain ⟨g, cap, hv, ho, _⟩ := h.past.block (by omega)
 have HK : Hid (∀ W, Below w.heap.size w W → Calls Tryz.prog 73 #[.slice lo ln lc] W fun e w' => e = .returned (.int .u8 K) ∧ Below W.heap.size W w') := hK
 have HW : Hid (∀ W, Below w.heap.size w W → Calls Tryz.prog 140 #[.slice lo ln lc, .agg #[.int .i32 (p.st 0), .int .i32 (p.st 1), .int .i32 (p.st 2), .int .i32 (p.st 3), .int .i32 (p.st 4), .int .i32 (p.st 5), .int .i32 (p.st 6), .int .i32 (p.st 7)]] W fun e w' => e = .returned (.int .i32 val) ∧ Below W.heap.size W w') := hW
 have HR : Hid (∀ W, Below w.heap.size w W → Ref W b R) := fun W hb => h.kept (Kept.of_below hb (fun _ => False)) fun _ _ => id
 have HN : Hid (∀ W, Below w.heap.size w W → Calls Tryz.prog 77 #[.pointer (some ⟨b, 0, none⟩)] W fun e w' => e = .returned (.int .u64 ((R.past.length - 1 : Nat) : Int)) ∧ W = w') := fun W hb => rnewest W b R (HR.out W hb) hf
 have HT : Hid (∀ W, Below w.heap.size w W → ∀ f : Nat, f < R.past.length → Calls Tryz.prog 141 #[.pointer (some ⟨b, 0, none⟩), .int .u64 f, .int .u8 K] W fun e w' => e = .returned (.bool (touchB R.past K f)) ∧ W = w') := by
  intro W hb f hf2
  have hq : R.past[f]? = some R.past[f] := List.getElem?_eq_getElem hf2
  rw [touchB_some K hq]
  exact rtouches W b R f K _ (HR.out W hb) hf hq
 have HC : Hid (∀ W, Below w.heap.size w W → W.cell? ⟨b, 0, none⟩ = some (.slice (some ⟨g, 0, none⟩) R.past.length cap) ∧ W.cell? ⟨g, t * 10, none⟩ = some (.int .i32 (p.st 0)) ∧ W.cell? ⟨g, t * 10 + 1, none⟩ = some (.int .i32 (p.st 1)) ∧ W.cell? ⟨g, t * 10 + 2, none⟩ = some (.int .i32 (p.st 2)) ∧ W.cell? ⟨g, t * 10 + 3, none⟩ = some (.int .i32 (p.st 3)) ∧
   W.cell? ⟨g, t * 10 + 4, none⟩ = some (.int .i32 (p.st 4)) ∧ W.cell? ⟨g, t * 10 + 5, none⟩ = some (.int .i32 (p.st 5)) ∧ W.cell? ⟨g, t * 10 + 6, none⟩ = some (.int .i32 (p.st 6)) ∧ W.cell? ⟨g, t * 10 + 7, none⟩ = some (.int .i32 (p.st 7))) := by
  intro W hb
  have hr := HR.out W hb
  have hc : ∀ f, f < 10 → ∀ u, (pastC p)[f]? = some u → W.cell? ⟨g, t * 10 + f, none⟩ = some u := fun f hf u hu => hr.past.cell ho _ u (by rw [past_at R.past t hlt f hf, hp']; exact hu)
  exact ⟨by rw [hr.c0, hv], hc 0 (by omega) _ rfl, hc 1 (by omega) _ rfl, hc 2 (by omega) _ rfl, hc 3 (by omega) _ rfl, hc 4 (by omega) _ rfl, hc 5 (by omega) _ rfl, hc 6 (by omega) _ rfl, hc 7 (by omega) _ rfl⟩
 have hpos := hf.pos
 clear hK hW h hf hp hp' hv ho
 go_enter Tryz.func97, Tryz.ntmps97
 go_wp2_with first
  | (go_at_call 73; refine (HK.out _ ((Below.refl _ _).alloc (Nat.le_refl _) _)).mono ?_; rintro e w1 ⟨rfl, hb1⟩; have HB1 : Hid (Below w.heap.size w w1 ∧ Blk w1 w.heap.size 55 zeroA ∧ w.heap.size < w1.heap.size) := right_first hb1; clear hb1; obtain ⟨c0, s0, s1, s2, s3, s4, s5, s6, s7⟩ := HC.out w1 HB1.out.1)
  | (go_at_call 140; refine (HW.out _ HB1.out.1).mono ?_; rintro e w2 ⟨rfl, hb2⟩; have HB2 : Hid (Below w.heap.size w w2 ∧ Blk w2 w.heap.size 55 zeroA ∧ w.heap.size < w2.heap.size) := right_next HB1.out hb2; clear hb2 c0 s0 s1 s2 s3 s4 s5 s6 s7)
  | (go_at_call 77; refine (HN.out _ HB2.out.1).mono ?_; rintro e w3 ⟨rfl, rfl⟩)
 go_loopw [11] (fun i wr => ∃ f : Nat, f ≤ t ∧ i = .int .u64 (f + 1 : Nat) ∧ Hid (Making w wr w2.heap.size { q := q, val := val, fr := fromN R.past K f, till := 0, op := true, kn := R.past.length - 1 })) (fun i _ => t + 1 - (intOf i).toNat)
 case atStart => exact ⟨0, Nat.zero_le _, rfl, right_start (e := ⟨q, val, 0, 0, true, R.past.length - 1⟩) HB2.out⟩
 case round =>
  obtain ⟨f, hft, rfl, HM⟩ := hrel
  by_cases hlt2 : f < t
  · have f2 := HM.out.ans.free 2
   have a2 : wr.cell? ⟨w2.heap.size, 2, none⟩ = some (.int .u64 (fromN R.past K f : Int)) := HM.out.ans.cell 2
   have HF : Hid (fromN R.past K (f + 1) = if touchB R.past K (f + 1) then f + 1 else fromN R.past K f) := rfl
   have HT1 : Hid (Calls Tryz.prog 141 #[.pointer (some ⟨b, 0, none⟩), .int .u64 ((f + 1 : Nat) : Int), .int .u8 K] wr fun e w' => e = .returned (.bool (touchB R.past K (f + 1))) ∧ wr = w') := HT.out wr HM.out.low (f + 1) (by omega)
   cases hy : touchB R.past K (f + 1) with
   | true =>
    rw [hy] at HT1 HF
    clear hy
    go_wp2_with (go_at_call 141; refine HT1.out.mono ?_; rintro e w' ⟨rfl, rfl⟩)
    go_roundw
    case rel => exact ⟨f + 1, by omega, by go_num, by rw [HF.out]; exact HM.out.put 2 _ rfl⟩
    case measure => simp [intOf]; omega
   | false =>
    rw [hy] at HT1 HF
    clear hy
    go_wp2_with (go_at_call 141; refine HT1.out.mono ?_; rintro e w' ⟨rfl, rfl⟩)
    go_roundw
    case rel => exact ⟨f + 1, by omega, by go_num, by rw [HF.out]; exact HM.out⟩
    case measure => simp [intOf]; omega
  · obtain rfl : f = t := by omega
   go_wp2_with (go_at_call 77; refine (HN.out _ HM.out.low).mono ?_; rintro e w3 ⟨rfl, rfl⟩)
   go_loopw [13] (fun i wr => ∃ n : Nat, n ≤ R.past.length - 1 - f ∧ i = .int .u64 (R.past.length - 1 - n : Nat) ∧ Hid (Making w wr w2.heap.size { q := q, val := val, fr := fromN R.past K f, till := (tillN R.past K n).getD 0, op := (tillN R.past K n).isNone, kn := R.past.length - 1 })) (fun i _ => (intOf i).toNat)
   case atStart => exact ⟨0, Nat.zero_le _, rfl, HM⟩
   case round =>
    obtain ⟨n, hn, rfl, HM2⟩ := hrel
    by_cases hlt3 : n < R.past.length - 1 - f
    · obtain ⟨x, hx⟩ : ∃ x, x = R.past.length - 1 - n := ⟨_, rfl⟩
     have hx1 : f < x := by omega
     have hx2 : x < R.past.length := by omega
     have HX : Hid (x = R.past.length - 1 - n) := hx
     have f3 := HM2.out.ans.free 3
     have f4 := HM2.out.ans.free 4
     have HT1 : Hid (Calls Tryz.prog 141 #[.pointer (some ⟨b, 0, none⟩), .int .u64 (x : Int), .int .u8 K] wr fun e w' => e = .returned (.bool (touchB R.past K x)) ∧ wr = w') := HT.out wr HM2.out.low x (by omega)
     have a3 : wr.cell? ⟨w2.heap.size, 3, none⟩ = some (.int .u64 ((tillN R.past K n).getD 0 : Nat)) := HM2.out.ans.cell 3
     have a4 : wr.cell? ⟨w2.heap.size, 4, none⟩ = some (.bool (tillN R.past K n).isNone) := HM2.out.ans.cell 4
     have HF : Hid (tillN R.past K (n + 1) = if touchB R.past K x then some x else tillN R.past K n) := by rw [HX.out]; exact rfl
     rw [← hx]
     clear hx
     cases hy : touchB R.past K x with
     | true =>
      rw [hy] at HT1 HF
      clear hy
      go_wp2_with (go_at_call 141; refine HT1.out.mono ?_; rintro e w' ⟨rfl, rfl⟩)
      go_roundw
      case rel => exact ⟨n + 1, by omega, by have := HX.out; go_num, by rw [HF.out]; exact (HM2.out.put 4 (e' := { q := q, val := val, fr := fromN R.past K f, till := (tillN R.past K n).getD 0, op := false, kn := R.past.length - 1 }) (.bool false) rfl).put 3 _ rfl⟩
      case measure => simp [intOf]; omega
     | false =>
      rw [hy] at HT1 HF
      clear hy
      go_wp2_with (go_at_call 141; refine HT1.out.mono ?_; rintro e w' ⟨rfl, rfl⟩)
      go_roundw
      case rel => exact ⟨n + 1, by omega, by have := HX.out; go_num, by rw [HF.out]; exact HM2.out⟩
      case measure => simp [intOf]; omega
    · obtain ⟨x, hx⟩ : ∃ x, x = R.past.length - 1 - n := ⟨_, rfl⟩
     have hx1 : x = f := by omega
     have hnn : n = R.past.length - 1 - f := by omega
     rw [← hx, hx1]
     have HN2 : Hid (n = R.past.length - 1 - f) := hnn
     obtain ⟨e1, he1⟩ : ∃ e1 : EntE, e1 = { q := q, val := val, fr := fromN R.past K f, till := (tillN R.past K n).getD 0, op := (tillN R.past K n).isNone, kn := R.past.length - 1 } := ⟨_, rfl⟩
     rw [← he1] at HM2
     have HE : Hid (e1 = rightE R.past q K val f) := by rw [he1, hnn]; exact rfl
     have b0 : wr.cell? ⟨w2.heap.size, 0, none⟩ = some (.string e1.q) := HM2.out.ans.cell 0
     have b1 : wr.cell? ⟨w2.heap.size, 1, none⟩ = some (.int .i32 e1.val) := HM2.out.ans.cell 1
     have b2 : wr.cell? ⟨w2.heap.size, 2, none⟩ = some (.int .u64 (e1.fr : Int)) := HM2.out.ans.cell 2
     have b3 : wr.cell? ⟨w2.heap.size, 3, none⟩ = some (.int .u64 (e1.till : Int)) := HM2.out.ans.cell 3
     have b4 : wr.cell? ⟨w2.heap.size, 4, none⟩ = some (.bool e1.op) := HM2.out.ans.cell 4
     have b5 : wr.cell? ⟨w2.heap.size, 5, none⟩ = some (.int .u64 (e1.kn : Int)) := HM2.out.ans.cell 5
     have r0 : wr.cell? ⟨w.heap.size, 0, none⟩ = some (.string ⟨#[]⟩) := HM2.out.res.cell 0
     have r1 : wr.cell? ⟨w.heap.size, 1, none⟩ = some (.int .i32 0) := HM2.out.res.cell 1
     have r2 : wr.cell? ⟨w.heap.size, 2, none⟩ = some (.int .u64 0) := HM2.out.res.cell 2
     have r3 : wr.cell? ⟨w.heap.size, 3, none⟩ = some (.int .u64 0) := HM2.out.res.cell 3
     have r4 : wr.cell? ⟨w.heap.size, 4, none⟩ = some (.bool false) := HM2.out.res.cell 4
     have r5 : wr.cell? ⟨w.heap.size, 5, none⟩ = some (.int .u64 0) := HM2.out.res.cell 5
     have g0 := HM2.out.res.free 0
     have g1 := HM2.out.res.free 1
     have g2 := HM2.out.res.free 2
     have g3 := HM2.out.res.free 3
     have g4 := HM2.out.res.free 4
     have g5 := HM2.out.res.free 5
     clear hx hx1 hnn he1
     go_wp2
     obtain ⟨hB, hL⟩ := right_end HM2.out
     generalize World.setCell _ _ (Value.int .u64 (e1.kn : Int)) = W at hB hL ⊢
     have q0 : W.cell? ⟨w.heap.size, 0, none⟩ = some (.string e1.q) := hB.cell 0
     have q1 : W.cell? ⟨w.heap.size, 1, none⟩ = some (.int .i32 e1.val) := hB.cell 1
     have q2 : W.cell? ⟨w.heap.size, 2, none⟩ = some (.int .u64 (e1.fr : Int)) := hB.cell 2
     have q3 : W.cell? ⟨w.heap.size, 3, none⟩ = some (.int .u64 (e1.till : Int)) := hB.cell 3
     have q4 : W.cell? ⟨w.heap.size, 4, none⟩ = some (.bool e1.op) := hB.cell 4
     have q5 : W.cell? ⟨w.heap.size, 5, none⟩ = some (.int .u64 (e1.kn : Int)) := hB.cell 5
     rw [← HE.out]
     refine bodyPost_ret (v := .agg (entA e1)) (by simp [results, Tryz.results97, go_sem, q0, q1, q2, q3, q4, q5, entA]) rfl ⟨rfl, hL⟩
end Go.Proofs.YtpfcacedpkaihaaGreat
