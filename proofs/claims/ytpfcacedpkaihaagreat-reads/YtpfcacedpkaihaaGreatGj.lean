/- The document's Commit where the store is full, and its New (package almanacref), walked. -/
import Derived.Test.YtpfcacedpkaihaaGreatGi
namespace Go.Proofs.YtpfcacedpkaihaaGreat
open Go.RowKit

def FullPost (w : World) (e : Ending) (w' : World) : Prop := e = .returned (.tuple #[.int .u64 0, .int .i64 6]) ∧ w = w'

set_option maxRecDepth 100000 in
set_option maxHeartbeats 1000000 in
theorem rcommit_full (w : World) (b : Nat) (R : RefS) (ao : Option Addr) (n cap : Nat) (ws : List (Int × Int)) (h : Ref w b R) (hf : R.Fit) (hw : Wr w ao n ws) (hn : n ≤ 8) (hk : ws.all keyOk = true) (h7 : R.past.length = 701) :
    Calls Tryz.prog 29 #[.pointer (some ⟨b, 0, none⟩), .slice ao n cap] w fun e w' => FullPost w e w' := by
  have HW : Hid (Wr w ao n ws) := hw
  have HB : Hid (∀ j (h : j < ws.length), 0 ≤ ws[j].1 ∧ ws[j].1 < 8) := by
    intro j hj
    have := List.all_eq_true.mp hk _ (List.getElem_mem hj)
    simpa [keyOk] using this
  have hl := hw.len
  have HNW : Hid (Calls Tryz.prog 77 #[.pointer (some ⟨b, 0, none⟩)] w fun e w' => e = .returned (.int .u64 700) ∧ w = w') := by
    have := rnewest w b R h hf
    rw [h7] at this
    exact this
  clear hw hk h hf h7
  go_enter Tryz.func29, Tryz.ntmps29
  go_wp2
  go_loop [6] (fun i => ∃ k : Nat, k ≤ n ∧ i = .int .i64 k) (fun i => n - (intOf i).toNat)
  case atStart => exact ⟨0, Nat.zero_le _, rfl⟩
  case round =>
    obtain ⟨k, hkn, rfl⟩ := hrel
    by_cases hlt : k < n
    · have hlt' : k < ws.length := by omega
      obtain ⟨bl, off, hao, c0, _⟩ := HW.out.cell k hlt'
      obtain ⟨x, hx⟩ : ∃ x, x = ws[k].1 := ⟨_, rfl⟩
      obtain ⟨hx0, hx8⟩ := HB.out k hlt'
      rw [← hx] at c0 hx0 hx8
      subst hao
      clear hx
      have hd : decide (x < 0) = false := by simp; omega
      go_wp2
      go_round
      case rel => exact ⟨k + 1, by omega, by go_num⟩
      case measure => simp [intOf]; omega
    · go_wp2_with (go_at_call 77; refine HNW.out.mono ?_; rintro e w' ⟨rfl, rfl⟩)
      go_ret2
      exact ⟨rfl, rfl⟩

set_option maxHeartbeats 400000 in
theorem rnew_nodes (n r : Int) (w : World) (h : n < 1 ∨ 3 < n) :
    Calls Tryz.prog 24 #[.int .i64 n, .int .i64 r] w fun e w' => e = .returned (.tuple #[.pointer none, .int .i64 1]) ∧ w = w' := by
  by_cases h0 : n < 1
  · have hd : decide (n < 1) = true := by simpa using h0
    go_enter Tryz.func24, Tryz.ntmps24
    go_wp2
    go_ret2
    exact ⟨rfl, rfl⟩
  · have hd : decide (n < 1) = false := by simpa using h0
    have h3 : 3 < n := by omega
    go_enter Tryz.func24, Tryz.ntmps24
    go_wp2
    go_ret2
    exact ⟨rfl, rfl⟩

set_option maxHeartbeats 400000 in
theorem rnew_room (n r : Int) (w : World) (h1 : 1 ≤ n) (h2 : n ≤ 3) (h : r < 1 ∨ 6 < r) :
    Calls Tryz.prog 24 #[.int .i64 n, .int .i64 r] w fun e w' => e = .returned (.tuple #[.pointer none, .int .i64 2]) ∧ w = w' := by
  have hd0 : decide (n < 1) = false := by simp; omega
  by_cases h0 : r < 1
  · have hd : decide (r < 1) = true := by simpa using h0
    go_enter Tryz.func24, Tryz.ntmps24
    go_wp2
    go_ret2
    exact ⟨rfl, rfl⟩
  · have hd : decide (r < 1) = false := by simpa using h0
    have h6 : 6 < r := by omega
    go_enter Tryz.func24, Tryz.ntmps24
    go_wp2
    go_ret2
    exact ⟨rfl, rfl⟩

def upN : NodeE := { zeroN with up := true }
def newR (room : Int) (k : Nat) (vp vn : Value) : RefS := ⟨[zeroP], 0, [], List.replicate k upN, room, 0, [], [], vp, nilV, vn, nilV, nilV⟩

theorem Tryz.infoNode : (Tryz.prog.info? 146).map (fun i => (i.zero, i.size, i.bytes)) = some (some (.agg #[.bool false, .int .u64 0, .int .u64 0, .slice none 0 0, .slice none 0 0, .slice none 0 0, .slice none 0 0]), 7, 120) := by kernel_rfl

/-- what New has laid: all of it is new. -/
structure NewL (w wr : World) (room : Int) (k : Nat) (vp vn : Value) : Prop where
  ref : Ref wr w.heap.size (newR room k vp vn)
  kept : Kept (fun _ => False) w wr
  new : ∀ x, (newR room k vp vn).fp w.heap.size x → w.heap.size ≤ x

theorem upN_nil : ∀ r ∈ nodeR upN, r.v = .slice none 0 0 ∧ r.n = 0 ∧ r.xs = [] := by
  intro r hr
  simp only [nodeR, upN, zeroN, List.mem_cons, List.not_mem_nil, or_false] at hr
  rcases hr with rfl | rfl | rfl | rfl <;> exact ⟨rfl, rfl, rfl⟩

theorem NewL.start (w : World) (room : Int) {w' : World} {v : Value} {o : Obj}
    (hA : Appended ((w.alloc (.cells #[.slice none 0 0, .int .i64 0, .slice none 0 0, .slice none 0 0, .int .i64 room, .slice none 0 0, .slice none 0 0, .int .i64 0] 84)).alloc o) w' 143 10 (.slice none 0 0) v 0 1 [] (pastC zeroP)) :
    NewL w (w'.setCell ⟨w.heap.size, 0, none⟩ v) room 0 v nilV := by
  have hnil : ∀ r ∈ (⟨[], 0, [], [], room, 0, [], [], nilV, nilV, nilV, nilV, nilV⟩ : RefS).rows, r.v = .slice none 0 0 ∧ r.n = 0 ∧ r.xs = [] := by
    intro r hr
    simp only [RefS.rows, List.flatMap_nil, List.mem_cons, List.not_mem_nil, or_false] at hr
    rcases hr with rfl | rfl | rfl | rfl | rfl <;> exact ⟨rfl, rfl, rfl⟩
  have h0 : Ref (w.alloc (.cells #[.slice none 0 0, .int .i64 0, .slice none 0 0, .slice none 0 0, .int .i64 room, .slice none 0 0, .slice none 0 0, .int .i64 0] 84)) w.heap.size ⟨[], 0, [], [], room, 0, [], [], nilV, nilV, nilV, nilV, nilV⟩ :=
    ⟨Blk.new _ _ _, rows_nil hnil⟩
  obtain ⟨z1, z2, z3⟩ := h0.pushP zeroP v hA.of_alloc
  have hfp : ∀ x, (⟨[], 0, [], [], room, 0, [], [], nilV, nilV, nilV, nilV, nilV⟩ : RefS).fp w.heap.size x → x = w.heap.size := by
    rintro x (rfl | ⟨r, hr, hx⟩)
    · rfl
    · rw [(hnil r hr).1] at hx; simp [Value.ownBlock] at hx
  refine ⟨z1, (Kept.alloc w _ (fun _ => False)).trans z2 (fun _ => id) (fun x hx hf => ?_), fun x hx => ?_⟩
  · have := hfp x hf; omega
  · rcases z3 x hx with h | h
    · rw [hfp x h]; exact Nat.le_refl _
    · simp at h; omega

theorem NewL.next {w wr w' : World} {room : Int} {k : Nat} {vp vn v : Value} {o : Obj} (h : NewL w wr room k vp vn) (hA : Appended (wr.alloc o) w' 146 7 vn v k 1 ((List.replicate k upN).flatMap nodeC) (nodeC upN)) :
    NewL w (w'.setCell ⟨w.heap.size, 3, none⟩ v) room (k + 1) vp v := by
  have hA := hA.of_alloc
  have r := h.ref
  have k1 := hA.kept
  have k2 := Kept.setCell w' ⟨w.heap.size, 3, none⟩ v
  have ownv : ∀ x, v.ownBlock = some x → vn.ownBlock = some x ∨ wr.heap.size ≤ x := fun x hx => hA.own.imp (fun e => by rw [← e]; exact hx) (fun e => e x hx)
  have blk1 : Blk w' w.heap.size _ _ := r.blk.kept k1 fun he => r.nodes.ne_block r.blk (by decide) he
  have hn : RowD.Is w' ⟨146, 7, v, (List.replicate (k + 1) upN).length, (List.replicate (k + 1) upN).flatMap nodeC⟩ := by
    show Row w' _ 7 v (List.replicate (k + 1) upN).length ((List.replicate (k + 1) upN).flatMap nodeC)
    rw [List.length_replicate, List.replicate_succ', List.flatMap_append]
    simpa using hA.row
  have all1 := (r.all.put 2 (newR room k vp vn).nodeD ⟨146, 7, v, (List.replicate (k + 1) upN).length, (List.replicate (k + 1) upN).flatMap nodeC⟩ rfl k1 hn ownv).more upN_nil
  have er : (newR room (k + 1) vp v).rows = ((newR room k vp vn).rows.set 2 ⟨146, 7, v, (List.replicate (k + 1) upN).length, (List.replicate (k + 1) upN).flatMap nodeC⟩) ++ nodeR upN := by
    show _ :: _ :: _ :: _ :: _ :: (List.replicate (k + 1) upN).flatMap nodeR = _ :: _ :: _ :: _ :: _ :: ((List.replicate k upN).flatMap nodeR ++ nodeR upN)
    have e : (List.replicate (k + 1) upN).flatMap nodeR = (List.replicate k upN).flatMap nodeR ++ nodeR upN := by rw [List.replicate_succ', List.flatMap_append]; simp
    rw [e]; rfl
  have mem : ∀ a ∈ (newR room (k + 1) vp v).rows, ∀ x, a.v.ownBlock = some x → w.heap.size ≤ x := by
    intro a ha x hx
    rw [er] at ha
    rcases List.mem_append.mp ha with ha | ha
    · rcases List.mem_or_eq_of_mem_set ha with ha | rfl
      · exact h.new x (.inr ⟨a, ha, hx⟩)
      · rcases ownv x hx with e | e
        · exact h.new x (fp_vn e)
        · exact Nat.le_trans h.kept.size e
    · rw [(upN_nil a ha).1] at hx; simp [Value.ownBlock] at hx
  refine ⟨⟨blk1.set 3 v, ?_⟩, h.kept.trans (k1.trans k2 (H := fun x => vn.ownBlock = some x ∨ x = w.heap.size) (fun x hx => .inl hx) (fun x _ hx => .inr hx)) (fun _ => id) (fun x hx hf => ?_), ?_⟩
  · rw [er]
    refine all1.kept k2 ?_
    rintro j ⟨a, ha, hj⟩ he
    subst he
    exact (all1.row a ha).ne_block blk1 (rows_ne_world (R := newR room (k + 1) vp v) (by rw [er]; exact ha)) hj
  · rcases hf with hf | hf
    · have := h.new x (fp_vn hf); omega
    · omega
  · rintro x (rfl | ⟨a, ha, hx⟩)
    · exact Nat.le_refl _
    · exact mem a ha x hx

theorem oneCell_node : ∀ u ∈ nodeC upN, u.oneCell' = true := by
  intro u hu; simp [nodeC, upN, zeroN] at hu; rcases hu with rfl | rfl | rfl <;> rfl
theorem news_node (w : World) (t : TypeId) : ∀ j u, (nodeC upN)[j]? = some u → (w.alloc (.cells #[.bool true, .int .u64 0, .int .u64 0, .slice none 0 0, .slice none 0 0, .slice none 0 0, .slice none 0 0] t)).cell? ((⟨w.heap.size, 0, none⟩ : Addr).add j) = some u := by
  intro j u hj
  have e : (⟨w.heap.size, 0, none⟩ : Addr).add j = ⟨w.heap.size, j, none⟩ := by cases j <;> simp [Addr.add]
  rw [e, World.cell?_alloc_at _ _ _ _ rfl]
  simpa [nodeC, upN, zeroN] using hj

def NewPost (w : World) (n : Nat) (room : Int) (e : Ending) (w' : World) : Prop :=
  e = .returned (.tuple #[.pointer (some ⟨w.heap.size, 0, none⟩), .int .i64 0]) ∧ ∃ vp vn, NewL w w' room n vp vn

theorem news_zero (w : World) (o : Obj) (t : TypeId) : ∀ j u, (pastC zeroP)[j]? = some u → ((w.alloc o).alloc (.cells #[.int .i32 0, .int .i32 0, .int .i32 0, .int .i32 0, .int .i32 0, .int .i32 0, .int .i32 0, .int .i32 0, .int .u8 0, .int .i64 0] t)).cell? ((⟨w.heap.size + 1, 0, none⟩ : Addr).add j) = some u := by
  intro j u hj
  have e : (⟨w.heap.size + 1, 0, none⟩ : Addr).add j = ⟨w.heap.size + 1, j, none⟩ := by cases j <;> simp [Addr.add]
  rw [e, World.cell?_alloc_at _ _ _ _ (by simp)]
  simpa [pastC, zeroP] using hj

set_option maxRecDepth 100000 in
set_option maxHeartbeats 2000000 in
theorem rnew (n : Nat) (r : Int) (w : World) (h1 : 1 ≤ n) (h2 : n ≤ 3) (h3 : 1 ≤ r) (h4 : r ≤ 6) :
    Calls Tryz.prog 24 #[.int .i64 n, .int .i64 r] w fun e w' => NewPost w n r e w' := by
  have hd0 : decide ((n : Int) < 1) = false := by simp; omega
  have hd1 : decide (r < 1) = false := by simp; omega
  obtain ⟨i0, hi, hz0, hz1, hz2⟩ := info_parts Tryz.infoPast
  have HI : Hid (Tryz.prog.info? 143 = some i0 ∧ i0.zero = some (.agg #[.int .i32 0, .int .i32 0, .int .i32 0, .int .i32 0, .int .i32 0, .int .i32 0, .int .i32 0, .int .i32 0, .int .u8 0, .int .i64 0]) ∧ i0.size = 10 ∧ i0.bytes = 48) := ⟨hi, hz0, hz1, hz2⟩
  clear hi hz0 hz1 hz2
  obtain ⟨i1, hi, hz0, hz1, hz2⟩ := info_parts Tryz.infoNode
  have HN : Hid (Tryz.prog.info? 146 = some i1 ∧ i1.zero = some (.agg #[.bool false, .int .u64 0, .int .u64 0, .slice none 0 0, .slice none 0 0, .slice none 0 0, .slice none 0 0]) ∧ i1.size = 7 ∧ i1.bytes = 120) := ⟨hi, hz0, hz1, hz2⟩
  clear hi hz0 hz1 hz2
  go_enter Tryz.func24, Tryz.ntmps24
  go_wp2_with (at_builtin; go_must (refine wpList_append_mine _ rfl (.tmp 27) (.tmp 29) 80 rfl 143 i0 (.agg #[.int .i32 0, .int .i32 0, .int .i32 0, .int .i32 0, .int .i32 0, .int .i32 0, .int .i32 0, .int .i32 0, .int .u8 0, .int .i64 0]) 10 48 Tryz.underlying80 HI.out.1 HI.out.2.1 HI.out.2.2.1 HI.out.2.2.2 rfl (by decide) (.slice none 0 0) 0 [] rfl (Row.nil _ _ _) ⟨w.heap.size + 1, 0, none⟩ 1 1 (pastC zeroP) rfl rfl (news_zero w _ _) (oneCell_past zeroP) (by unfold maxLen; omega) (by omega) ?_); intro v' w1 hA; have HS : Hid (NewL w (w1.setCell ⟨w.heap.size, 0, none⟩ v') r 0 v' nilV) := NewL.start w r hA; have hb1 := (hA.kept.block w.heap.size (by simp; omega) (by simp [Value.ownBlock])); have hc0 : w1.cell? ⟨w.heap.size, 0, none⟩ = some (.slice none 0 0) := (World.cell?_of_block (a := ⟨w.heap.size, 0, none⟩) hb1).trans (by simp [go_sem]); have hf0 : w1.frozen? ⟨w.heap.size, 0, none⟩ = false := (World.frozen?_of_block (a := ⟨w.heap.size, 0, none⟩) hb1).trans (by simp [go_sem]); clear hb1; obtain ⟨ao', cap', hv', _⟩ := hA.row.form; clear hA; subst hv')
  go_loopw [7] (fun i wr => ∃ k : Nat, k ≤ n ∧ i = .int .i64 k ∧ Hid (∃ vp vn, NewL w wr r k vp vn)) (fun i _ => n - (intOf i).toNat)
  case atStart => exact ⟨0, Nat.zero_le _, rfl, _, _, HS.out⟩
  case round =>
    obtain ⟨k, hk, rfl, HL⟩ := hrel
    obtain ⟨vp, vn, hL⟩ := HL.out
    obtain ⟨ao, cap, hvn, _⟩ := hL.ref.nodes.form
    have hvn' : vn = .slice ao k cap := by have : (newR r k vp vn).nodes.length = k := by simp [newR]
                                           rw [this] at hvn; exact hvn
    subst hvn'
    have c3 : wr.cell? ⟨w.heap.size, 3, none⟩ = some (.slice ao k cap) := hL.ref.c3
    have f3 := hL.ref.blk.free 3
    have hz := hL.ref.blk.lt
    have HLL : Hid (NewL w wr r k vp (.slice ao k cap)) := hL
    have HROW : Hid (∀ o : Obj, Row (wr.alloc o) 146 7 (.slice ao k cap) k ((List.replicate k upN).flatMap nodeC)) := fun o => by
      have := hL.ref.nodes.kept (Kept.alloc wr o (fun _ => False)) (fun _ _ => id)
      have e : (newR r k vp (.slice ao k cap)).nodes.length = k := by simp [newR]
      rw [e] at this
      exact this
    have HAFT : Hid (∀ (o : Obj) (w' : World) (v' : Value), Appended (wr.alloc o) w' 146 7 (.slice ao k cap) v' k 1 ((List.replicate k upN).flatMap nodeC) (nodeC upN) → w'.cell? ⟨w.heap.size, 3, none⟩ = some (.slice ao k cap) ∧ w'.frozen? ⟨w.heap.size, 3, none⟩ = false) := by
      intro o w' v' hA
      have bb := hL.ref.blk.kept hA.of_alloc.kept fun he => hL.ref.nodes.ne_block hL.ref.blk (by decide) he
      exact ⟨bb.cell 3, bb.free 3⟩
    clear hL hvn
    by_cases hlt : k < n
    · go_wp2_with (at_builtin; go_must (refine wpList_append_mine _ rfl (.tmp 42) (.tmp 44) 82 rfl 146 i1 (.agg #[.bool false, .int .u64 0, .int .u64 0, .slice none 0 0, .slice none 0 0, .slice none 0 0, .slice none 0 0]) 7 120 Tryz.underlying82 HN.out.1 HN.out.2.1 HN.out.2.2.1 HN.out.2.2.2 rfl (by decide) (.slice ao k cap) k ((List.replicate k upN).flatMap nodeC) rfl (HROW.out _) ⟨wr.heap.size, 0, none⟩ 1 1 (nodeC upN) rfl rfl (news_node wr _) oneCell_node (by unfold maxLen; omega) (by omega) ?_); intro v' w1 hA; obtain ⟨x3, y3⟩ := HAFT.out _ _ _ hA; have HNX : Hid (NewL w (w1.setCell ⟨w.heap.size, 3, none⟩ v') r (k + 1) vp v') := HLL.out.next hA; obtain ⟨ao', cap', hv', _⟩ := hA.row.form; clear hA; subst hv')
      go_roundw
      case rel => exact ⟨k + 1, by omega, by go_num, vp, _, HNX.out⟩
      case measure => simp [intOf]; omega
    · have hkk : k = n := by omega
      subst hkk
      go_wp2
      go_ret2
      exact ⟨rfl, vp, _, HLL.out⟩

end Go.Proofs.YtpfcacedpkaihaaGreat
