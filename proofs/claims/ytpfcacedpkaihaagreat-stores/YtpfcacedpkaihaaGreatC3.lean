import Derived.Test.YtpfcacedpkaihaaGreatC2
import Derived.Deep.MidRow
import Derived.Test.YtpfcacedpkaihaaGreatC0
import Derived.Deep.DeepCutAuto
namespace Go.Proofs.YtpfcacedpkaihaaGreat
open Go.RowKit
set_option maxRecDepth 100000
set_option maxHeartbeats 16000000
def WithoutPost (w : World) (n : Nat) (l' : List EntE) (e : Ending) (w' : World) : Prop :=
 ∃ v, e = .returned v ∧ Row w' 55 6 v (n - 1) (l'.flatMap entC) ∧ Kept (fun _ => False) w w' ∧ (∀ x, v.ownBlock = some x → w.heap.size ≤ x)
theorem without_done {w w1 w2 : World} {n i m : Nat} {l : List EntE} {v1 v2 : Value} (hl : l.length = n) (hi : i < n) (hm : m = n - (i + 1))
  (h1 : Row w1 55 6 v1 i ((l.take i).flatMap entC) ∧ Kept (fun _ => False) w w1 ∧ (∀ x, v1.ownBlock = some x → w.heap.size ≤ x))
  (hA : Appended w1 w2 55 6 v1 v2 i m ((l.take i).flatMap entC) ((l.drop (i + 1)).flatMap entC)) : WithoutPost w n (l.eraseIdx i) (.returned v2) w2 := by
 refine ⟨v2, rfl, ?_, h1.2.1.trans hA.kept (fun _ => id) (fun x hx he => ?_), fun x hx => ?_⟩
 · have := hA.row
  rw [← List.flatMap_append, ← List.eraseIdx_eq_take_drop_succ, show i + m = n - 1 by omega] at this
  exact this
 · have := h1.2.2 x he; omega
 · rcases hA.own with e | e
  · exact h1.2.2 x (by rw [← e]; exact hx)
  · exact Nat.le_trans h1.2.1.size (e x hx)
theorem rwithout (w : World) (g n cap i : Nat) (l : List EntE) (hr : Row w 55 6 (.slice (some ⟨g, 0, none⟩) n cap) n (l.flatMap entC)) (hl : l.length = n) (hi : i < n) (hn : n ≤ 1000) (hcap : n ≤ cap) (hcm : cap ≤ maxLen) :
  Calls Tryz.prog 100 #[.slice (some ⟨g, 0, none⟩) n cap, .int .i64 i] w fun e w' => WithoutPost w n (l.eraseIdx i) e w' := by
 unfold maxLen at hcm
 obtain ⟨i0, hi0, hz0, hz1, hz2⟩ := info_parts Tryz.infoEntry
 have HI : Hid (Tryz.prog.info? 55 = some i0 ∧ i0.zero = some (.agg #[.string ByteArray.empty, .int .i32 0, .int .u64 0, .int .u64 0, .bool false, .int .u64 0]) ∧ i0.size = 6 ∧ i0.bytes = 56) := ⟨hi0, hz0, hz1, hz2⟩
 clear hi0 hz0 hz1 hz2
 have HN1 : Hid (∀ j u, ((l.take i).flatMap entC)[j]? = some u → w.cell? ((⟨g, 0, none⟩ : Addr).add j) = some u) := by
  intro j u hj
  have e : (⟨g, 0, none⟩ : Addr).add j = ⟨g, j, none⟩ := by cases j <;> simp [Addr.add]
  rw [e]
  refine hr.cell rfl j u ?_
  have hjl := (List.getElem?_eq_some_iff.mp hj).1
  rw [← List.take_append_drop i l, List.flatMap_append, List.getElem?_append_left hjl]; exact hj
 have HL1 : Hid (((l.take i).flatMap entC).length = i * 6) := by
  show _ = _
  rw [flat_length entC 6 (fun _ => rfl), List.length_take]; congr 1; omega
 have hii : (i : Int) ≤ (cap : Int) := by omega
 have hii1 : (i : Int) + 1 ≤ (n : Int) := by omega
 have hnc : (n : Int) ≤ (cap : Int) := by omega
 have b0 : 0 + i ≤ maxLen := by unfold maxLen; omega
 have b1 : (0 + i) * 56 ≤ 140737488355328 := by omega
 have HL2 : Hid (((l.drop (i + 1)).flatMap entC).length = (n - (i + 1)) * 6) := by
  show _ = _
  rw [flat_length entC 6 (fun _ => rfl), List.length_drop, hl]
 have b2 : i + (n - (i + 1)) ≤ maxLen := by unfold maxLen; omega
 have b3 : (i + (n - (i + 1))) * 56 ≤ 140737488355328 := by omega
 have HR : Hid (Row w 55 6 (.slice (some ⟨g, 0, none⟩) n cap) n (l.flatMap entC)) := hr
 clear hr
 by_cases hce : cap = i + 1
 · have HN2 : Hid (∀ w1, Kept (fun _ => False) w w1 → ∀ j u, ((l.drop (i + 1)).flatMap entC)[j]? = some u → w1.cell? ((⟨g, 0, none⟩ : Addr).add j) = some u) := by
   intro w1 _ j u hj
   rw [List.drop_eq_nil_of_le (by omega)] at hj
   simp at hj
  subst hce
  obtain rfl : n = i + 1 := by omega
  have HL3 : Hid (((l.drop (i + 1)).flatMap entC).length = 0 * 6) := by
   show _ = _
   rw [HL2.out]; omega
  have b4 : i + 0 ≤ maxLen := by unfold maxLen; omega
  have b5 : (i + 0) * 56 ≤ 140737488355328 := by omega
  go_enter Tryz.func100, Tryz.ntmps100
  go_wp2_with (first
   | (at_builtin; refine wpList_append_mine _ rfl (.tmp 6) (.tmp 9) 51 rfl 55 i0 (.agg #[.string ByteArray.empty, .int .i32 0, .int .u64 0, .int .u64 0, .bool false, .int .u64 0]) 6 56 Tryz.underlying51 HI.out.1 HI.out.2.1 HI.out.2.2.1 HI.out.2.2.2 rfl (by decide) (.slice none 0 0) 0 [] rfl (Row.nil _ _ _) ⟨g, 0, none⟩ i (i + 1) ((l.take i).flatMap entC) rfl HL1.out HN1.out (oneCell_ent _) b0 b1 ?_; intro v1 w1 hA1; have H1 : Hid (Row w1 55 6 v1 i ((l.take i).flatMap entC) ∧ Kept (fun _ => False) w w1 ∧ (∀ x, v1.ownBlock = some x → w.heap.size ≤ x)) := ⟨by have := hA1.row; rw [Nat.zero_add, List.nil_append] at this; exact this, hA1.kept.mono (fun k hk => by simp [Value.ownBlock] at hk), fun x hx => hA1.own.elim (fun e => by rw [e] at hx; simp [Value.ownBlock] at hx) (fun e => e x hx)⟩; clear hA1)
   | (at_builtin; refine wpList_append_mine _ rfl (.tmp 11) (.tmp 15) 51 rfl 55 i0 (.agg #[.string ByteArray.empty, .int .i32 0, .int .u64 0, .int .u64 0, .bool false, .int .u64 0]) 6 56 Tryz.underlying51 HI.out.1 HI.out.2.1 HI.out.2.2.1 HI.out.2.2.2 rfl (by decide) _ i ((l.take i).flatMap entC) rfl H1.out.1 ⟨g, 0, none⟩ 0 0 ((l.drop (i + 1)).flatMap entC) rfl HL3.out (HN2.out w1 H1.out.2.1) (oneCell_ent _) b4 b5 ?_; intro v2 w2 hA2; have H2 : Hid (WithoutPost w (i + 1) (l.eraseIdx i) (.returned v2) w2) := without_done hl hi (by omega) H1.out hA2; clear hA2))
  go_ret
  exact H2.out
 · have HN2 : Hid (∀ w1, Kept (fun _ => False) w w1 → ∀ j u, ((l.drop (i + 1)).flatMap entC)[j]? = some u → w1.cell? ((⟨g, (i + 1) * 6, none⟩ : Addr).add j) = some u) := by
   intro w1 hk j u hj
   have e : (⟨g, (i + 1) * 6, none⟩ : Addr).add j = ⟨g, (i + 1) * 6 + j, none⟩ := by cases j <;> simp [Addr.add]
   rw [e]
   refine (HR.out.kept hk (fun _ _ => id)).cell rfl ((i + 1) * 6 + j) u ?_
   have hlen : ((l.take (i + 1)).flatMap entC).length = (i + 1) * 6 := by rw [flat_length entC 6 (fun _ => rfl), List.length_take]; congr 1; omega
   rw [← List.take_append_drop (i + 1) l, List.flatMap_append, List.getElem?_append_right (by omega), hlen, Nat.add_sub_cancel_left]; exact hj
  go_enter Tryz.func100, Tryz.ntmps100
  go_wp2_with (first
   | (at_builtin; refine wpList_append_mine _ rfl (.tmp 6) (.tmp 9) 51 rfl 55 i0 (.agg #[.string ByteArray.empty, .int .i32 0, .int .u64 0, .int .u64 0, .bool false, .int .u64 0]) 6 56 Tryz.underlying51 HI.out.1 HI.out.2.1 HI.out.2.2.1 HI.out.2.2.2 rfl (by decide) (.slice none 0 0) 0 [] rfl (Row.nil _ _ _) ⟨g, 0, none⟩ i cap ((l.take i).flatMap entC) rfl HL1.out HN1.out (oneCell_ent _) b0 b1 ?_; intro v1 w1 hA1; have H1 : Hid (Row w1 55 6 v1 i ((l.take i).flatMap entC) ∧ Kept (fun _ => False) w w1 ∧ (∀ x, v1.ownBlock = some x → w.heap.size ≤ x)) := ⟨by have := hA1.row; rw [Nat.zero_add, List.nil_append] at this; exact this, hA1.kept.mono (fun k hk => by simp [Value.ownBlock] at hk), fun x hx => hA1.own.elim (fun e => by rw [e] at hx; simp [Value.ownBlock] at hx) (fun e => e x hx)⟩; clear hA1)
   | (at_builtin; refine wpList_append_mine _ rfl (.tmp 11) (.tmp 15) 51 rfl 55 i0 (.agg #[.string ByteArray.empty, .int .i32 0, .int .u64 0, .int .u64 0, .bool false, .int .u64 0]) 6 56 Tryz.underlying51 HI.out.1 HI.out.2.1 HI.out.2.2.1 HI.out.2.2.2 rfl (by decide) _ i ((l.take i).flatMap entC) rfl H1.out.1 ⟨g, (i + 1) * 6, none⟩ (n - (i + 1)) (cap - (i + 1)) ((l.drop (i + 1)).flatMap entC) rfl HL2.out (HN2.out w1 H1.out.2.1) (oneCell_ent _) b2 b3 ?_; intro v2 w2 hA2; have H2 : Hid (WithoutPost w n (l.eraseIdx i) (.returned v2) w2) := without_done hl hi rfl H1.out hA2; clear hA2))
  go_ret
  exact H2.out
section
variable {w : World} {a : Act} {K : Act → World → Prop} {Q : Exit → Act → World → Prop} {af : Array Edge} {ps : String}
theorem op_move {d s : Nat} {T : TypeId} (h : K (a.put (some d) (a.tmps.getD s undef)) w) : Oper.wp Tryz.prog { dst := some d, op := Op.move (.tmp s), type := T, pos := ps, after := af, guard := none } a w K Q := by
 unfold Oper.wp
 simp only [execOp]
 exact h
theorem op_assign {d s : Nat} {T : TypeId} (h : K (a.put (some d) (a.tmps.getD s undef)) w) : Oper.wp Tryz.prog { dst := some d, op := Op.assign (.tmp s), type := T, pos := ps, after := af, guard := none } a w K Q := by
 unfold Oper.wp
 simp only [execOp]
 exact h
theorem op_load {d s zb : Nat} {z0 z1 z2 z3 z4 z5 : Value} (hs : a.tmps.getD s undef = .pointer (some ⟨zb, 0, none⟩)) (hb : Blk w zb 55 #[z0, z1, z2, z3, z4, z5]) (h : K (a.put (some d) (.agg #[z0, z1, z2, z3, z4, z5])) w) :
  Oper.wp Tryz.prog { dst := some d, op := Op.load 55 (.tmp s), type := 55, pos := ps, after := af, guard := none } a w K Q := by
 refine wp_load_mid 55 (.tmp s) rfl zb 0 hs [z0, z1, z2, z3, z4, z5] _ (fun j v hv => ?_) Tryz.underlying55 rfl (by kernel_rfl) h
 rw [hb.cell, Nat.zero_add]
 simpa using hv
theorem op_bs1 {z0 z1 z2 z3 z4 z5 : Value} (h16 : a.tmps[16]?.getD undef = .agg #[z0, z1, z2, z3, z4, z5]) (h : K (a.put (some 17) (.slice (some ⟨w.heap.size, 0, none⟩) 1 1)) (w.alloc (.cells #[z0, z1, z2, z3, z4, z5] 55))) :
  Oper.wp Tryz.prog { dst := some 17, op := Op.buildSlice 51 1 #[(0, .tmp 16)], type := 51, pos := ps, after := af, guard := none } a w K Q := by
 unfold Oper.wp
 simp [execOp, Act.eval, h16, go_sem]
 exact h
theorem op_bs2 {z0 z1 z2 z3 z4 z5 : Value} (h20 : a.tmps[20]?.getD undef = .agg #[z0, z1, z2, z3, z4, z5]) (h21 : a.tmps[21]?.getD undef = .agg #[z0, z1, z2, z3, z4, z5]) (h : K (a.put (some 22) (.slice (some ⟨w.heap.size, 0, none⟩) 2 2)) (w.alloc (.cells #[z0, z1, z2, z3, z4, z5, z0, z1, z2, z3, z4, z5] 55))) :
  Oper.wp Tryz.prog { dst := some 22, op := Op.buildSlice 51 2 #[(0, .tmp 20), (1, .tmp 21)], type := 51, pos := ps, after := af, guard := none } a w K Q := by
 unfold Oper.wp
 simp [execOp, Act.eval, h20, h21, go_sem]
 exact h
theorem op_bs3 {z0 z1 z2 z3 z4 z5 : Value} (h25 : a.tmps[25]?.getD undef = .agg #[z0, z1, z2, z3, z4, z5]) (h26 : a.tmps[26]?.getD undef = .agg #[z0, z1, z2, z3, z4, z5]) (h27 : a.tmps[27]?.getD undef = .agg #[z0, z1, z2, z3, z4, z5]) (h : K (a.put (some 28) (.slice (some ⟨w.heap.size, 0, none⟩) 3 3)) (w.alloc (.cells #[z0, z1, z2, z3, z4, z5, z0, z1, z2, z3, z4, z5, z0, z1, z2, z3, z4, z5] 55))) :
  Oper.wp Tryz.prog { dst := some 28, op := Op.buildSlice 51 3 #[(0, .tmp 25), (1, .tmp 26), (2, .tmp 27)], type := 51, pos := ps, after := af, guard := none } a w K Q := by
 unfold Oper.wp
 simp [execOp, Act.eval, h25, h26, h27, go_sem]
 exact h
theorem op_bs4 {o0 o1 o2 o3 : Option Addr} {n0 n1 n2 n3 c0 c1 c2 c3 : Nat} (h14 : a.tmps[14]?.getD undef = .slice o0 n0 c0) (h18 : a.tmps[18]?.getD undef = .slice o1 n1 c1) (h23 : a.tmps[23]?.getD undef = .slice o2 n2 c2) (h29 : a.tmps[29]?.getD undef = .slice o3 n3 c3)
  (h : K (a.put (some 30) (.slice (some ⟨w.heap.size, 0, none⟩) 4 4)) (w.alloc (.cells #[.slice o0 n0 c0, .slice o1 n1 c1, .slice o2 n2 c2, .slice o3 n3 c3] 51))) :
  Oper.wp Tryz.prog { dst := some 30, op := Op.buildSlice 49 4 #[(0, .tmp 14), (1, .tmp 18), (2, .tmp 23), (3, .tmp 29)], type := 49, pos := ps, after := af, guard := none } a w K Q := by
 unfold Oper.wp
 simp [execOp, Act.eval, h14, h18, h23, h29, go_sem]
 exact h
def Lies' (w : World) (v : Value) (n m : Nat) (v' : Value) (w' : World) : Prop :=
 (∃ g cap, v = .slice (some ⟨g, 0, none⟩) n cap ∧ n + m ≤ cap ∧ v' = .slice (some ⟨g, 0, none⟩) (n + m) cap ∧ Kept (fun k => k = g) w w') ∨
 (∃ g cap c, v' = .slice (some ⟨g, 0, none⟩) (n + m) cap ∧ w.heap.size ≤ g ∧ Blk w' g 55 c ∧ (n + m) * 6 ≤ c.size ∧ Kept (fun _ => False) w w')
theorem op_append {d s x m gb n : Nat} {T : TypeId} {v : Value} {xs news : List Value} (hm0 : 0 < m) (hs : a.tmps.getD s undef = v) (hx : a.tmps.getD x undef = .slice (some ⟨gb, 0, none⟩) m m) (hv : Row w 55 6 v n xs) (hb : Blk w gb 55 news.toArray) (hl : news.length = m * 6) (h1 : ∀ u ∈ news, u.oneCell' = true) (hn : n ≤ 1000000) (hm : m ≤ 3)
  (h : ∀ v' w', Lies' w v n m v' w' → Row w' 55 6 v n xs → K (a.put (some d) v') w') :
  Oper.wp Tryz.prog { dst := some d, op := Op.call { callee := Callee.builtin Builtin.append, args := #[.tmp s, .tmp x], argTypes := #[51, 51] }, type := T, pos := ps, after := af, guard := none } a w K Q := by
 obtain ⟨i0, hi, hz0, hz1, hz2⟩ := info_parts Tryz.infoEntry
 have hnews : ∀ j u, news[j]? = some u → w.cell? ((⟨gb, 0, none⟩ : Addr).add j) = some u := by
  intro j u hj
  have e : (⟨gb, 0, none⟩ : Addr).add j = ⟨gb, j, none⟩ := by cases j <;> simp [Addr.add]
  rw [e, hb.cell]
  simpa using hj
 refine wp_append_full w (.tmp s) (.tmp x) 51 rfl 55 i0 _ 6 56 Tryz.underlying51 hi hz0 hz1 hz2 rfl (by decide) v n xs hs hv ⟨gb, 0, none⟩ m m hm0 news hx hl hnews h1 (by unfold maxLen; omega) (by omega) fun v' w' hp => ?_
 rcases hp with ⟨g, cap, e1, e2, e3, hR, hk⟩ | ⟨g, cap, e1, hg, hR, hk⟩
 · exact h v' w' (.inl ⟨g, cap, e1, e2, e3, hk⟩) hR
 · rcases hR.shape with ⟨_, hn0, _⟩ | ⟨g2, cap2, cur2, hv2, hb2, hc2, _, hs2, _⟩
  · omega
  · rw [e1] at hv2
   injection hv2 with q1 _ q2
   injection q1 with q1
   injection q1 with q1 _ _
   subst q1 q2
   exact h v' w' (.inr ⟨g, cap, cur2, e1, hg, hb2, by rw [hs2]; exact Nat.mul_le_mul_right _ hc2, hk⟩) (hv.kept hk (fun _ _ => id))
end
def markA (q : ByteArray) (i : Nat) : Array Value := #[.string q, .int .i32 0, .int .u64 0, .int .u64 (i : Int), .bool false, .int .u64 0]
theorem below_drewN {n : Nat} {w w' : World} (h : Below n w w') (m : Nat) : Below n w (w'.drewN m) := ⟨h.os, h.tape, h.output, h.size, h.block⟩
theorem rmarked (w : World) (g n cap i : Nat) (q : ByteArray) (hn : n ≤ 1000000) (hc : ∀ j, j < n → w.cell? ⟨g, j * 6, none⟩ = some (.string q) ∧ w.cell? ⟨g, j * 6 + 1, none⟩ = some (.int .i32 0) ∧ w.cell? ⟨g, j * 6 + 2, none⟩ = some (.int .u64 0) ∧ w.cell? ⟨g, j * 6 + 3, none⟩ = some (.int .u64 (i : Int)) ∧ w.cell? ⟨g, j * 6 + 4, none⟩ = some (.bool false) ∧ w.cell? ⟨g, j * 6 + 5, none⟩ = some (.int .u64 0)) (hg : n = 0 ∨ g < w.heap.size) :
  Calls Tryz.prog 18 #[.slice (some ⟨g, 0, none⟩) n cap, .agg (markA q i)] w fun e w' => e = .returned (.bool true) ∧ Below w.heap.size w w' := by
 unfold markA
 have HC : Hid (∀ j, j < n → w.cell? ⟨g, j * 6, none⟩ = some (.string q) ∧ w.cell? ⟨g, j * 6 + 1, none⟩ = some (.int .i32 0) ∧ w.cell? ⟨g, j * 6 + 2, none⟩ = some (.int .u64 0) ∧ w.cell? ⟨g, j * 6 + 3, none⟩ = some (.int .u64 (i : Int)) ∧ w.cell? ⟨g, j * 6 + 4, none⟩ = some (.bool false) ∧ w.cell? ⟨g, j * 6 + 5, none⟩ = some (.int .u64 0)) := hc
 have HG : Hid (n = 0 ∨ g < w.heap.size) := hg
 clear hc hg
 go_enter Tryz.func18, Tryz.ntmps18
 go_wp2
 go_loopw [5] (fun k wr => ∃ j : Nat, j ≤ n ∧ k = .int .i64 j ∧ Hid (Below w.heap.size w wr ∧ Blk wr w.heap.size 55 (markA q i))) (fun k _ => n - (intOf k).toNat)
 case atStart => exact ⟨0, Nat.zero_le _, rfl, (Below.refl _ _).alloc (Nat.le_refl _) _, Blk.new _ _ _⟩
 case round =>
  obtain ⟨j, hj, rfl, HB⟩ := hrel
  have z0 : wr.cell? ⟨w.heap.size, 0, none⟩ = some (.string q) := HB.out.2.cell 0
  have z3 : wr.cell? ⟨w.heap.size, 3, none⟩ = some (.int .u64 (i : Int)) := HB.out.2.cell 3
  by_cases hlt : j < n
  · have hgz : g < w.heap.size := by have := HG.out; omega
   have hbb := HB.out.1.block g hgz
   obtain ⟨a0, a1, a2, a3, a4, a5⟩ := HC.out j hlt
   have c0 := (World.cell?_of_block (a := ⟨g, j * 6, none⟩) hbb).trans a0
   have c1 := (World.cell?_of_block (a := ⟨g, j * 6 + 1, none⟩) hbb).trans a1
   have c2 := (World.cell?_of_block (a := ⟨g, j * 6 + 2, none⟩) hbb).trans a2
   have c3 := (World.cell?_of_block (a := ⟨g, j * 6 + 3, none⟩) hbb).trans a3
   have c4 := (World.cell?_of_block (a := ⟨g, j * 6 + 4, none⟩) hbb).trans a4
   have c5 := (World.cell?_of_block (a := ⟨g, j * 6 + 5, none⟩) hbb).trans a5
   clear a0 a1 a2 a3 a4 a5 hbb
   have hj0 : (0 : Int) ≤ (j : Int) := by omega
   have hj1 : (j : Int) < (n : Int) := by omega
   go_wp2_with fail
   go_quiet (fail)
   go_wp2
   go_roundw
   case rel => exact ⟨j + 1, by omega, by go_num, below_drewN HB.out.1 _, HB.out.2.same rfl⟩
   case measure => simp [intOf]; omega
  · go_wp2
   go_ret
   exact ⟨rfl, HB.out.1⟩
def mq : ByteArray := ⟨#[40, 109, 105, 110, 101, 41]⟩
def markE (i : Nat) : Array Value := #[.string mq, .int .i32 0, .int .u64 0, .int .u64 (i : Int), .bool false, .int .u64 0]
theorem rentryMark (w : World) (i : Nat) (hi : i ≤ 4611686018427387904) :
  Calls Tryz.prog 19 #[.int .i64 (i : Int)] w fun e w' => e = .returned (.agg #[.string mq, .int .i32 0, .int .u64 0, .int .u64 (i : Int), .bool false, .int .u64 0]) ∧ Kept (fun _ => False) w w' := by
 go_enter Tryz.func19, Tryz.ntmps19
 go_wp2
 refine bodyPost_ret (v := .agg #[.string mq, .int .i32 0, .int .u64 0, .int .u64 (i : Int), .bool false, .int .u64 0]) (by simp [results, Tryz.results19, go_sem, mq]) rfl ⟨rfl, Kept.alloc _ _ _⟩
def marksL (i : Nat) : Nat → List Value
 | 0 => []
 | k + 1 => (markE i).toList ++ marksL i k
def IsB (w0 : World) (i k : Nat) (w : World) (x : Value) : Prop := ∃ gb, x = .slice (some ⟨gb, 0, none⟩) k k ∧ w0.heap.size ≤ gb ∧ Blk w gb 55 (marksL i k).toArray
def IsA (w0 : World) (lo : Option Addr) (m lc k : Nat) (w : World) (x : Value) : Prop :=
 ∃ g cap, x = .slice (some ⟨g, 0, none⟩) (m + k) cap ∧ ((lo = some ⟨g, 0, none⟩ ∧ m + k ≤ lc) ∨ (w0.heap.size ≤ g ∧ ∃ c, Blk w g 55 c ∧ (m + k) * 6 ≤ c.size))
def IsN (w0 : World) (lo : Option Addr) (m lc : Nat) (w : World) (x : Value) : Prop :=
 ∃ N a1 a2 a3, x = .slice (some ⟨N, 0, none⟩) 4 4 ∧ w0.heap.size ≤ N ∧ Blk w N 51 #[.slice lo m lc, a1, a2, a3] ∧ IsA w0 lo m lc 1 w a1 ∧ IsA w0 lo m lc 2 w a2 ∧ IsA w0 lo m lc 3 w a3
def VE (w0 : World) (lo : Option Addr) (m lc i : Nat) : Nat → World → Value → Prop
 | 0 => fun _ x => x = .slice lo m lc
 | 1 => fun _ x => x = .slice lo m lc
 | 2 => fun _ x => x = .agg (markE i)
 | 3 => IsB w0 i 1
 | 4 => IsA w0 lo m lc 1
 | 5 => fun _ x => x = .slice lo m lc
 | 6 => fun _ x => x = .agg (markE i)
 | 7 => fun _ x => x = .agg (markE i)
 | 8 => IsB w0 i 2
 | 9 => IsA w0 lo m lc 2
 | 10 => fun _ x => x = .slice lo m lc
 | 11 => fun _ x => x = .agg (markE i)
 | 12 => fun _ x => x = .agg (markE i)
 | 13 => fun _ x => x = .agg (markE i)
 | 14 => IsB w0 i 3
 | 15 => IsA w0 lo m lc 3
 | _ => IsN w0 lo m lc
def dstE (i : Nat) : Nat := if i = 17 then 5 else 14 + i
structure SE (w0 : World) (lo : Option Addr) (m lc i zb : Nat) (xs : List Value) (w : World) : Prop where
 kept : Kept (fun k => (Value.slice lo m lc).ownBlock = some k) w0 w
 row : Row w 55 6 (.slice lo m lc) m xs
 z : Blk w zb 55 (markE i)
theorem VE.mono {w0 w w' : World} {lo : Option Addr} {m lc i : Nat} (hl : ∀ k, (Value.slice lo m lc).ownBlock = some k → k < w0.heap.size) (k : Kept (fun k => (Value.slice lo m lc).ownBlock = some k) w w') : ∀ j x, VE w0 lo m lc i j w x → VE w0 lo m lc i j w' x := by
 have fb : ∀ q x, IsB w0 i q w x → IsB w0 i q w' x := by
  rintro q x ⟨gb, h1, h2, h3⟩
  exact ⟨gb, h1, h2, h3.kept k fun h => by have := hl _ h; omega⟩
 have fa : ∀ q x, IsA w0 lo m lc q w x → IsA w0 lo m lc q w' x := by
  rintro q x ⟨g, cap, h1, h2 | ⟨h2, c, h3, h4⟩⟩
  · exact ⟨g, cap, h1, .inl h2⟩
  · exact ⟨g, cap, h1, .inr ⟨h2, c, h3.kept k fun h => by have := hl _ h; omega, h4⟩⟩
 have fn : ∀ x, IsN w0 lo m lc w x → IsN w0 lo m lc w' x := by
  rintro x ⟨N, a1, a2, a3, h1, h2, h3, h4, h5, h6⟩
  exact ⟨N, a1, a2, a3, h1, h2, h3.kept k fun h => by have := hl _ h; omega, fa _ _ h4, fa _ _ h5, fa _ _ h6⟩
 intro j x h
 match j, h with
 | 0, h => exact h
 | 1, h => exact h
 | 2, h => exact h
 | 3, h => exact fb _ _ h
 | 4, h => exact fa _ _ h
 | 5, h => exact h
 | 6, h => exact h
 | 7, h => exact h
 | 8, h => exact fb _ _ h
 | 9, h => exact fa _ _ h
 | 10, h => exact h
 | 11, h => exact h
 | 12, h => exact h
 | 13, h => exact h
 | 14, h => exact fb _ _ h
 | 15, h => exact fa _ _ h
 | _ + 16, h => exact fn _ h
theorem SE.alloc {w0 w : World} {lo : Option Addr} {m lc i zb : Nat} {xs : List Value} (h : SE w0 lo m lc i zb xs w) (o : Obj) : SE w0 lo m lc i zb xs (w.alloc o) :=
 ⟨h.kept.trans (Kept.alloc w o (fun _ => False)) (fun _ => id) (fun _ _ => False.elim), h.row.kept (Kept.alloc w o (fun _ => False)) (fun _ _ => id), h.z.kept (Kept.alloc w o (fun _ => False)) id⟩
theorem SE.app {w0 w w' : World} {lo : Option Addr} {m lc i zb k : Nat} {xs : List Value} {v' : Value} (h : SE w0 lo m lc i zb xs w) (hz : (Value.slice lo m lc).ownBlock ≠ some zb) (hk : Lies' w (.slice lo m lc) m k v' w') (hr : Row w' 55 6 (.slice lo m lc) m xs) :
  SE w0 lo m lc i zb xs w' ∧ Kept (fun k => (Value.slice lo m lc).ownBlock = some k) w w' ∧ IsA w0 lo m lc k w' v' := by
 rcases hk with ⟨g, cap, e1, e2, e3, hk⟩ | ⟨g, cap, c, e1, hg, hb, hc, hk⟩
 · injection e1 with q1 _ q2
  subst q1 q2
  have hk' : Kept (fun k => (Value.slice (some ⟨g, 0, none⟩) m lc).ownBlock = some k) w w' := hk.mono fun x hx => by rw [hx]; rfl
  exact ⟨⟨h.kept.trans hk' (fun _ => id) (fun _ _ => id), hr, h.z.kept hk' hz⟩, hk', g, lc, e3, .inl ⟨rfl, e2⟩⟩
 · have hk' : Kept (fun k => (Value.slice lo m lc).ownBlock = some k) w w' := hk.mono fun _ => False.elim
  exact ⟨⟨h.kept.trans hk' (fun _ => id) (fun _ _ => id), hr, h.z.kept hk' hz⟩, hk', g, cap, e1, .inr ⟨Nat.le_trans h.kept.size hg, c, hb, hc⟩⟩
def opsE : Array Oper := #[
  { dst := some 14, op := .move (.tmp 1), type := 51, pos := "book.go:41", after := #[], guard := none },
  { dst := some 15, op := .move (.tmp 1), type := 51, pos := "book.go:41", after := #[], guard := none },
  { dst := some 16, op := .load 55 (.tmp 4), type := 55, pos := "book.go:41", after := #[], guard := none },
  { dst := some 17, op := .buildSlice 51 1 #[(0, .tmp 16)], type := 51, pos := "book.go:41", after := #[{ on := 2, ground := .data }], guard := none },
  { dst := some 18, op := .call { callee := .builtin .append, args := #[.tmp 15, .tmp 17], argTypes := #[51, 51] }, type := 51, pos := "book.go:41", after := #[{ on := 1, ground := .data }, { on := 3, ground := .data }], guard := none },
  { dst := some 19, op := .move (.tmp 1), type := 51, pos := "book.go:41", after := #[], guard := none },
  { dst := some 20, op := .load 55 (.tmp 4), type := 55, pos := "book.go:41", after := #[], guard := none },
  { dst := some 21, op := .load 55 (.tmp 4), type := 55, pos := "book.go:41", after := #[], guard := none },
  { dst := some 22, op := .buildSlice 51 2 #[(0, .tmp 20), (1, .tmp 21)], type := 51, pos := "book.go:41", after := #[{ on := 6, ground := .data }, { on := 7, ground := .data }], guard := none },
  { dst := some 23, op := .call { callee := .builtin .append, args := #[.tmp 19, .tmp 22], argTypes := #[51, 51] }, type := 51, pos := "book.go:41", after := #[{ on := 5, ground := .data }, { on := 8, ground := .data }, { on := 4, ground := .chain }], guard := none },
  { dst := some 24, op := .move (.tmp 1), type := 51, pos := "book.go:41", after := #[], guard := none },
  { dst := some 25, op := .load 55 (.tmp 4), type := 55, pos := "book.go:41", after := #[], guard := none },
  { dst := some 26, op := .load 55 (.tmp 4), type := 55, pos := "book.go:41", after := #[], guard := none },
  { dst := some 27, op := .load 55 (.tmp 4), type := 55, pos := "book.go:41", after := #[], guard := none },
  { dst := some 28, op := .buildSlice 51 3 #[(0, .tmp 25), (1, .tmp 26), (2, .tmp 27)], type := 51, pos := "book.go:41", after := #[{ on := 11, ground := .data }, { on := 12, ground := .data }, { on := 13, ground := .data }], guard := none },
  { dst := some 29, op := .call { callee := .builtin .append, args := #[.tmp 24, .tmp 28], argTypes := #[51, 51] }, type := 51, pos := "book.go:41", after := #[{ on := 10, ground := .data }, { on := 14, ground := .data }, { on := 9, ground := .chain }], guard := none },
  { dst := some 30, op := .buildSlice 49 4 #[(0, .tmp 14), (1, .tmp 18), (2, .tmp 23), (3, .tmp 29)], type := 49, pos := "book.go:41", after := #[{ on := 0, ground := .data }, { on := 4, ground := .data }, { on := 9, ground := .data }, { on := 15, ground := .data }], guard := none },
  { dst := some 5, op := .assign (.tmp 30), type := 49, pos := "book.go:41", after := #[{ on := 16, ground := .data }, { on := 15, ground := .chain }, { on := 0, ground := .phase }, { on := 1, ground := .phase }, { on := 2, ground := .phase }, { on := 3, ground := .phase }, { on := 4, ground := .phase }, { on := 5, ground := .phase }, { on := 6, ground := .phase }, { on := 7, ground := .phase }, { on := 8, ground := .phase }, { on := 9, ground := .phase }, { on := 10, ground := .phase }, { on := 11, ground := .phase }, { on := 12, ground := .phase }, { on := 13, ground := .phase }, { on := 14, ground := .phase }, { on := 15, ground := .phase }, { on := 16, ground := .phase }], guard := none }]
theorem toQ {a : Act} {k : Nat} {v : Value} (h : a.tmps.getD k undef = v) : a.tmps[k]?.getD undef = v := by rw [← h, Array.getD_eq_getD_getElem?]
theorem inj (i : Nat) (hi : i < 18) : ∀ j, j < 18 → j ≠ i → dstE j ≠ dstE i := by
 intro j hj hne
 unfold dstE
 split <;> split <;> omega
theorem one_mark (i : Nat) : ∀ u ∈ (markE i).toList, u.oneCell' = true := by
 intro u hu; simp [markE] at hu; rcases hu with rfl | rfl | rfl | rfl | rfl | rfl <;> rfl
theorem one_marks (i k : Nat) : ∀ u ∈ marksL i k, u.oneCell' = true := by
 induction k with
 | zero => intro u hu; cases hu
 | succ k ih =>
  intro u hu
  rw [marksL, List.mem_append] at hu
  exact hu.elim (one_mark i u) (ih u)
theorem lt18 {i : Nat} (h : i < 18) : i = 0 ∨ i = 1 ∨ i = 2 ∨ i = 3 ∨ i = 4 ∨ i = 5 ∨ i = 6 ∨ i = 7 ∨ i = 8 ∨ i = 9 ∨ i = 10 ∨ i = 11 ∨ i = 12 ∨ i = 13 ∨ i = 14 ∨ i = 15 ∨ i = 16 ∨ i = 17 := by omega
theorem dep_of {i on : Nat} {listed : Array Bool} (hj : i ∈ Region.ready .any opsE listed) (h : (opsE[i]?.map fun o => o.after.any fun e => e.on == on && Region.binds .any e) = some true) : listed.getD on false = true := by
 obtain ⟨_, o, ho, hdep⟩ := mem_ready.1 hj
 rw [ho] at h
 have h' : (o.after.any fun e => e.on == on && Region.binds .any e) = true := by simpa using h
 obtain ⟨k, hk, he⟩ := Array.any_eq_true.mp h'
 simp at he
 have := hdep _ (Array.getElem_mem hk) he.2
 rwa [he.1] at this
theorem entries_step {w0 w : World} {lo : Option Addr} {m lc i zb : Nat} {xs : List Value} {a0 a : Act} {listed : Array Bool} {Q : Exit → Act → World → Prop} (hlt : ∀ k, (Value.slice lo m lc).ownBlock = some k → k < w0.heap.size) (hz : (Value.slice lo m lc).ownBlock ≠ some zb) (hm : m ≤ 1000000)
  (h1 : a0.tmps.getD 1 undef = .slice lo m lc) (h4 : a0.tmps.getD 4 undef = .pointer (some ⟨zb, 0, none⟩)) (j : Nat)
  (hJ : RJ 18 63 dstE (fun k => a0.tmps.getD k undef) (SE w0 lo m lc i zb xs) (VE w0 lo m lc i) listed a w) (hj : j ∈ Region.ready .any opsE listed) :
  wpOp Tryz.prog opsE Q j (RJ 18 63 dstE (fun k => a0.tmps.getD k undef) (SE w0 lo m lc i zb xs) (VE w0 lo m lc i) (listed.setIfInBounds j true)) a w := by
 have l1 : a.tmps.getD 1 undef = .slice lo m lc := (hJ.old 1 (by intro q _; unfold dstE; split <;> omega)).trans h1
 have l4 : a.tmps.getD 4 undef = .pointer (some ⟨zb, 0, none⟩) := (hJ.old 4 (by intro q _; unfold dstE; split <;> omega)).trans h4
 obtain ⟨_, o, ho, _⟩ := mem_ready.1 hj
 have hlj : j < 18 := (Array.getElem?_eq_some_iff.mp ho).1
 clear ho
 rcases lt18 hlj with rfl | rfl | rfl | rfl | rfl | rfl | rfl | rfl | rfl | rfl | rfl | rfl | rfl | rfl | rfl | rfl | rfl | rfl
 · refine wpOp_of rfl rfl (op_move ?_)
  rw [l1]
  exact hJ.step 0 (by omega) _ (by simp [dstE]) (inj 0 (by omega)) (fun _ _ h => h) hJ.s rfl
 · refine wpOp_of rfl rfl (op_move ?_)
  rw [l1]
  exact hJ.step 1 (by omega) _ (by simp [dstE]) (inj 1 (by omega)) (fun _ _ h => h) hJ.s rfl
 · refine wpOp_of rfl rfl (op_load l4 hJ.s.z ?_)
  exact hJ.step 2 (by omega) _ (by simp [dstE]) (inj 2 (by omega)) (fun _ _ h => h) hJ.s rfl
 · have d0 := dep_of (on := 2) hj (by kernel_rfl)
  have v0 : VE w0 lo m lc i 2 w (a.tmps.getD 16 undef) := hJ.val 2 (by omega) d0
  refine wpOp_of rfl rfl (op_bs1 (toQ v0) ?_)
  exact hJ.step 3 (by omega) _ (by simp [dstE]) (inj 3 (by omega)) (VE.mono hlt (Kept.alloc _ _ _)) (hJ.s.alloc _) ⟨_, rfl, hJ.s.kept.size, Blk.new _ _ _⟩
 · have d0 := dep_of (on := 1) hj (by kernel_rfl)
  have v0 : VE w0 lo m lc i 1 w (a.tmps.getD 15 undef) := hJ.val 1 (by omega) d0
  have d1 := dep_of (on := 3) hj (by kernel_rfl)
  have v1 : VE w0 lo m lc i 3 w (a.tmps.getD 17 undef) := hJ.val 3 (by omega) d1
  obtain ⟨gb, e1, _, hb⟩ := v1
  refine wpOp_of rfl rfl (op_append (m := 1) (by omega) v0 e1 hJ.s.row hb rfl (one_marks i 1) hm (by omega) fun v' w' h1 h2 => ?_)
  obtain ⟨s1, s2, s3⟩ := hJ.s.app hz h1 h2
  exact hJ.step 4 (by omega) v' (by simp [dstE]) (inj 4 (by omega)) (VE.mono hlt s2) s1 s3
 · refine wpOp_of rfl rfl (op_move ?_)
  rw [l1]
  exact hJ.step 5 (by omega) _ (by simp [dstE]) (inj 5 (by omega)) (fun _ _ h => h) hJ.s rfl
 · refine wpOp_of rfl rfl (op_load l4 hJ.s.z ?_)
  exact hJ.step 6 (by omega) _ (by simp [dstE]) (inj 6 (by omega)) (fun _ _ h => h) hJ.s rfl
 · refine wpOp_of rfl rfl (op_load l4 hJ.s.z ?_)
  exact hJ.step 7 (by omega) _ (by simp [dstE]) (inj 7 (by omega)) (fun _ _ h => h) hJ.s rfl
 · have d0 := dep_of (on := 6) hj (by kernel_rfl)
  have v0 : VE w0 lo m lc i 6 w (a.tmps.getD 20 undef) := hJ.val 6 (by omega) d0
  have d1 := dep_of (on := 7) hj (by kernel_rfl)
  have v1 : VE w0 lo m lc i 7 w (a.tmps.getD 21 undef) := hJ.val 7 (by omega) d1
  refine wpOp_of rfl rfl (op_bs2 (toQ v0) (toQ v1) ?_)
  exact hJ.step 8 (by omega) _ (by simp [dstE]) (inj 8 (by omega)) (VE.mono hlt (Kept.alloc _ _ _)) (hJ.s.alloc _) ⟨_, rfl, hJ.s.kept.size, Blk.new _ _ _⟩
 · have d0 := dep_of (on := 5) hj (by kernel_rfl)
  have v0 : VE w0 lo m lc i 5 w (a.tmps.getD 19 undef) := hJ.val 5 (by omega) d0
  have d1 := dep_of (on := 8) hj (by kernel_rfl)
  have v1 : VE w0 lo m lc i 8 w (a.tmps.getD 22 undef) := hJ.val 8 (by omega) d1
  obtain ⟨gb, e1, _, hb⟩ := v1
  refine wpOp_of rfl rfl (op_append (m := 2) (by omega) v0 e1 hJ.s.row hb rfl (one_marks i 2) hm (by omega) fun v' w' h1 h2 => ?_)
  obtain ⟨s1, s2, s3⟩ := hJ.s.app hz h1 h2
  exact hJ.step 9 (by omega) v' (by simp [dstE]) (inj 9 (by omega)) (VE.mono hlt s2) s1 s3
 · refine wpOp_of rfl rfl (op_move ?_)
  rw [l1]
  exact hJ.step 10 (by omega) _ (by simp [dstE]) (inj 10 (by omega)) (fun _ _ h => h) hJ.s rfl
 · refine wpOp_of rfl rfl (op_load l4 hJ.s.z ?_)
  exact hJ.step 11 (by omega) _ (by simp [dstE]) (inj 11 (by omega)) (fun _ _ h => h) hJ.s rfl
 · refine wpOp_of rfl rfl (op_load l4 hJ.s.z ?_)
  exact hJ.step 12 (by omega) _ (by simp [dstE]) (inj 12 (by omega)) (fun _ _ h => h) hJ.s rfl
 · refine wpOp_of rfl rfl (op_load l4 hJ.s.z ?_)
  exact hJ.step 13 (by omega) _ (by simp [dstE]) (inj 13 (by omega)) (fun _ _ h => h) hJ.s rfl
 · have d0 := dep_of (on := 11) hj (by kernel_rfl)
  have v0 : VE w0 lo m lc i 11 w (a.tmps.getD 25 undef) := hJ.val 11 (by omega) d0
  have d1 := dep_of (on := 12) hj (by kernel_rfl)
  have v1 : VE w0 lo m lc i 12 w (a.tmps.getD 26 undef) := hJ.val 12 (by omega) d1
  have d2 := dep_of (on := 13) hj (by kernel_rfl)
  have v2 : VE w0 lo m lc i 13 w (a.tmps.getD 27 undef) := hJ.val 13 (by omega) d2
  refine wpOp_of rfl rfl (op_bs3 (toQ v0) (toQ v1) (toQ v2) ?_)
  exact hJ.step 14 (by omega) _ (by simp [dstE]) (inj 14 (by omega)) (VE.mono hlt (Kept.alloc _ _ _)) (hJ.s.alloc _) ⟨_, rfl, hJ.s.kept.size, Blk.new _ _ _⟩
 · have d0 := dep_of (on := 10) hj (by kernel_rfl)
  have v0 : VE w0 lo m lc i 10 w (a.tmps.getD 24 undef) := hJ.val 10 (by omega) d0
  have d1 := dep_of (on := 14) hj (by kernel_rfl)
  have v1 : VE w0 lo m lc i 14 w (a.tmps.getD 28 undef) := hJ.val 14 (by omega) d1
  obtain ⟨gb, e1, _, hb⟩ := v1
  refine wpOp_of rfl rfl (op_append (m := 3) (by omega) v0 e1 hJ.s.row hb rfl (one_marks i 3) hm (by omega) fun v' w' h1 h2 => ?_)
  obtain ⟨s1, s2, s3⟩ := hJ.s.app hz h1 h2
  exact hJ.step 15 (by omega) v' (by simp [dstE]) (inj 15 (by omega)) (VE.mono hlt s2) s1 s3
 · have d0 := dep_of (on := 0) hj (by kernel_rfl)
  have v0 : VE w0 lo m lc i 0 w (a.tmps.getD 14 undef) := hJ.val 0 (by omega) d0
  have d1 := dep_of (on := 4) hj (by kernel_rfl)
  have v1 : VE w0 lo m lc i 4 w (a.tmps.getD 18 undef) := hJ.val 4 (by omega) d1
  have d2 := dep_of (on := 9) hj (by kernel_rfl)
  have v2 : VE w0 lo m lc i 9 w (a.tmps.getD 23 undef) := hJ.val 9 (by omega) d2
  have d3 := dep_of (on := 15) hj (by kernel_rfl)
  have v3 : VE w0 lo m lc i 15 w (a.tmps.getD 29 undef) := hJ.val 15 (by omega) d3
  obtain ⟨g1, c1, e1, r1⟩ := v1
  obtain ⟨g2, c2, e2, r2⟩ := v2
  obtain ⟨g3, c3, e3, r3⟩ := v3
  refine wpOp_of rfl rfl (op_bs4 (toQ v0) (toQ e1) (toQ e2) (toQ e3) ?_)
  have mn := VE.mono (i := i) hlt (Kept.alloc w (.cells #[.slice lo m lc, .slice (some ⟨g1, 0, none⟩) (m + 1) c1, .slice (some ⟨g2, 0, none⟩) (m + 2) c2, .slice (some ⟨g3, 0, none⟩) (m + 3) c3] 51) (fun k => (Value.slice lo m lc).ownBlock = some k))
  exact hJ.step 16 (by omega) _ (by simp [dstE]) (inj 16 (by omega)) mn (hJ.s.alloc _) ⟨_, _, _, _, rfl, hJ.s.kept.size, Blk.new _ _ _, mn 4 _ ⟨g1, c1, rfl, r1⟩, mn 9 _ ⟨g2, c2, rfl, r2⟩, mn 15 _ ⟨g3, c3, rfl, r3⟩⟩
 · have d0 := dep_of (on := 16) hj (by kernel_rfl)
  have v0 : VE w0 lo m lc i 16 w (a.tmps.getD 30 undef) := hJ.val 16 (by omega) d0
  refine wpOp_of rfl rfl (op_assign ?_)
  exact hJ.step 17 (by omega) _ (by simp [dstE]) (inj 17 (by omega)) (fun _ _ h => h) hJ.s v0
end Go.Proofs.YtpfcacedpkaihaaGreat
