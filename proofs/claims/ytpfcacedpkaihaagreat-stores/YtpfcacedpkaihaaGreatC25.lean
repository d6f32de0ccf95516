import Derived.Test.YtpfcacedpkaihaaGreatC24
namespace Go.Proofs.YtpfcacedpkaihaaGreat
open Go.RowKit
set_option maxRecDepth 100000
set_option maxHeartbeats 16000000
theorem rnoNode (w : World) (b : Nat) (R : RefS) (k : Int) (h : Ref w b R) :
  Calls Tryz.prog 108 #[.pointer (some ⟨b, 0, none⟩), .int .i64 k] w fun e w' => e = .returned (.bool (decide (k < 0 ∨ (R.nodes.length : Int) ≤ k))) ∧ w = w' := by
 obtain ⟨ao, cap, hv, _⟩ := h.nodes.form
 have c3 : w.cell? ⟨b, 3, none⟩ = some R.vn := h.blk.cell 3
 rw [hv] at c3
 by_cases h0 : k < 0
 · have hd : decide (k < 0) = true := by simpa using h0
  rw [decide_eq_true (.inl h0)]
  clear h hv
  go_enter Tryz.func108, Tryz.ntmps108
  go_wp2
  go_ret
  exact ⟨rfl, rfl⟩
 · have hd : decide (k < 0) = false := by simpa using h0
  by_cases h1 : (R.nodes.length : Int) ≤ k
  · have hd1 : decide ((R.nodes.length : Int) ≤ k) = true := by simpa using h1
   rw [decide_eq_true (.inr h1)]
   clear h hv
   go_enter Tryz.func108, Tryz.ntmps108
   go_wp2
   go_ret
   exact ⟨rfl, rfl⟩
  · have hd1 : decide ((R.nodes.length : Int) ≤ k) = false := by simpa using h1
   rw [decide_eq_false (by omega)]
   clear h hv
   go_enter Tryz.func108, Tryz.ntmps108
   go_wp2
   go_ret
   exact ⟨rfl, rfl⟩
theorem rmerged (w : World) (x p : EntE) :
  Calls Tryz.prog 103 #[.agg (entA x), .agg (entA p)] w fun e w' => e = .returned (.agg (entA (mergedE x p))) ∧ Kept (fun _ => False) w w' := by
 obtain ⟨m, hm⟩ : ∃ m, m = mergedE x p := ⟨_, rfl⟩
 rw [← hm]
 obtain ⟨xq, xv, xf, xt, xo, xk⟩ := x
 obtain ⟨pq, pv, pf, pt, po, pk⟩ := p
 show Calls Tryz.prog 103 #[.agg #[.string xq, .int .i32 xv, .int .u64 (xf : Int), .int .u64 (xt : Int), .bool xo, .int .u64 (xk : Int)], .agg #[.string pq, .int .i32 pv, .int .u64 (pf : Int), .int .u64 (pt : Int), .bool po, .int .u64 (pk : Int)]] w _
 by_cases hk : xk < pk
 · have hd : decide ((xk : Int) < (pk : Int)) = true := by simpa using hk
  have hmx : max xk pk = pk := by omega
  cases xo <;> cases po <;>
  · go_enter Tryz.func103, Tryz.ntmps103
   go_wp2
   refine bodyPost_ret (v := .agg (entA m)) (by rw [hm]; simp [results, Tryz.results103, go_sem, mergedE, entA, hmx]) rfl ⟨rfl, kept3 w _ _ _⟩
 · have hd : decide ((xk : Int) < (pk : Int)) = false := by simpa using hk
  have hmx : max xk pk = xk := by omega
  cases xo <;> cases po <;>
  · go_enter Tryz.func103, Tryz.ntmps103
   go_wp2
   refine bodyPost_ret (v := .agg (entA m)) (by rw [hm]; simp [results, Tryz.results103, go_sem, mergedE, entA, hmx]) rfl ⟨rfl, kept3 w _ _ _⟩
def lastN (l : List Int) (x : Int) : Nat → Int
 | 0 => -1
 | n + 1 => if l[n]? = some x then (n : Int) else lastN l x n
theorem rlastUse (w : World) (b : Nat) (R : RefS) (x : Int) (h : Ref w b R) (hu : R.uses.length ≤ 4611686018427387904) :
  Calls Tryz.prog 148 #[.pointer (some ⟨b, 0, none⟩), .int .i64 x] w fun e w' => e = .returned (.int .i64 (lastN R.uses x R.uses.length)) ∧ w = w' := by
 obtain ⟨ao, cap, hv, _⟩ := h.uses.form
 have c6 : w.cell? ⟨b, 6, none⟩ = some R.vs := h.blk.cell 6
 rw [hv] at c6
 have HU : Hid (∀ i (hi : i < R.uses.length), ∃ g, ao = some ⟨g, 0, none⟩ ∧ w.cell? ⟨g, i, none⟩ = some (.int .i64 R.uses[i])) := by
  intro i hi
  obtain ⟨g, cp, e1, e2, _⟩ := h.uses.block (by omega)
  rw [hv] at e1
  injection e1 with e1 _ _
  exact ⟨g, e1, h.uses.cell e2 i _ (by rw [i64s, List.getElem?_map, List.getElem?_eq_getElem hi]; rfl)⟩
 clear h hv
 go_enter Tryz.func148, Tryz.ntmps148
 go_wp2
 go_loop [5, 6] (fun a i => ∃ k : Nat, k ≤ R.uses.length ∧ i = .int .i64 k ∧ a = .int .i64 (lastN R.uses x k)) (fun _ i => R.uses.length - (intOf i).toNat)
 case atStart => exact ⟨0, Nat.zero_le _, rfl, rfl⟩
 case round =>
  obtain ⟨k, hk, rfl, rfl⟩ := hrel
  by_cases hlt : k < R.uses.length
  · obtain ⟨g, hg, cg⟩ := HU.out k hlt
   subst hg
   have hg1 : R.uses[k]? = some R.uses[k] := List.getElem?_eq_getElem hlt
   generalize R.uses[k] = y at *
   by_cases hxy : y = x
   · have HL : Hid (lastN R.uses x (k + 1) = (k : Int)) := by show _ = _; rw [lastN, hg1, if_pos (by rw [hxy])]
    subst hxy
    clear hg1
    go_wp2
    go_round
    case rel => exact ⟨k + 1, by omega, by go_num, by rw [HL.out]⟩
    case measure => simp [intOf]; omega
   · have HL : Hid (lastN R.uses x (k + 1) = lastN R.uses x k) := by show _ = _; rw [lastN, hg1, if_neg (by simpa using hxy)]
    have hb : (y == x) = false := beq_eq_false_iff_ne.mpr hxy
    clear hg1
    go_wp2
    go_round
    case rel => exact ⟨k + 1, by omega, by go_num, by rw [HL.out]⟩
    case measure => simp [intOf]; omega
  · have hkk : k = R.uses.length := by omega
   subst hkk
   go_wp2
   go_ret
   exact ⟨rfl, rfl⟩
theorem rlate_short (w : World) (b : Nat) (up : Bool) (since hz : Nat) (fl wt en nm : Value) (p : EntE) (hp : p.op = false ∨ hz ≤ p.kn) :
  Calls Tryz.prog 102 #[.pointer (some ⟨b, 0, none⟩), .agg #[.bool up, .int .u64 (since : Int), .int .u64 (hz : Int), fl, wt, en, nm], .agg (entA p)] w fun e w' => e = .returned (.tuple #[.agg (entA p), .bool true]) ∧ Kept (fun _ => False) w w' := by
 obtain ⟨pq, pv, pf, pt, po, pk⟩ := p
 show Calls Tryz.prog 102 #[.pointer (some ⟨b, 0, none⟩), .agg #[.bool up, .int .u64 (since : Int), .int .u64 (hz : Int), fl, wt, en, nm], .agg #[.string pq, .int .i32 pv, .int .u64 (pf : Int), .int .u64 (pt : Int), .bool po, .int .u64 (pk : Int)]] w _
 cases po with
 | false =>
  go_enter Tryz.func102, Tryz.ntmps102
  go_wp2
  refine bodyPost_ret (v := .tuple #[.agg (entA ⟨pq, pv, pf, pt, false, pk⟩), .bool true]) (by simp [results, Tryz.results102, go_sem, entA]) rfl ⟨rfl, kept3 w _ _ _⟩
 | true =>
  have hle : hz ≤ pk := by rcases hp with h | h; · cases h
                           · exact h
  have hd : decide ((hz : Int) ≤ (pk : Int)) = true := by simpa using hle
  go_enter Tryz.func102, Tryz.ntmps102
  go_wp2
  refine bodyPost_ret (v := .tuple #[.agg (entA ⟨pq, pv, pf, pt, true, pk⟩), .bool true]) (by simp [results, Tryz.results102, go_sem, entA]) rfl ⟨rfl, kept3 w _ _ _⟩
theorem Tryz.infoI : (Tryz.prog.info? 3).map (fun i => (i.zero, i.size, i.bytes)) = some (some (.int .i64 0), 1, 8) := by kernel_rfl
theorem oneCell_i64 (l : List Int) : ∀ u ∈ i64s l, u.oneCell' = true := by
 intro u hu
 simp [i64s] at hu
 obtain ⟨a, _, rfl⟩ := hu
 rfl
theorem i64s_app (a b : List Int) : i64s (a ++ b) = i64s a ++ i64s b := List.map_append
theorem i64s_len (l : List Int) : (i64s l).length = l.length * 1 := by simp [i64s]
def WithoutIPost (w : World) (n : Nat) (l' : List Int) (e : Ending) (w' : World) : Prop :=
 ∃ v, e = .returned v ∧ Row w' 3 1 v (n - 1) (i64s l') ∧ Kept (fun _ => False) w w' ∧ (∀ x, v.ownBlock = some x → w.heap.size ≤ x)
theorem withoutI_done {w w1 w2 : World} {n i m : Nat} {l : List Int} {v1 v2 : Value} (hl : l.length = n) (hi : i < n) (hm : m = n - (i + 1))
  (h1 : Row w1 3 1 v1 i (i64s (l.take i)) ∧ Kept (fun _ => False) w w1 ∧ (∀ x, v1.ownBlock = some x → w.heap.size ≤ x))
  (hA : Appended w1 w2 3 1 v1 v2 i m (i64s (l.take i)) (i64s (l.drop (i + 1)))) : WithoutIPost w n (l.eraseIdx i) (.returned v2) w2 := by
 refine ⟨v2, rfl, ?_, h1.2.1.trans hA.kept (fun _ => id) (fun x hx he => ?_), fun x hx => ?_⟩
 · have := hA.row
  rw [← i64s_app, ← List.eraseIdx_eq_take_drop_succ, show i + m = n - 1 by omega] at this
  exact this
 · have := h1.2.2 x he; omega
 · rcases hA.own with e | e
  · exact h1.2.2 x (by rw [← e]; exact hx)
  · exact Nat.le_trans h1.2.1.size (e x hx)
theorem rwithoutInt (w : World) (g n cap i : Nat) (l : List Int) (hr : Row w 3 1 (.slice (some ⟨g, 0, none⟩) n cap) n (i64s l)) (hl : l.length = n) (hi : i < n) (hn : n ≤ 1000) (hcap : n ≤ cap) (hcm : cap ≤ maxLen) :
  Calls Tryz.prog 147 #[.slice (some ⟨g, 0, none⟩) n cap, .int .i64 i] w fun e w' => WithoutIPost w n (l.eraseIdx i) e w' := by
 unfold maxLen at hcm
 obtain ⟨i0, hi0, hz0, hz1, hz2⟩ := info_parts Tryz.infoI
 have HI : Hid (Tryz.prog.info? 3 = some i0 ∧ i0.zero = some (.int .i64 0) ∧ i0.size = 1 ∧ i0.bytes = 8) := ⟨hi0, hz0, hz1, hz2⟩
 clear hi0 hz0 hz1 hz2
 have HN1 : Hid (∀ j u, (i64s (l.take i))[j]? = some u → w.cell? ((⟨g, 0, none⟩ : Addr).add j) = some u) := by
  intro j u hj
  have e : (⟨g, 0, none⟩ : Addr).add j = ⟨g, j, none⟩ := by cases j <;> simp [Addr.add]
  rw [e]
  refine hr.cell rfl j u ?_
  have hjl := (List.getElem?_eq_some_iff.mp hj).1
  rw [← List.take_append_drop i l, i64s_app, List.getElem?_append_left hjl]; exact hj
 have HL1 : Hid ((i64s (l.take i)).length = i * 1) := by
  show _ = _
  rw [i64s_len, List.length_take]; congr 1; omega
 have hii : (i : Int) ≤ (cap : Int) := by omega
 have hii1 : (i : Int) + 1 ≤ (n : Int) := by omega
 have hnc : (n : Int) ≤ (cap : Int) := by omega
 have b0 : 0 + i ≤ maxLen := by unfold maxLen; omega
 have b1 : (0 + i) * 8 ≤ 140737488355328 := by omega
 have HL2 : Hid ((i64s (l.drop (i + 1))).length = (n - (i + 1)) * 1) := by
  show _ = _
  rw [i64s_len, List.length_drop, hl]
 have b2 : i + (n - (i + 1)) ≤ maxLen := by unfold maxLen; omega
 have b3 : (i + (n - (i + 1))) * 8 ≤ 140737488355328 := by omega
 have HR : Hid (Row w 3 1 (.slice (some ⟨g, 0, none⟩) n cap) n (i64s l)) := hr
 clear hr
 by_cases hce : cap = i + 1
 · have HN2 : Hid (∀ w1, Kept (fun _ => False) w w1 → ∀ j u, (i64s (l.drop (i + 1)))[j]? = some u → w1.cell? ((⟨g, 0, none⟩ : Addr).add j) = some u) := by
   intro w1 _ j u hj
   rw [List.drop_eq_nil_of_le (by omega)] at hj
   simp [i64s] at hj
  subst hce
  obtain rfl : n = i + 1 := by omega
  have HL3 : Hid ((i64s (l.drop (i + 1))).length = 0 * 1) := by
   show _ = _
   rw [HL2.out]; omega
  have b4 : i + 0 ≤ maxLen := by unfold maxLen; omega
  have b5 : (i + 0) * 8 ≤ 140737488355328 := by omega
  go_enter Tryz.func147, Tryz.ntmps147
  go_wp2_with (first
   | (at_builtin; refine wpList_append_mine _ rfl (.tmp 6) (.tmp 9) 24 rfl 3 i0 (.int .i64 0) 1 8 Tryz.underlying24 HI.out.1 HI.out.2.1 HI.out.2.2.1 HI.out.2.2.2 rfl (by decide) (.slice none 0 0) 0 [] rfl (Row.nil _ _ _) ⟨g, 0, none⟩ i (i + 1) (i64s (l.take i)) rfl HL1.out HN1.out (oneCell_i64 _) b0 b1 ?_; intro v1 w1 hA1; have H1 : Hid (Row w1 3 1 v1 i (i64s (l.take i)) ∧ Kept (fun _ => False) w w1 ∧ (∀ x, v1.ownBlock = some x → w.heap.size ≤ x)) := ⟨by have := hA1.row; rw [Nat.zero_add, List.nil_append] at this; exact this, hA1.kept.mono (fun k hk => by simp [Value.ownBlock] at hk), fun x hx => hA1.own.elim (fun e => by rw [e] at hx; simp [Value.ownBlock] at hx) (fun e => e x hx)⟩; clear hA1)
   | (at_builtin; refine wpList_append_mine _ rfl (.tmp 11) (.tmp 15) 24 rfl 3 i0 (.int .i64 0) 1 8 Tryz.underlying24 HI.out.1 HI.out.2.1 HI.out.2.2.1 HI.out.2.2.2 rfl (by decide) _ i (i64s (l.take i)) rfl H1.out.1 ⟨g, 0, none⟩ 0 0 (i64s (l.drop (i + 1))) rfl HL3.out (HN2.out w1 H1.out.2.1) (oneCell_i64 _) b4 b5 ?_; intro v2 w2 hA2; have H2 : Hid (WithoutIPost w (i + 1) (l.eraseIdx i) (.returned v2) w2) := withoutI_done hl hi (by omega) H1.out hA2; clear hA2))
  go_ret
  exact H2.out
 · have HN2 : Hid (∀ w1, Kept (fun _ => False) w w1 → ∀ j u, (i64s (l.drop (i + 1)))[j]? = some u → w1.cell? ((⟨g, i + 1, none⟩ : Addr).add j) = some u) := by
   intro w1 hk j u hj
   have e : (⟨g, i + 1, none⟩ : Addr).add j = ⟨g, i + 1 + j, none⟩ := by cases j <;> simp [Addr.add]
   rw [e]
   refine (HR.out.kept hk (fun _ _ => id)).cell rfl (i + 1 + j) u ?_
   have hlen : (i64s (l.take (i + 1))).length = i + 1 := by rw [i64s_len, List.length_take]; omega
   rw [← List.take_append_drop (i + 1) l, i64s_app, List.getElem?_append_right (by omega), hlen, Nat.add_sub_cancel_left]; exact hj
  go_enter Tryz.func147, Tryz.ntmps147
  go_wp2_with (first
   | (at_builtin; refine wpList_append_mine _ rfl (.tmp 6) (.tmp 9) 24 rfl 3 i0 (.int .i64 0) 1 8 Tryz.underlying24 HI.out.1 HI.out.2.1 HI.out.2.2.1 HI.out.2.2.2 rfl (by decide) (.slice none 0 0) 0 [] rfl (Row.nil _ _ _) ⟨g, 0, none⟩ i cap (i64s (l.take i)) rfl HL1.out HN1.out (oneCell_i64 _) b0 b1 ?_; intro v1 w1 hA1; have H1 : Hid (Row w1 3 1 v1 i (i64s (l.take i)) ∧ Kept (fun _ => False) w w1 ∧ (∀ x, v1.ownBlock = some x → w.heap.size ≤ x)) := ⟨by have := hA1.row; rw [Nat.zero_add, List.nil_append] at this; exact this, hA1.kept.mono (fun k hk => by simp [Value.ownBlock] at hk), fun x hx => hA1.own.elim (fun e => by rw [e] at hx; simp [Value.ownBlock] at hx) (fun e => e x hx)⟩; clear hA1)
   | (at_builtin; refine wpList_append_mine _ rfl (.tmp 11) (.tmp 15) 24 rfl 3 i0 (.int .i64 0) 1 8 Tryz.underlying24 HI.out.1 HI.out.2.1 HI.out.2.2.1 HI.out.2.2.2 rfl (by decide) _ i (i64s (l.take i)) rfl H1.out.1 ⟨g, i + 1, none⟩ (n - (i + 1)) (cap - (i + 1)) (i64s (l.drop (i + 1))) rfl HL2.out (HN2.out w1 H1.out.2.1) (oneCell_i64 _) b2 b3 ?_; intro v2 w2 hA2; have H2 : Hid (WithoutIPost w n (l.eraseIdx i) (.returned v2) w2) := withoutI_done hl hi rfl H1.out hA2; clear hA2))
  go_ret
  exact H2.out
end Go.Proofs.YtpfcacedpkaihaaGreat
