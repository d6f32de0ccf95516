import Derived.Test.YtpfcacedpkaihaaGreatHp
import Derived.Orders
import Derived.Test.YtpfcacedpkaihaaGreatHaHbHcHdHe
import Derived.Deep.MidRow
import Derived.Test.YtpfcacedpkaihaaGreatGaGbGc
import Derived.Deep.DeepCutAuto
/- An append to a row of one's own, and what is left of the row; a region that draws its order, by what holds behind whichever of its operations; nothing of the program stands here. -/
namespace Go.Proofs.YtpfcacedpkaihaaGreat
open Go.RowKit

theorem run_append_full {P : Program} (w : World) (t ty e : TypeId) (i : TypeInfo) (z : Value) (size bytes : Nat) (ht : P.underlying t = some (.slice e)) (hi : P.info? e = some i) (hz : i.zero = some z)
    (hsize : i.size = size) (hby : i.bytes = bytes) (hzs : z.cells.size = size) (hsz : 0 < size) (v : Value) (n : Nat) (xs : List Value) (hown : Row w e size v n xs)
    (a : Addr) (m c : Nat) (hm0 : 0 < m) (news : List Value) (hl : news.length = m * size) (hnews : ∀ j u, news[j]? = some u → w.cell? (a.add j) = some u) (h1 : ∀ u ∈ news, u.oneCell' = true)
    (h63 : n + m ≤ maxLen) (hbytes : (n + m) * bytes ≤ 140737488355328) :
    ∃ v' w', (Builtin.append_ #[t, t] ty #[v, .slice (some a) m c]).run P w = .ok v' w' ∧
      ((∃ g cap, v = .slice (some ⟨g, 0, none⟩) n cap ∧ n + m ≤ cap ∧ v' = .slice (some ⟨g, 0, none⟩) (n + m) cap ∧ Row w' e size v n xs ∧ Kept (fun k => k = g) w w') ∨
       (∃ g cap, v' = .slice (some ⟨g, 0, none⟩) (n + m) cap ∧ w.heap.size ≤ g ∧ Row w' e size v' (n + m) (xs ++ news) ∧ Kept (fun _ => False) w w')) := by
  have mk : ∀ (v' : Value) (w' : World), w'.ownsRow w.heap.size e size v' (n + m) (xs ++ news) → ∃ g cap, v' = .slice (some ⟨g, 0, none⟩) (n + m) cap ∧ w.heap.size ≤ g ∧ Row w' e size v' (n + m) (xs ++ news) := by
    intro v' w' ho
    rcases ho.2 with ⟨_, hn⟩ | ⟨g, cap, cur, hv, hg, r⟩
    · omega
    · exact ⟨g, cap, hv, hg, ho.1, .inr ⟨g, cap, cur, hv, Nat.zero_le _, r⟩⟩
  rcases hown.shape with ⟨rfl, rfl, rfl⟩ | ⟨g, cap, cur, rfl, hb, hc, hm, hs, htk⟩
  · obtain ⟨v', w', hr, ho, hg, _⟩ := run_append_own (P := P) w w.heap.size t ty e i z size bytes ht hi hz hsize hby hzs hsz (.slice none 0 0) 0 [] (World.ownsRow_nil w _ e size) a m c news hl hnews h1 h63 hbytes (Nat.le_refl _)
    obtain ⟨G, cp, hv, hG, hR⟩ := mk v' w' ho
    exact ⟨v', w', hr, .inr ⟨G, cp, hv, hG, hR, (Kept.of_grown hg).mono (fun k hk => by simp [Value.ownBlock] at hk)⟩⟩
  · by_cases hroom : n + m ≤ cap
    · obtain ⟨v', w', hr, ho, hg, _⟩ := run_append_own (P := P) w 0 t ty e i z size bytes ht hi hz hsize hby hzs hsz _ n xs hown a m c news hl hnews h1 h63 hbytes (Nat.zero_le _)
      subst hsize
      have hlt : ∀ j, j < news.length → n * i.size + j < cur.size := by
        intro j hj
        rw [hs]
        have : (n + m) * i.size ≤ cap * i.size := Nat.mul_le_mul_right _ hroom
        rw [Nat.add_mul] at this
        omega
      have hr2 := run_append_room_cells (P := P) w t ty e i ht hi g 0 n cap a m c news hl hnews h1 hroom
        (fun j hj => by rw [Nat.zero_add, hb.cell, Array.getElem?_eq_getElem (hlt j hj)]; rfl) (fun j _ => hb.free _)
      rw [hr] at hr2
      injection hr2 with e1 e2
      refine ⟨v', w', hr, .inl ⟨g, cap, rfl, hroom, e1, ?_, (Kept.of_grown hg).mono fun k hk => by simp [Value.ownBlock] at hk; exact hk.symm⟩⟩
      have ho' : Row w' e i.size v' (n + m) (xs ++ news) := ho
      rcases ho'.shape with ⟨_, hn, _⟩ | ⟨g2, cap2, cur2, hv2, hb2, _, _, hs2, ht2⟩
      · omega
      · rw [e1] at hv2
        injection hv2 with q1 _ q2
        injection q1 with q1
        injection q1 with q1 _ _
        subst q1 q2
        refine ⟨hown.1, .inr ⟨g, cap, cur2, rfl, Nat.zero_le _, hb2, hc, hm, hs2, ?_⟩⟩
        have hxl := hown.1
        have e3 : xs.take (n * i.size) = xs := List.take_of_length_le (by omega)
        have : (cur2.toList.take ((n + m) * i.size)).take (n * i.size) = (xs ++ news).take (n * i.size) := by rw [ht2]
        rw [List.take_take, Nat.min_eq_left (Nat.mul_le_mul_right _ (Nat.le_add_right n m)), List.take_append_of_le_length (by omega), e3] at this
        exact this
    · obtain ⟨v', w', hr, ho, hg⟩ := run_append_arg_grows (P := P) w t ty e i z size bytes ht hi hz hsize hby hzs hsz ⟨g, 0, none⟩ n cap xs hown.1 (fun j u hj => World.ownsRow.cells hown rfl j u hj) a m c news hl hnews (by omega) h63 hbytes
      obtain ⟨G, cp, hv, hG, hR⟩ := mk v' w' ho
      exact ⟨v', w', hr, .inr ⟨G, cp, hv, hG, hR, (Kept.of_grown hg).mono (fun k hk => by simp at hk)⟩⟩

theorem wp_append_full {P : Program} (w : World) {o : Oper} {a : Act} {K : Act → World → Prop} {Q : Exit → Act → World → Prop} (s x : Operand) (t : TypeId)
    (ho : o.op = .call { callee := .builtin .append, args := #[s, x], argTypes := #[t, t] })
    (e : TypeId) (i : TypeInfo) (z : Value) (size bytes : Nat) (ht : P.underlying t = some (.slice e)) (hi : P.info? e = some i) (hz : i.zero = some z)
    (hsize : i.size = size) (hby : i.bytes = bytes) (hzs : z.cells.size = size) (hsz : 0 < size)
    (v : Value) (n : Nat) (xs : List Value) (hs : a.eval s = v) (hown : Row w e size v n xs)
    (ad : Addr) (m c : Nat) (hm0 : 0 < m) (news : List Value) (hx : a.eval x = .slice (some ad) m c) (hl : news.length = m * size) (hnews : ∀ j u, news[j]? = some u → w.cell? (ad.add j) = some u) (h1 : ∀ u ∈ news, u.oneCell' = true)
    (h63 : n + m ≤ maxLen) (hbytes : (n + m) * bytes ≤ 140737488355328)
    (h : ∀ v' w', ((∃ g cap, v = .slice (some ⟨g, 0, none⟩) n cap ∧ n + m ≤ cap ∧ v' = .slice (some ⟨g, 0, none⟩) (n + m) cap ∧ Row w' e size v n xs ∧ Kept (fun k => k = g) w w') ∨
       (∃ g cap, v' = .slice (some ⟨g, 0, none⟩) (n + m) cap ∧ w.heap.size ≤ g ∧ Row w' e size v' (n + m) (xs ++ news) ∧ Kept (fun _ => False) w w')) → K (a.put o.dst v') w') : o.wp P a w K Q := by
  obtain ⟨v', w', hr, hp⟩ := run_append_full (P := P) w t o.type e i z size bytes ht hi hz hsize hby hzs hsz v n xs hown ad m c hm0 news hl hnews h1 h63 hbytes
  unfold Oper.wp
  simp [execOp, ho, resolve, invoke, builtin, hs, hx, hr, Result.andThen]
  exact h v' w' hp

theorem count_set (l : List Bool) (i : Nat) (h : l[i]? = some false) : ((l.set i true).filter (fun b => !b)).length + 1 = (l.filter (fun b => !b)).length := by
  induction l generalizing i with
  | nil => simp at h
  | cons a r ih =>
    match i with
    | 0 => simp at h; subst h; simp
    | i + 1 =>
      have := ih i (by simpa using h)
      cases a <;> simp at this ⊢ <;> omega

/-- whatever order is picked: what holds behind each operation that comes up holds at the end. -/
theorem wpAny_inv {P : Program} {md : Region.Mode} {ops : Array Oper} {Q : Exit → Act → World → Prop} (J : Array Bool → Act → World → Prop)
    (hsize : ∀ listed a w, J listed a w → listed.size = ops.size)
    (hstep : ∀ listed a w i, J listed a w → i ∈ Region.ready md ops listed → wpOp P ops Q i (J (listed.setIfInBounds i true)) a w)
    (hend : ∀ listed a w, J listed a w → Region.ready md ops listed = [] → Q .normal a w) :
    ∀ (fuel : Nat) (listed : Array Bool) (a : Act) (w : World), J listed a w → (listed.toList.filter (fun b => !b)).length ≤ fuel → wpAny P md ops Q fuel listed a w
  | 0, listed, a, w, hJ, hf => by
    have hr : Region.ready md ops listed = [] := by
      cases h : Region.ready md ops listed with
      | nil => rfl
      | cons i r =>
        have hi : i ∈ Region.ready md ops listed := by rw [h]; exact List.mem_cons_self ..
        obtain ⟨h0, o, ho, _⟩ := mem_ready.1 hi
        have hlt : i < listed.size := by rw [hsize _ _ _ hJ]; exact (Array.getElem?_eq_some_iff.mp ho).1
        have hm : false ∈ listed.toList.filter (fun b => !b) := by
          rw [List.mem_filter]
          refine ⟨?_, rfl⟩
          have : listed[i] = false := by simpa [Array.getD, hlt] using h0
          rw [← this]
          exact Array.getElem_mem_toList hlt
        have := List.length_pos_of_mem hm
        omega
    exact ⟨hr, hend _ _ _ hJ hr⟩
  | fuel + 1, listed, a, w, hJ, hf => by
    refine ⟨hend _ _ _ hJ, fun i hi => ?_⟩
    obtain ⟨h0, o, ho, _⟩ := mem_ready.1 hi
    have hlt : i < listed.size := by rw [hsize _ _ _ hJ]; exact (Array.getElem?_eq_some_iff.mp ho).1
    have hli : listed.toList[i]? = some false := by
      rw [Array.getElem?_toList, Array.getElem?_eq_getElem hlt]
      simpa [Array.getD, hlt] using h0
    refine wpOp_mono (fun a' w' hJ' => wpAny_inv J hsize hstep hend fuel _ a' w' hJ' ?_) (hstep listed a w i hJ hi)
    have := count_set listed.toList i hli
    rw [Array.toList_setIfInBounds]
    omega

/-- what is known within a region, of whose n operations some have come up: their values, each with what is known of it; the world. -/
structure RJ (n tn : Nat) (dst : Nat → Nat) (A0 : Nat → Value) (S : World → Prop) (V : Nat → World → Value → Prop) (listed : Array Bool) (a : Act) (w : World) : Prop where
  size : listed.size = n
  tsz : a.tmps.size = tn
  dfr : a.defers = []
  old : ∀ k, (∀ i, i < n → dst i ≠ k) → a.tmps.getD k undef = A0 k
  s : S w
  val : ∀ i, i < n → listed.getD i false = true → V i w (a.tmps.getD (dst i) undef)

theorem RJ.step {n tn : Nat} {dst : Nat → Nat} {A0 : Nat → Value} {S : World → Prop} {V : Nat → World → Value → Prop} {listed : Array Bool} {a : Act} {w w' : World} (h : RJ n tn dst A0 S V listed a w) (i : Nat) (hi : i < n) (v : Value) (hd : dst i < tn)
    (hinj : ∀ j, j < n → j ≠ i → dst j ≠ dst i) (hmono : ∀ j x, V j w x → V j w' x) (hs : S w') (hv : V i w' v) : RJ n tn dst A0 S V (listed.setIfInBounds i true) (a.put (some (dst i)) v) w' := by
  have get : ∀ k, (a.put (some (dst i)) v).tmps.getD k undef = if k = dst i then v else a.tmps.getD k undef := by
    intro k
    show (a.tmps.setIfInBounds (dst i) v).getD k undef = _
    by_cases e : k = dst i
    · subst e
      have : dst i < a.tmps.size := by rw [h.tsz]; exact hd
      simp [Array.getD, this]
    · rw [if_neg e]
      simp only [Array.getD_eq_getD_getElem?, Array.getElem?_setIfInBounds_ne (fun z => e z.symm)]
  refine ⟨by simp [h.size], by show (a.tmps.setIfInBounds _ _).size = tn; simp [h.tsz], h.dfr, fun k hk => ?_, hs, fun j hj hl => ?_⟩
  · rw [get, if_neg (fun e => hk i hi e.symm)]; exact h.old k hk
  · rw [get]
    by_cases e : j = i
    · subst e; rw [if_pos rfl]; exact hv
    · rw [if_neg (hinj j hj e)]
      refine hmono j _ (h.val j hj ?_)
      simpa only [Array.getD_eq_getD_getElem?, Array.getElem?_setIfInBounds_ne (fun z => e z.symm)] using hl

theorem wpOp_of {P : Program} {ops : Array Oper} {Q : Exit → Act → World → Prop} {i : Nat} {o : Oper} {K : Act → World → Prop} {a : Act} {w : World} (hi : ops[i]? = some o) (hg : o.guard = none) (h : o.wp P a w K Q) : wpOp P ops Q i K a w := by
  unfold wpOp
  simp only [hi, Region.wanted, hg]
  exact .inl h

/-- when none may come up, all have. -/
theorem all_listed {md : Region.Mode} {ops : Array Oper} {listed : Array Bool} (hs : listed.size = ops.size) (hd : ∀ (i : Nat) (o : Oper), ops[i]? = some o → ∀ e ∈ o.after, e.on < i) (hr : Region.ready md ops listed = []) : ∀ i, i < ops.size → listed.getD i false = true := by
  intro i
  induction i using Nat.strongRecOn with
  | _ i ih =>
    intro hi
    cases hl : listed.getD i false with
    | true => rfl
    | false =>
      have hlt : i < listed.size := by omega
      have hm : i ∈ Region.ready md ops listed := by
        refine mem_ready.2 ⟨by simpa [Array.getD, hlt] using hl, ops[i], Array.getElem?_eq_getElem hi, fun e he _ => ?_⟩
        have := hd i ops[i] (Array.getElem?_eq_getElem hi) e he
        exact ih e.on this (by omega)
      rw [hr] at hm
      cases hm

end Go.Proofs.YtpfcacedpkaihaaGreat

/- The operations of book.entries' great statement (package almanaclaw), one by one. -/
namespace Go.Proofs.YtpfcacedpkaihaaGreat
open Go.RowKit

section
variable {w : World} {a : Act} {K : Act → World → Prop} {Q : Exit → Act → World → Prop} {af : Array Edge} {ps : String}

theorem op_move {d s : Nat} {T : TypeId} (h : K (a.put (some d) (a.tmps.getD s undef)) w) : Oper.wp Tryz.prog { dst := some d, op := Op.move (.tmp s), type := T, pos := ps, after := af, guard := none } a w K Q := by
  unfold Oper.wp
  simp only [execOp]
  exact h
theorem op_assign {d s : Nat} {T : TypeId} (h : K (a.put (some d) (a.tmps.getD s undef)) w) : Oper.wp Tryz.prog { dst := some d, op := Op.assign (.tmp s), type := T, pos := ps, after := af, guard := none } a w K Q := by
  unfold Oper.wp
  simp only [execOp]
  exact h
theorem op_load {d s zb : Nat} {z0 z1 z2 z3 z4 z5 : Value} (hs : a.tmps.getD s undef = .pointer (some ⟨zb, 0, none⟩)) (hb : Blk w zb 55 #[z0, z1, z2, z3, z4, z5]) (h : K (a.put (some d) (.agg #[z0, z1, z2, z3, z4, z5])) w) :
    Oper.wp Tryz.prog { dst := some d, op := Op.load 55 (.tmp s), type := 55, pos := ps, after := af, guard := none } a w K Q := by
  refine wp_load_mid 55 (.tmp s) rfl zb 0 hs [z0, z1, z2, z3, z4, z5] _ (fun j v hv => ?_) Tryz.underlying55 rfl (by kernel_rfl) h
  rw [hb.cell, Nat.zero_add]
  simpa using hv
theorem op_bs1 {z0 z1 z2 z3 z4 z5 : Value} (h16 : a.tmps[16]?.getD undef = .agg #[z0, z1, z2, z3, z4, z5]) (h : K (a.put (some 17) (.slice (some ⟨w.heap.size, 0, none⟩) 1 1)) (w.alloc (.cells #[z0, z1, z2, z3, z4, z5] 55))) :
    Oper.wp Tryz.prog { dst := some 17, op := Op.buildSlice 51 1 #[(0, .tmp 16)], type := 51, pos := ps, after := af, guard := none } a w K Q := by
  unfold Oper.wp
  simp [execOp, Act.eval, h16, go_sem]
  exact h
theorem op_bs2 {z0 z1 z2 z3 z4 z5 : Value} (h20 : a.tmps[20]?.getD undef = .agg #[z0, z1, z2, z3, z4, z5]) (h21 : a.tmps[21]?.getD undef = .agg #[z0, z1, z2, z3, z4, z5]) (h : K (a.put (some 22) (.slice (some ⟨w.heap.size, 0, none⟩) 2 2)) (w.alloc (.cells #[z0, z1, z2, z3, z4, z5, z0, z1, z2, z3, z4, z5] 55))) :
    Oper.wp Tryz.prog { dst := some 22, op := Op.buildSlice 51 2 #[(0, .tmp 20), (1, .tmp 21)], type := 51, pos := ps, after := af, guard := none } a w K Q := by
  unfold Oper.wp
  simp [execOp, Act.eval, h20, h21, go_sem]
  exact h
theorem op_bs3 {z0 z1 z2 z3 z4 z5 : Value} (h25 : a.tmps[25]?.getD undef = .agg #[z0, z1, z2, z3, z4, z5]) (h26 : a.tmps[26]?.getD undef = .agg #[z0, z1, z2, z3, z4, z5]) (h27 : a.tmps[27]?.getD undef = .agg #[z0, z1, z2, z3, z4, z5]) (h : K (a.put (some 28) (.slice (some ⟨w.heap.size, 0, none⟩) 3 3)) (w.alloc (.cells #[z0, z1, z2, z3, z4, z5, z0, z1, z2, z3, z4, z5, z0, z1, z2, z3, z4, z5] 55))) :
    Oper.wp Tryz.prog { dst := some 28, op := Op.buildSlice 51 3 #[(0, .tmp 25), (1, .tmp 26), (2, .tmp 27)], type := 51, pos := ps, after := af, guard := none } a w K Q := by
  unfold Oper.wp
  simp [execOp, Act.eval, h25, h26, h27, go_sem]
  exact h
theorem op_bs4 {o0 o1 o2 o3 : Option Addr} {n0 n1 n2 n3 c0 c1 c2 c3 : Nat} (h14 : a.tmps[14]?.getD undef = .slice o0 n0 c0) (h18 : a.tmps[18]?.getD undef = .slice o1 n1 c1) (h23 : a.tmps[23]?.getD undef = .slice o2 n2 c2) (h29 : a.tmps[29]?.getD undef = .slice o3 n3 c3)
    (h : K (a.put (some 30) (.slice (some ⟨w.heap.size, 0, none⟩) 4 4)) (w.alloc (.cells #[.slice o0 n0 c0, .slice o1 n1 c1, .slice o2 n2 c2, .slice o3 n3 c3] 51))) :
    Oper.wp Tryz.prog { dst := some 30, op := Op.buildSlice 49 4 #[(0, .tmp 14), (1, .tmp 18), (2, .tmp 23), (3, .tmp 29)], type := 49, pos := ps, after := af, guard := none } a w K Q := by
  unfold Oper.wp
  simp [execOp, Act.eval, h14, h18, h23, h29, go_sem]
  exact h

/-- what an append to the owner's list leaves. -/
def Lies' (w : World) (v : Value) (n m : Nat) (v' : Value) (w' : World) : Prop :=
  (∃ g cap, v = .slice (some ⟨g, 0, none⟩) n cap ∧ n + m ≤ cap ∧ v' = .slice (some ⟨g, 0, none⟩) (n + m) cap ∧ Kept (fun k => k = g) w w') ∨
  (∃ g cap c, v' = .slice (some ⟨g, 0, none⟩) (n + m) cap ∧ w.heap.size ≤ g ∧ Blk w' g 55 c ∧ (n + m) * 6 ≤ c.size ∧ Kept (fun _ => False) w w')

theorem op_append {d s x m gb n : Nat} {T : TypeId} {v : Value} {xs news : List Value} (hm0 : 0 < m) (hs : a.tmps.getD s undef = v) (hx : a.tmps.getD x undef = .slice (some ⟨gb, 0, none⟩) m m) (hv : Row w 55 6 v n xs) (hb : Blk w gb 55 news.toArray) (hl : news.length = m * 6) (h1 : ∀ u ∈ news, u.oneCell' = true) (hn : n ≤ 1000000) (hm : m ≤ 3)
    (h : ∀ v' w', Lies' w v n m v' w' → Row w' 55 6 v n xs → K (a.put (some d) v') w') :
    Oper.wp Tryz.prog { dst := some d, op := Op.call { callee := Callee.builtin Builtin.append, args := #[.tmp s, .tmp x], argTypes := #[51, 51] }, type := T, pos := ps, after := af, guard := none } a w K Q := by
  obtain ⟨i0, hi, hz0, hz1, hz2⟩ := info_parts Tryz.infoEntry
  have hnews : ∀ j u, news[j]? = some u → w.cell? ((⟨gb, 0, none⟩ : Addr).add j) = some u := by
    intro j u hj
    have e : (⟨gb, 0, none⟩ : Addr).add j = ⟨gb, j, none⟩ := by cases j <;> simp [Addr.add]
    rw [e, hb.cell]
    simpa using hj
  refine wp_append_full w (.tmp s) (.tmp x) 51 rfl 55 i0 _ 6 56 Tryz.underlying51 hi hz0 hz1 hz2 rfl (by decide) v n xs hs hv ⟨gb, 0, none⟩ m m hm0 news hx hl hnews h1 (by unfold maxLen; omega) (by omega) fun v' w' hp => ?_
  rcases hp with ⟨g, cap, e1, e2, e3, hR, hk⟩ | ⟨g, cap, e1, hg, hR, hk⟩
  · exact h v' w' (.inl ⟨g, cap, e1, e2, e3, hk⟩) hR
  · rcases hR.shape with ⟨_, hn0, _⟩ | ⟨g2, cap2, cur2, hv2, hb2, hc2, _, hs2, _⟩
    · omega
    · rw [e1] at hv2
      injection hv2 with q1 _ q2
      injection q1 with q1
      injection q1 with q1 _ _
      subst q1 q2
      exact h v' w' (.inr ⟨g, cap, cur2, e1, hg, hb2, by rw [hs2]; exact Nat.mul_le_mul_right _ hc2, hk⟩) (hv.kept hk (fun _ _ => id))

end

end Go.Proofs.YtpfcacedpkaihaaGreat

/- The law's entryMark and marked (package almanaclaw), walked. -/
namespace Go.Proofs.YtpfcacedpkaihaaGreat
open Go.RowKit

def mineQ : ByteArray := "(mine)".toUTF8
/-- the mark of list i. -/
def markA (q : ByteArray) (i : Nat) : Array Value := #[.string q, .int .i32 0, .int .u64 0, .int .u64 (i : Int), .bool false, .int .u64 0]

theorem below_drewN {n : Nat} {w w' : World} (h : Below n w w') (m : Nat) : Below n w (w'.drewN m) := ⟨h.os, h.tape, h.output, h.size, h.block⟩

set_option maxHeartbeats 2000000 in
theorem rmarked (w : World) (g n cap i : Nat) (q : ByteArray) (hn : n ≤ 1000000) (hc : ∀ j, j < n → w.cell? ⟨g, j * 6, none⟩ = some (.string q) ∧ w.cell? ⟨g, j * 6 + 1, none⟩ = some (.int .i32 0) ∧ w.cell? ⟨g, j * 6 + 2, none⟩ = some (.int .u64 0) ∧ w.cell? ⟨g, j * 6 + 3, none⟩ = some (.int .u64 (i : Int)) ∧ w.cell? ⟨g, j * 6 + 4, none⟩ = some (.bool false) ∧ w.cell? ⟨g, j * 6 + 5, none⟩ = some (.int .u64 0)) (hg : n = 0 ∨ g < w.heap.size) :
    Calls Tryz.prog 18 #[.slice (some ⟨g, 0, none⟩) n cap, .agg (markA q i)] w fun e w' => e = .returned (.bool true) ∧ Below w.heap.size w w' := by
  unfold markA
  have HC : Hid (∀ j, j < n → w.cell? ⟨g, j * 6, none⟩ = some (.string q) ∧ w.cell? ⟨g, j * 6 + 1, none⟩ = some (.int .i32 0) ∧ w.cell? ⟨g, j * 6 + 2, none⟩ = some (.int .u64 0) ∧ w.cell? ⟨g, j * 6 + 3, none⟩ = some (.int .u64 (i : Int)) ∧ w.cell? ⟨g, j * 6 + 4, none⟩ = some (.bool false) ∧ w.cell? ⟨g, j * 6 + 5, none⟩ = some (.int .u64 0)) := hc
  have HG : Hid (n = 0 ∨ g < w.heap.size) := hg
  clear hc hg
  go_enter Tryz.func18, Tryz.ntmps18
  go_wp2
  go_loopw [5] (fun k wr => ∃ j : Nat, j ≤ n ∧ k = .int .i64 j ∧ Hid (Below w.heap.size w wr ∧ Blk wr w.heap.size 55 (markA q i))) (fun k _ => n - (intOf k).toNat)
  case atStart => exact ⟨0, Nat.zero_le _, rfl, (Below.refl _ _).alloc (Nat.le_refl _) _, Blk.new _ _ _⟩
  case round =>
    obtain ⟨j, hj, rfl, HB⟩ := hrel
    have z0 : wr.cell? ⟨w.heap.size, 0, none⟩ = some (.string q) := HB.out.2.cell 0
    have z3 : wr.cell? ⟨w.heap.size, 3, none⟩ = some (.int .u64 (i : Int)) := HB.out.2.cell 3
    by_cases hlt : j < n
    · have hgz : g < w.heap.size := by have := HG.out; omega
      have hbb := HB.out.1.block g hgz
      obtain ⟨a0, a1, a2, a3, a4, a5⟩ := HC.out j hlt
      have c0 := (World.cell?_of_block (a := ⟨g, j * 6, none⟩) hbb).trans a0
      have c1 := (World.cell?_of_block (a := ⟨g, j * 6 + 1, none⟩) hbb).trans a1
      have c2 := (World.cell?_of_block (a := ⟨g, j * 6 + 2, none⟩) hbb).trans a2
      have c3 := (World.cell?_of_block (a := ⟨g, j * 6 + 3, none⟩) hbb).trans a3
      have c4 := (World.cell?_of_block (a := ⟨g, j * 6 + 4, none⟩) hbb).trans a4
      have c5 := (World.cell?_of_block (a := ⟨g, j * 6 + 5, none⟩) hbb).trans a5
      clear a0 a1 a2 a3 a4 a5 hbb
      have hj0 : (0 : Int) ≤ (j : Int) := by omega
      have hj1 : (j : Int) < (n : Int) := by omega
      go_wp2_with fail
      go_quiet (fail)
      go_wp2
      go_roundw
      case rel => exact ⟨j + 1, by omega, by go_num, below_drewN HB.out.1 _, HB.out.2.same rfl⟩
      case measure => simp [intOf]; omega
    · go_wp2
      go_ret
      exact ⟨rfl, HB.out.1⟩

end Go.Proofs.YtpfcacedpkaihaaGreat

/- The law's entryMark, and the great statement of book.entries (package almanaclaw): what is known within it. -/
namespace Go.Proofs.YtpfcacedpkaihaaGreat
open Go.RowKit

/-- the text of the marks. -/
def mq : ByteArray := ⟨#[40, 109, 105, 110, 101, 41]⟩
def markE (i : Nat) : Array Value := #[.string mq, .int .i32 0, .int .u64 0, .int .u64 (i : Int), .bool false, .int .u64 0]

set_option maxHeartbeats 1000000 in
theorem rentryMark (w : World) (i : Nat) (hi : i ≤ 4611686018427387904) :
    Calls Tryz.prog 19 #[.int .i64 (i : Int)] w fun e w' => e = .returned (.agg #[.string mq, .int .i32 0, .int .u64 0, .int .u64 (i : Int), .bool false, .int .u64 0]) ∧ Kept (fun _ => False) w w' := by
  go_enter Tryz.func19, Tryz.ntmps19
  go_wp2
  refine bodyPost_ret (v := .agg #[.string mq, .int .i32 0, .int .u64 0, .int .u64 (i : Int), .bool false, .int .u64 0]) (by simp [results, Tryz.results19, go_sem, mq]) rfl ⟨rfl, Kept.alloc _ _ _⟩

/-- k marks, one behind the other. -/
def marksL (i : Nat) : Nat → List Value
  | 0 => []
  | k + 1 => (markE i).toList ++ marksL i k

def IsB (w0 : World) (i k : Nat) (w : World) (x : Value) : Prop := ∃ gb, x = .slice (some ⟨gb, 0, none⟩) k k ∧ w0.heap.size ≤ gb ∧ Blk w gb 55 (marksL i k).toArray
def IsA (w0 : World) (lo : Option Addr) (m lc k : Nat) (w : World) (x : Value) : Prop :=
  ∃ g cap, x = .slice (some ⟨g, 0, none⟩) (m + k) cap ∧ ((lo = some ⟨g, 0, none⟩ ∧ m + k ≤ lc) ∨ (w0.heap.size ≤ g ∧ ∃ c, Blk w g 55 c ∧ (m + k) * 6 ≤ c.size))
def IsN (w0 : World) (lo : Option Addr) (m lc : Nat) (w : World) (x : Value) : Prop :=
  ∃ N a1 a2 a3, x = .slice (some ⟨N, 0, none⟩) 4 4 ∧ w0.heap.size ≤ N ∧ Blk w N 51 #[.slice lo m lc, a1, a2, a3] ∧ IsA w0 lo m lc 1 w a1 ∧ IsA w0 lo m lc 2 w a2 ∧ IsA w0 lo m lc 3 w a3

def VE (w0 : World) (lo : Option Addr) (m lc i : Nat) : Nat → World → Value → Prop
  | 0 => fun _ x => x = .slice lo m lc
  | 1 => fun _ x => x = .slice lo m lc
  | 2 => fun _ x => x = .agg (markE i)
  | 3 => IsB w0 i 1
  | 4 => IsA w0 lo m lc 1
  | 5 => fun _ x => x = .slice lo m lc
  | 6 => fun _ x => x = .agg (markE i)
  | 7 => fun _ x => x = .agg (markE i)
  | 8 => IsB w0 i 2
  | 9 => IsA w0 lo m lc 2
  | 10 => fun _ x => x = .slice lo m lc
  | 11 => fun _ x => x = .agg (markE i)
  | 12 => fun _ x => x = .agg (markE i)
  | 13 => fun _ x => x = .agg (markE i)
  | 14 => IsB w0 i 3
  | 15 => IsA w0 lo m lc 3
  | _ => IsN w0 lo m lc

def dstE (i : Nat) : Nat := if i = 17 then 5 else 14 + i

structure SE (w0 : World) (lo : Option Addr) (m lc i zb : Nat) (xs : List Value) (w : World) : Prop where
  kept : Kept (fun k => (Value.slice lo m lc).ownBlock = some k) w0 w
  row : Row w 55 6 (.slice lo m lc) m xs
  z : Blk w zb 55 (markE i)

theorem VE.mono {w0 w w' : World} {lo : Option Addr} {m lc i : Nat} (hl : ∀ k, (Value.slice lo m lc).ownBlock = some k → k < w0.heap.size) (k : Kept (fun k => (Value.slice lo m lc).ownBlock = some k) w w') : ∀ j x, VE w0 lo m lc i j w x → VE w0 lo m lc i j w' x := by
  have fb : ∀ q x, IsB w0 i q w x → IsB w0 i q w' x := by
    rintro q x ⟨gb, h1, h2, h3⟩
    exact ⟨gb, h1, h2, h3.kept k fun h => by have := hl _ h; omega⟩
  have fa : ∀ q x, IsA w0 lo m lc q w x → IsA w0 lo m lc q w' x := by
    rintro q x ⟨g, cap, h1, h2 | ⟨h2, c, h3, h4⟩⟩
    · exact ⟨g, cap, h1, .inl h2⟩
    · exact ⟨g, cap, h1, .inr ⟨h2, c, h3.kept k fun h => by have := hl _ h; omega, h4⟩⟩
  have fn : ∀ x, IsN w0 lo m lc w x → IsN w0 lo m lc w' x := by
    rintro x ⟨N, a1, a2, a3, h1, h2, h3, h4, h5, h6⟩
    exact ⟨N, a1, a2, a3, h1, h2, h3.kept k fun h => by have := hl _ h; omega, fa _ _ h4, fa _ _ h5, fa _ _ h6⟩
  intro j x h
  match j, h with
  | 0, h => exact h
  | 1, h => exact h
  | 2, h => exact h
  | 3, h => exact fb _ _ h
  | 4, h => exact fa _ _ h
  | 5, h => exact h
  | 6, h => exact h
  | 7, h => exact h
  | 8, h => exact fb _ _ h
  | 9, h => exact fa _ _ h
  | 10, h => exact h
  | 11, h => exact h
  | 12, h => exact h
  | 13, h => exact h
  | 14, h => exact fb _ _ h
  | 15, h => exact fa _ _ h
  | _ + 16, h => exact fn _ h

theorem SE.alloc {w0 w : World} {lo : Option Addr} {m lc i zb : Nat} {xs : List Value} (h : SE w0 lo m lc i zb xs w) (o : Obj) : SE w0 lo m lc i zb xs (w.alloc o) :=
  ⟨h.kept.trans (Kept.alloc w o (fun _ => False)) (fun _ => id) (fun _ _ => False.elim), h.row.kept (Kept.alloc w o (fun _ => False)) (fun _ _ => id), h.z.kept (Kept.alloc w o (fun _ => False)) id⟩

theorem SE.app {w0 w w' : World} {lo : Option Addr} {m lc i zb k : Nat} {xs : List Value} {v' : Value} (h : SE w0 lo m lc i zb xs w) (hz : (Value.slice lo m lc).ownBlock ≠ some zb) (hk : Lies' w (.slice lo m lc) m k v' w') (hr : Row w' 55 6 (.slice lo m lc) m xs) :
    SE w0 lo m lc i zb xs w' ∧ Kept (fun k => (Value.slice lo m lc).ownBlock = some k) w w' ∧ IsA w0 lo m lc k w' v' := by
  rcases hk with ⟨g, cap, e1, e2, e3, hk⟩ | ⟨g, cap, c, e1, hg, hb, hc, hk⟩
  · injection e1 with q1 _ q2
    subst q1 q2
    have hk' : Kept (fun k => (Value.slice (some ⟨g, 0, none⟩) m lc).ownBlock = some k) w w' := hk.mono fun x hx => by rw [hx]; rfl
    exact ⟨⟨h.kept.trans hk' (fun _ => id) (fun _ _ => id), hr, h.z.kept hk' hz⟩, hk', g, lc, e3, .inl ⟨rfl, e2⟩⟩
  · have hk' : Kept (fun k => (Value.slice lo m lc).ownBlock = some k) w w' := hk.mono fun _ => False.elim
    exact ⟨⟨h.kept.trans hk' (fun _ => id) (fun _ _ => id), hr, h.z.kept hk' hz⟩, hk', g, cap, e1, .inr ⟨Nat.le_trans h.kept.size hg, c, hb, hc⟩⟩

end Go.Proofs.YtpfcacedpkaihaaGreat
