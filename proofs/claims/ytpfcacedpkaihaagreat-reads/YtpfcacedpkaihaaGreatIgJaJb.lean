import Derived.Test.YtpfcacedpkaihaaGreatIf
/- The document's Store (package almanacref): what stands on its way. -/
namespace Go.Proofs.YtpfcacedpkaihaaGreat
open Go.RowKit

/-- an entry written into six cells. -/
abbrev set6 (W : World) (P o : Nat) (e : EntE) : World :=
  (((((W.setCell ⟨P, o, none⟩ (.string e.q)).setCell ⟨P, o + 1, none⟩ (.int .i32 e.val)).setCell ⟨P, o + 2, none⟩ (.int .u64 (e.fr : Int))).setCell ⟨P, o + 3, none⟩ (.int .u64 (e.till : Int))).setCell ⟨P, o + 4, none⟩ (.bool e.op)).setCell ⟨P, o + 5, none⟩ (.int .u64 (e.kn : Int))
theorem set6_kept (W : World) (P o : Nat) (e : EntE) : Kept (fun k => k = P) W (set6 W P o e) := by
  have st : ∀ (a : World) (f : Nat) (v : Value), Kept (fun k => k = P) W a → Kept (fun k => k = P) W (a.setCell ⟨P, f, none⟩ v) := fun a f v ha => ha.trans (Kept.setCell a _ v) (fun _ => id) (fun _ _ hk => hk)
  exact st _ _ _ (st _ _ _ (st _ _ _ (st _ _ _ (st _ _ _ (st _ _ _ (Kept.refl _ _))))))
theorem Blk.set6 {W : World} {P : Nat} {x : EntE} (h : Blk W P 55 (entA x)) (e : EntE) : Blk (set6 W P 0 e) P 55 (entA e) :=
  (((((h.set 0 _).set 1 _).set 2 _).set 3 _).set 4 _).set 5 _
theorem Row.set6 {W : World} {v : Value} {g n j : Nat} {l : List EntE} (h : Row W 55 6 v n (l.flatMap entC)) (hg : v.ownBlock = some g) (hj : j < l.length) (e : EntE) :
    Row (Go.Proofs.YtpfcacedpkaihaaGreat.set6 W g (j * 6) e) 55 6 v n ((l.set j e).flatMap entC) := by
  have s0 := flat_set entC 6 (fun _ => rfl) l j hj 0 (by omega) (.string e.q) { l[j] with q := e.q } rfl
  have r0 := h.set hg (j * 6 + 0) (.string e.q)
  rw [s0] at r0
  have l1 : j < (l.set j { l[j] with q := e.q }).length := by simpa using hj
  have s1 := flat_set entC 6 (fun _ => rfl) _ j l1 1 (by omega) (.int .i32 e.val) { l[j] with q := e.q, val := e.val } (by rw [List.getElem_set_self]; rfl)
  have r1 := r0.set hg (j * 6 + 1) (.int .i32 e.val)
  rw [s1, List.set_set] at r1
  have l2 : j < (l.set j { l[j] with q := e.q, val := e.val }).length := by simpa using hj
  have s2 := flat_set entC 6 (fun _ => rfl) _ j l2 2 (by omega) (.int .u64 (e.fr : Int)) { l[j] with q := e.q, val := e.val, fr := e.fr } (by rw [List.getElem_set_self]; rfl)
  have r2 := r1.set hg (j * 6 + 2) (.int .u64 (e.fr : Int))
  rw [s2, List.set_set] at r2
  have l3 : j < (l.set j { l[j] with q := e.q, val := e.val, fr := e.fr }).length := by simpa using hj
  have s3 := flat_set entC 6 (fun _ => rfl) _ j l3 3 (by omega) (.int .u64 (e.till : Int)) { l[j] with q := e.q, val := e.val, fr := e.fr, till := e.till } (by rw [List.getElem_set_self]; rfl)
  have r3 := r2.set hg (j * 6 + 3) (.int .u64 (e.till : Int))
  rw [s3, List.set_set] at r3
  have l4 : j < (l.set j { l[j] with q := e.q, val := e.val, fr := e.fr, till := e.till }).length := by simpa using hj
  have s4 := flat_set entC 6 (fun _ => rfl) _ j l4 4 (by omega) (.bool e.op) { l[j] with q := e.q, val := e.val, fr := e.fr, till := e.till, op := e.op } (by rw [List.getElem_set_self]; rfl)
  have r4 := r3.set hg (j * 6 + 4) (.bool e.op)
  rw [s4, List.set_set] at r4
  have l5 : j < (l.set j { l[j] with q := e.q, val := e.val, fr := e.fr, till := e.till, op := e.op }).length := by simpa using hj
  have s5 := flat_set entC 6 (fun _ => rfl) _ j l5 5 (by omega) (.int .u64 (e.kn : Int)) e (by rw [List.getElem_set_self]; rfl)
  have r5 := r4.set hg (j * 6 + 5) (.int .u64 (e.kn : Int))
  rw [s5, List.set_set] at r5
  exact r5

/-- a world on its way from another, with an entry in a box of its own. -/
structure Storing (w : World) (b : Nat) (R : RefS) (W : World) (R' : RefS) (P : Nat) (p : EntE) : Prop where
  bec : Became w b R W R'
  box : Blk W P 55 (entA p)
  away : ¬ R'.fp b P

theorem Storing.next {w W W2 : World} {b P : Nat} {R R' R2 : RefS} {p : EntE} (h : Storing w b R W R' P p) (h2 : Became W b R' W2 R2) : Storing w b R W2 R2 P p :=
  ⟨h.bec.trans h2, h.box.kept h2.2.1 h.away, fun hp => by
    rcases h2.2.2 P hp with h1 | h1
    · exact h.away h1
    · have := h.box.lt; omega⟩
theorem Became.kept {w w1 : World} {b : Nat} {R : RefS} (h : Ref w b R) (k : Kept (fun _ => False) w w1) : Became w b R w1 R := ⟨h.kept k (fun _ _ => id), k.mono (fun _ => False.elim), fun _ hx => .inl hx⟩
theorem Storing.same {w W W2 : World} {b P : Nat} {R R' : RefS} {p : EntE} (h : Storing w b R W R' P p) (k : Kept (fun _ => False) W W2) : Storing w b R W2 R' P p := h.next (Became.kept h.bec.1 k)
theorem Storing.setBox {w W : World} {b P : Nat} {R R' : RefS} {p : EntE} (h : Storing w b R W R' P p) (hP : w.heap.size ≤ P) (p' : EntE) : Storing w b R (Go.Proofs.YtpfcacedpkaihaaGreat.set6 W P 0 p') R' P p' := by
  have k := set6_kept W P 0 p'
  refine ⟨⟨h.bec.1.kept k fun j hj e => h.away (e ▸ hj), h.bec.2.1.trans k (fun _ => id) (fun i hi e => by omega), h.bec.2.2⟩, h.box.set6 p', h.away⟩

/-- a node's entries have turned where they lie. -/
theorem Ref.turnEnts {w w1 : World} {b k : Nat} {R : RefS} {nd : NodeE} (h : Ref w b R) (hnd : R.nodes[k]? = some nd) (l : List EntE) (k1 : Kept (fun j => nd.en.ownBlock = some j) w w1) (hr : Row w1 55 6 nd.en l.length (l.flatMap entC)) : Became w b R w1 (R.putN k (nd.setEnts l nd.en)) := by
  obtain ⟨hk, hnd'⟩ := List.getElem?_eq_some_iff.mp hnd
  have hrn : Row w1 146 7 R.vn R.nodes.length (R.nodes.flatMap nodeC) := h.nodes.kept k1 fun j hj he => by
    have := (h.ents nd (List.mem_of_getElem? hnd)).ne_row h.nodes (by decide) j he
    exact this hj
  refine h.putF hnd (f := 2) (r := ⟨55, 6, nd.en, nd.ents.length, nd.ents.flatMap entC⟩) (r' := ⟨55, 6, nd.en, l.length, l.flatMap entC⟩) (by omega) rfl rfl k1 hr (fun x hx => .inl hx) (Kept.refl _ _) ?_
  rw [List.length_set]
  have e : (R.nodes.set k (nd.setEnts l nd.en)).flatMap nodeC = R.nodes.flatMap nodeC := by
    have := flat_set nodeC 7 (fun _ => rfl) R.nodes k hk 0 (by omega) (.bool nd.up) (nd.setEnts l nd.en) (by rw [hnd']; rfl)
    rw [← this]
    refine List.ext_getElem? fun j => ?_
    rw [List.getElem?_set]
    split
    · rename_i e
      subst e
      split
      · rename_i hlt
        have := flat_at nodeC 7 (fun _ => rfl) R.nodes k hk 0 (by omega)
        rw [hnd'] at this
        exact this.symm
      · rename_i hlt
        exact (List.getElem?_eq_none (by omega)).symm
    · rfl
  rw [e]
  exact hrn

def RefS.pushUse (R : RefS) (x : Int) (v : Value) : RefS := { R with uses := R.uses ++ [x], vs := v }
theorem Ref.pushUse {w w' : World} {b : Nat} {R : RefS} (h : Ref w b R) (x : Int) (v : Value) (hA : Appended w w' 3 1 R.vs v R.uses.length 1 (i64s R.uses) [.int .i64 x]) : Became w b R (w'.setCell ⟨b, 6, none⟩ v) (R.pushUse x v) := by
  have hr : Row w' 3 1 v (R.uses ++ [x]).length (i64s (R.uses ++ [x])) := by
    rw [List.length_append, show i64s (R.uses ++ [x]) = i64s R.uses ++ [.int .i64 x] by simp [i64s]]
    exact hA.row
  exact h.put 4 6 ⟨3, 1, R.vs, R.uses.length, i64s R.uses⟩ ⟨3, 1, v, (R.uses ++ [x]).length, i64s (R.uses ++ [x])⟩ rfl hA.kept hr (fun y hy => by
    rcases hA.own with e | e
    · exact .inl (by rw [← e]; exact hy)
    · exact .inr (e y hy)) rfl (by dsimp only; decide) rfl
theorem Ref.next1 {w : World} {b : Nat} {R : RefS} (h : Ref w b R) (x : Int) : Became w b R (w.setCell ⟨b, 7, none⟩ (.int .i64 x)) { R with next := x } := by
  have k := Kept.setCell w ⟨b, 7, none⟩ (.int .i64 x)
  refine ⟨⟨h.blk.set 7 _, h.all.kept k ?_⟩, k.mono fun j hj => .inl hj, fun _ hx => .inl hx⟩
  rintro j ⟨r, hr, hj⟩ he
  subst he
  exact h.ne r hr hj

/-- an append to a node's entries. -/
theorem Ref.pushEnt {w w1 : World} {b k g : Nat} {R : RefS} {nd : NodeE} (h : Ref w b R) (hnd : R.nodes[k]? = some nd) (ho : R.vn.ownBlock = some g) (p : EntE) (v : Value) (hA : Appended w w1 55 6 nd.en v nd.ents.length 1 (nd.ents.flatMap entC) (entC p)) :
    Became w b R (w1.setCell ⟨g, k * 7 + 5, none⟩ v) (R.putN k (nd.setEnts (nd.ents ++ [p]) v)) :=
  h.setEnts hnd ho _ v hA.kept (by rw [List.length_append, List.flatMap_append, List.flatMap_singleton]; exact hA.row) fun y hy => by
    rcases hA.own with e | e
    · exact .inl (by rw [← e]; exact hy)
    · exact .inr (e y hy)
theorem Ref.pushNm {w w1 : World} {b k g : Nat} {R : RefS} {nd : NodeE} (h : Ref w b R) (hnd : R.nodes[k]? = some nd) (ho : R.vn.ownBlock = some g) (x : Int) (v : Value) (hA : Appended w w1 3 1 nd.nm v nd.nms.length 1 (i64s nd.nms) [.int .i64 x]) :
    Became w b R (w1.setCell ⟨g, k * 7 + 6, none⟩ v) (R.putN k (nd.setNms (nd.nms ++ [x]) v)) :=
  h.setNms hnd ho _ v hA.kept (by rw [List.length_append, show i64s (nd.nms ++ [x]) = i64s nd.nms ++ [.int .i64 x] by simp [i64s]]; exact hA.row) fun y hy => by
    rcases hA.own with e | e
    · exact .inl (by rw [← e]; exact hy)
    · exact .inr (e y hy)

end Go.Proofs.YtpfcacedpkaihaaGreat

/- The document's withoutStamp (package almanacref), walked. -/
namespace Go.Proofs.YtpfcacedpkaihaaGreat
open Go.RowKit

theorem Tryz.infoSt : (Tryz.prog.info? 53).map (fun i => (i.zero, i.size, i.bytes)) = some (some (.int .u64 0), 1, 8) := by kernel_rfl
theorem oneCell_u64s (l : List Nat) : ∀ u ∈ u64s l, u.oneCell' = true := by
  intro u hu
  simp [u64s] at hu
  obtain ⟨a, _, rfl⟩ := hu
  rfl
theorem u64s_app (a b : List Nat) : u64s (a ++ b) = u64s a ++ u64s b := List.map_append
theorem u64s_len (l : List Nat) : (u64s l).length = l.length * 1 := by simp [u64s]

def WithoutSPost (w : World) (n : Nat) (l' : List Nat) (e : Ending) (w' : World) : Prop :=
  ∃ v, e = .returned v ∧ Row w' 53 1 v (n - 1) (u64s l') ∧ Kept (fun _ => False) w w' ∧ (∀ x, v.ownBlock = some x → w.heap.size ≤ x)

theorem withoutS_done {w w1 w2 : World} {n i m : Nat} {l : List Nat} {v1 v2 : Value} (hl : l.length = n) (hi : i < n) (hm : m = n - (i + 1))
    (h1 : Row w1 53 1 v1 i (u64s (l.take i)) ∧ Kept (fun _ => False) w w1 ∧ (∀ x, v1.ownBlock = some x → w.heap.size ≤ x))
    (hA : Appended w1 w2 53 1 v1 v2 i m (u64s (l.take i)) (u64s (l.drop (i + 1)))) : WithoutSPost w n (l.eraseIdx i) (.returned v2) w2 := by
  refine ⟨v2, rfl, ?_, h1.2.1.trans hA.kept (fun _ => id) (fun x hx he => ?_), fun x hx => ?_⟩
  · have := hA.row
    rw [← u64s_app, ← List.eraseIdx_eq_take_drop_succ, show i + m = n - 1 by omega] at this
    exact this
  · have := h1.2.2 x he; omega
  · rcases hA.own with e | e
    · exact h1.2.2 x (by rw [← e]; exact hx)
    · exact Nat.le_trans h1.2.1.size (e x hx)

set_option maxRecDepth 100000 in
set_option maxHeartbeats 1000000 in
theorem rwithoutStamp (w : World) (g n cap i : Nat) (l : List Nat) (hr : Row w 53 1 (.slice (some ⟨g, 0, none⟩) n cap) n (u64s l)) (hl : l.length = n) (hi : i < n) (hn : n ≤ 1000) (hcap : n ≤ cap) (hcm : cap ≤ maxLen) :
    Calls Tryz.prog 114 #[.slice (some ⟨g, 0, none⟩) n cap, .int .i64 i] w fun e w' => WithoutSPost w n (l.eraseIdx i) e w' := by
  unfold maxLen at hcm
  obtain ⟨i0, hi0, hz0, hz1, hz2⟩ := info_parts Tryz.infoSt
  have HI : Hid (Tryz.prog.info? 53 = some i0 ∧ i0.zero = some (.int .u64 0) ∧ i0.size = 1 ∧ i0.bytes = 8) := ⟨hi0, hz0, hz1, hz2⟩
  clear hi0 hz0 hz1 hz2
  have HN1 : Hid (∀ j u, (u64s (l.take i))[j]? = some u → w.cell? ((⟨g, 0, none⟩ : Addr).add j) = some u) := by
    intro j u hj
    have e : (⟨g, 0, none⟩ : Addr).add j = ⟨g, j, none⟩ := by cases j <;> simp [Addr.add]
    rw [e]
    refine hr.cell rfl j u ?_
    have hjl := (List.getElem?_eq_some_iff.mp hj).1
    rw [← List.take_append_drop i l, u64s_app, List.getElem?_append_left hjl]; exact hj
  have HL1 : Hid ((u64s (l.take i)).length = i * 1) := by
    show _ = _
    rw [u64s_len, List.length_take]; congr 1; omega
  have hii : (i : Int) ≤ (cap : Int) := by omega
  have hii1 : (i : Int) + 1 ≤ (n : Int) := by omega
  have hnc : (n : Int) ≤ (cap : Int) := by omega
  have b0 : 0 + i ≤ maxLen := by unfold maxLen; omega
  have b1 : (0 + i) * 8 ≤ 140737488355328 := by omega
  have HL2 : Hid ((u64s (l.drop (i + 1))).length = (n - (i + 1)) * 1) := by
    show _ = _
    rw [u64s_len, List.length_drop, hl]
  have b2 : i + (n - (i + 1)) ≤ maxLen := by unfold maxLen; omega
  have b3 : (i + (n - (i + 1))) * 8 ≤ 140737488355328 := by omega
  have HR : Hid (Row w 53 1 (.slice (some ⟨g, 0, none⟩) n cap) n (u64s l)) := hr
  clear hr
  by_cases hce : cap = i + 1
  · have HN2 : Hid (∀ w1, Kept (fun _ => False) w w1 → ∀ j u, (u64s (l.drop (i + 1)))[j]? = some u → w1.cell? ((⟨g, 0, none⟩ : Addr).add j) = some u) := by
      intro w1 _ j u hj
      rw [List.drop_eq_nil_of_le (by omega)] at hj
      simp [u64s] at hj
    subst hce
    obtain rfl : n = i + 1 := by omega
    have HL3 : Hid ((u64s (l.drop (i + 1))).length = 0 * 1) := by
      show _ = _
      rw [HL2.out]; omega
    have b4 : i + 0 ≤ maxLen := by unfold maxLen; omega
    have b5 : (i + 0) * 8 ≤ 140737488355328 := by omega
    go_enter Tryz.func114, Tryz.ntmps114
    go_wp2_with (first
      | (at_builtin; refine wpList_append_mine _ rfl (.tmp 6) (.tmp 9) 144 rfl 53 i0 (.int .u64 0) 1 8 Tryz.underlying144 HI.out.1 HI.out.2.1 HI.out.2.2.1 HI.out.2.2.2 rfl (by decide) (.slice none 0 0) 0 [] rfl (Row.nil _ _ _) ⟨g, 0, none⟩ i (i + 1) (u64s (l.take i)) rfl HL1.out HN1.out (oneCell_u64s _) b0 b1 ?_; intro v1 w1 hA1; have H1 : Hid (Row w1 53 1 v1 i (u64s (l.take i)) ∧ Kept (fun _ => False) w w1 ∧ (∀ x, v1.ownBlock = some x → w.heap.size ≤ x)) := ⟨by have := hA1.row; rw [Nat.zero_add, List.nil_append] at this; exact this, hA1.kept.mono (fun k hk => by simp [Value.ownBlock] at hk), fun x hx => hA1.own.elim (fun e => by rw [e] at hx; simp [Value.ownBlock] at hx) (fun e => e x hx)⟩; clear hA1)
      | (at_builtin; refine wpList_append_mine _ rfl (.tmp 11) (.tmp 15) 144 rfl 53 i0 (.int .u64 0) 1 8 Tryz.underlying144 HI.out.1 HI.out.2.1 HI.out.2.2.1 HI.out.2.2.2 rfl (by decide) _ i (u64s (l.take i)) rfl H1.out.1 ⟨g, 0, none⟩ 0 0 (u64s (l.drop (i + 1))) rfl HL3.out (HN2.out w1 H1.out.2.1) (oneCell_u64s _) b4 b5 ?_; intro v2 w2 hA2; have H2 : Hid (WithoutSPost w (i + 1) (l.eraseIdx i) (.returned v2) w2) := withoutS_done hl hi (by omega) H1.out hA2; clear hA2))
    go_ret
    exact H2.out
  · have HN2 : Hid (∀ w1, Kept (fun _ => False) w w1 → ∀ j u, (u64s (l.drop (i + 1)))[j]? = some u → w1.cell? ((⟨g, i + 1, none⟩ : Addr).add j) = some u) := by
      intro w1 hk j u hj
      have e : (⟨g, i + 1, none⟩ : Addr).add j = ⟨g, i + 1 + j, none⟩ := by cases j <;> simp [Addr.add]
      rw [e]
      refine (HR.out.kept hk (fun _ _ => id)).cell rfl (i + 1 + j) u ?_
      have hlen : (u64s (l.take (i + 1))).length = i + 1 := by rw [u64s_len, List.length_take]; omega
      rw [← List.take_append_drop (i + 1) l, u64s_app, List.getElem?_append_right (by omega), hlen, Nat.add_sub_cancel_left]; exact hj
    go_enter Tryz.func114, Tryz.ntmps114
    go_wp2_with (first
      | (at_builtin; refine wpList_append_mine _ rfl (.tmp 6) (.tmp 9) 144 rfl 53 i0 (.int .u64 0) 1 8 Tryz.underlying144 HI.out.1 HI.out.2.1 HI.out.2.2.1 HI.out.2.2.2 rfl (by decide) (.slice none 0 0) 0 [] rfl (Row.nil _ _ _) ⟨g, 0, none⟩ i cap (u64s (l.take i)) rfl HL1.out HN1.out (oneCell_u64s _) b0 b1 ?_; intro v1 w1 hA1; have H1 : Hid (Row w1 53 1 v1 i (u64s (l.take i)) ∧ Kept (fun _ => False) w w1 ∧ (∀ x, v1.ownBlock = some x → w.heap.size ≤ x)) := ⟨by have := hA1.row; rw [Nat.zero_add, List.nil_append] at this; exact this, hA1.kept.mono (fun k hk => by simp [Value.ownBlock] at hk), fun x hx => hA1.own.elim (fun e => by rw [e] at hx; simp [Value.ownBlock] at hx) (fun e => e x hx)⟩; clear hA1)
      | (at_builtin; refine wpList_append_mine _ rfl (.tmp 11) (.tmp 15) 144 rfl 53 i0 (.int .u64 0) 1 8 Tryz.underlying144 HI.out.1 HI.out.2.1 HI.out.2.2.1 HI.out.2.2.2 rfl (by decide) _ i (u64s (l.take i)) rfl H1.out.1 ⟨g, i + 1, none⟩ (n - (i + 1)) (cap - (i + 1)) (u64s (l.drop (i + 1))) rfl HL2.out (HN2.out w1 H1.out.2.1) (oneCell_u64s _) b2 b3 ?_; intro v2 w2 hA2; have H2 : Hid (WithoutSPost w n (l.eraseIdx i) (.returned v2) w2) := withoutS_done hl hi rfl H1.out hA2; clear hA2))
    go_ret
    exact H2.out

end Go.Proofs.YtpfcacedpkaihaaGreat

/- The document's world as plain data; what turns of a node of it; its link, Lose, waits, Restart (package almanacref), walked. -/
namespace Go.Proofs.YtpfcacedpkaihaaGreat
open Go.RowKit

/-- a node of the document's, as plain data. -/
structure RNode where
  up : Bool
  since : Nat
  horizon : Nat
  fls : List Nat
  wts : List Nat
  ents : List EntE
  nms : List Int
def NodeE.p (n : NodeE) : RNode := ⟨n.up, n.since, n.horizon, n.fls, n.wts, n.ents, n.nms⟩
/-- a node has turned. -/
def RTurns (w : World) (b : Nat) (R : RefS) (k : Nat) (p : RNode) (w' : World) : Prop := ∃ nd', nd'.p = p ∧ Became w b R w' (R.putN k nd')
theorem RTurns.next {w w1 w2 : World} {b k : Nat} {R : RefS} {p p2 : RNode} (h : RTurns w b R k p w1) (h2 : ∀ nd', nd'.p = p → Ref w1 b (R.putN k nd') → RTurns w1 b (R.putN k nd') k p2 w2) : RTurns w b R k p2 w2 := by
  obtain ⟨n1, e1, b1⟩ := h
  obtain ⟨n2, e2, b2⟩ := h2 n1 e1 b1.1
  refine ⟨n2, e2, ?_⟩
  have := b1.trans b2
  rw [show (R.putN k n1).putN k n2 = R.putN k n2 by simp [RefS.putN, List.set_set]] at this
  exact this

theorem Ref.setFlB {w w1 : World} {b k g : Nat} {R : RefS} {nd : NodeE} (h : Ref w b R) (hnd : R.nodes[k]? = some nd) (ho : R.vn.ownBlock = some g) (l : List Nat) (v : Value) (k1 : Kept (fun j => nd.fl.ownBlock = some j) w w1) (hr : Row w1 53 1 v l.length (u64s l)) (hown : ∀ x, v.ownBlock = some x → nd.fl.ownBlock = some x ∨ w.heap.size ≤ x) :
    RTurns w b R k { nd.p with fls := l } (w1.setCell ⟨g, k * 7 + 3, none⟩ v) := by
  obtain ⟨hk, hnd'⟩ := List.getElem?_eq_some_iff.mp hnd
  have hrn : Row w1 146 7 R.vn R.nodes.length (R.nodes.flatMap nodeC) := h.nodes.kept k1 fun j hj he => by
    have := (h.fls nd (List.mem_of_getElem? hnd)).ne_row h.nodes (by decide) j he
    exact this hj
  refine ⟨{ nd with fl := v, fls := l }, rfl, h.putF hnd (f := 0) (r := ⟨53, 1, nd.fl, nd.fls.length, u64s nd.fls⟩) (r' := ⟨53, 1, v, l.length, u64s l⟩) (by omega) rfl rfl k1 hr hown ((Kept.setCell w1 _ _).mono fun j hj => by rw [ho, hj]) ?_⟩
  have := hrn.set ho (k * 7 + 3) v
  rw [flat_set nodeC 7 (fun _ => rfl) R.nodes k hk 3 (by omega) v { nd with fl := v, fls := l } (by rw [hnd']; rfl)] at this
  rw [List.length_set]
  exact this
theorem Ref.setWtB {w w1 : World} {b k g : Nat} {R : RefS} {nd : NodeE} (h : Ref w b R) (hnd : R.nodes[k]? = some nd) (ho : R.vn.ownBlock = some g) (l : List Nat) (v : Value) (k1 : Kept (fun j => nd.wt.ownBlock = some j) w w1) (hr : Row w1 53 1 v l.length (u64s l)) (hown : ∀ x, v.ownBlock = some x → nd.wt.ownBlock = some x ∨ w.heap.size ≤ x) :
    RTurns w b R k { nd.p with wts := l } (w1.setCell ⟨g, k * 7 + 4, none⟩ v) := by
  obtain ⟨hk, hnd'⟩ := List.getElem?_eq_some_iff.mp hnd
  have hrn : Row w1 146 7 R.vn R.nodes.length (R.nodes.flatMap nodeC) := h.nodes.kept k1 fun j hj he => by
    have := (h.wts nd (List.mem_of_getElem? hnd)).ne_row h.nodes (by decide) j he
    exact this hj
  refine ⟨{ nd with wt := v, wts := l }, rfl, h.putF hnd (f := 1) (r := ⟨53, 1, nd.wt, nd.wts.length, u64s nd.wts⟩) (r' := ⟨53, 1, v, l.length, u64s l⟩) (by omega) rfl rfl k1 hr hown ((Kept.setCell w1 _ _).mono fun j hj => by rw [ho, hj]) ?_⟩
  have := hrn.set ho (k * 7 + 4) v
  rw [flat_set nodeC 7 (fun _ => rfl) R.nodes k hk 4 (by omega) v { nd with wt := v, wts := l } (by rw [hnd']; rfl)] at this
  rw [List.length_set]
  exact this
theorem Ref.setHzB {w : World} {b k g : Nat} {R : RefS} {nd : NodeE} (h : Ref w b R) (hnd : R.nodes[k]? = some nd) (ho : R.vn.ownBlock = some g) (t : Nat) :
    RTurns w b R k { nd.p with horizon := t } (w.setCell ⟨g, k * 7 + 2, none⟩ (.int .u64 (t : Int))) := by
  obtain ⟨hk, hnd'⟩ := List.getElem?_eq_some_iff.mp hnd
  refine ⟨{ nd with horizon := t }, rfl, h.putF hnd (f := 0) (r := ⟨53, 1, nd.fl, nd.fls.length, u64s nd.fls⟩) (r' := ⟨53, 1, nd.fl, nd.fls.length, u64s nd.fls⟩) (by omega) rfl rfl (Kept.refl _ w) (h.fls nd (List.mem_of_getElem? hnd)) (fun x hx => .inl hx) ((Kept.setCell w _ _).mono fun j hj => by rw [ho, hj]) ?_⟩
  have := h.nodes.set ho (k * 7 + 2) (.int .u64 (t : Int))
  rw [flat_set nodeC 7 (fun _ => rfl) R.nodes k hk 2 (by omega) (.int .u64 (t : Int)) { nd with horizon := t } (by rw [hnd']; rfl)] at this
  rw [List.length_set]
  exact this

theorem rwithoutStamp_row {w : World} {ao : Option Addr} {n cap i : Nat} {l : List Nat} (hr : Row w 53 1 (.slice ao n cap) n (u64s l)) (hl : l.length = n) (hi : i < n) (hn : n ≤ 1000) :
    Calls Tryz.prog 114 #[.slice ao n cap, .int .i64 i] w fun e w' => WithoutSPost w n (l.eraseIdx i) e w' := by
  rcases hr.shape with ⟨_, h0, _⟩ | ⟨g, cp, cur, hv', hb, hcp, hcm, _⟩
  · omega
  · injection hv' with e1 _ e2
    subst e1
    subst e2
    exact rwithoutStamp w g n cap i l hr hl hi hn hcp hcm

/-- the error of Deliver, Lose and Copy. -/
def linkE (R : RefS) (k i : Int) : Int := if k < 0 ∨ (R.nodes.length : Int) ≤ k then 9 else match R.nodes[k.toNat]? with
  | none => 9
  | some nd => if i < 0 ∨ (nd.fls.length : Int) ≤ i then 10 else 0
set_option maxRecDepth 100000 in
set_option maxHeartbeats 1000000 in
theorem rlink (w : World) (b : Nat) (R : RefS) (k i : Int) (h : Ref w b R) (hm : R.nodes.length ≤ 3) :
    Calls Tryz.prog 113 #[.pointer (some ⟨b, 0, none⟩), .int .i64 k, .int .i64 i] w fun e w' => e = .returned (.int .i64 (linkE R k i)) ∧ w = w' := by
  have hno := rnoNode w b R k h
  by_cases h0 : k < 0 ∨ (R.nodes.length : Int) ≤ k
  · rw [decide_eq_true h0] at hno
    have H0 : Hid (Calls Tryz.prog 108 #[.pointer (some ⟨b, 0, none⟩), .int .i64 k] w fun e w' => e = .returned (.bool true) ∧ w = w') := hno
    have HL : linkE R k i = 9 := by unfold linkE; rw [if_pos h0]
    rw [HL]
    clear h hno h0 HL
    go_enter Tryz.func113, Tryz.ntmps113
    go_wp2_with (go_at_call 108; refine H0.out.mono ?_; rintro e w' ⟨rfl, rfl⟩)
    go_ret
    exact ⟨rfl, rfl⟩
  · rw [decide_eq_false h0] at hno
    obtain ⟨j, rfl⟩ : ∃ j : Nat, k = j := ⟨k.toNat, by omega⟩
    have hjl : j < R.nodes.length := by omega
    obtain ⟨nd, hnd⟩ : ∃ nd, R.nodes[j]? = some nd := ⟨_, List.getElem?_eq_getElem hjl⟩
    have hnd' := (List.getElem?_eq_some_iff.mp hnd).2
    obtain ⟨g, cap, hv, ho, hgl⟩ := h.nodes.block (by omega)
    have c3 := h.c3
    rw [hv] at c3
    obtain ⟨af, cf, hvf, _⟩ := (h.fls nd (List.mem_of_getElem? hnd)).form
    have a3 := h.nodes.cell ho (j * 7 + 3) _ (by rw [node_at R.nodes j hjl 3 (by omega)]; rfl)
    rw [hnd', hvf] at a3
    have H0 : Hid (Calls Tryz.prog 108 #[.pointer (some ⟨b, 0, none⟩), .int .i64 (j : Int)] w fun e w' => e = .returned (.bool false) ∧ w = w') := hno
    have hj0 : (0 : Int) ≤ (j : Int) := by omega
    have hj1 : (j : Int) < (R.nodes.length : Int) := by omega
    have HL : linkE R (j : Int) i = if i < 0 ∨ (nd.fls.length : Int) ≤ i then 10 else 0 := by unfold linkE; rw [if_neg h0, Int.toNat_natCast, hnd]
    rw [HL]
    obtain ⟨fl, hfl⟩ : ∃ x, x = nd.fls.length := ⟨_, rfl⟩
    rw [← hfl] at a3 ⊢
    clear h hno h0 HL hnd hnd' hv ho hvf hfl
    by_cases hi0 : i < 0
    · have hd : decide (i < 0) = true := by simpa using hi0
      rw [if_pos (.inl hi0)]
      clear hi0
      go_enter Tryz.func113, Tryz.ntmps113
      go_wp2_with (go_at_call 108; refine H0.out.mono ?_; rintro e w' ⟨rfl, rfl⟩)
      go_ret
      exact ⟨rfl, rfl⟩
    · have hd : decide (i < 0) = false := by simpa using hi0
      by_cases hi1 : (fl : Int) ≤ i
      · rw [if_pos (.inr hi1)]
        go_enter Tryz.func113, Tryz.ntmps113
        go_wp2_with (go_at_call 108; refine H0.out.mono ?_; rintro e w' ⟨rfl, rfl⟩)
        go_ret
        exact ⟨rfl, rfl⟩
      · rw [if_neg (by omega)]
        go_enter Tryz.func113, Tryz.ntmps113
        go_wp2_with (go_at_call 108; refine H0.out.mono ?_; rintro e w' ⟨rfl, rfl⟩)
        go_ret
        exact ⟨rfl, rfl⟩

/-- where a stamp waits; -1: nowhere. -/
def waitI (l : List Nat) (t : Nat) : Int := match l.findIdx? (fun x => decide (x = t)) with
  | some i => (i : Int)
  | none => -1
theorem u64s_at {l : List Nat} {j : Nat} (hj : j < l.length) : (u64s l)[j]? = some (.int .u64 (l[j] : Int)) := by
  unfold u64s
  rw [List.getElem?_map, List.getElem?_eq_getElem hj]
  rfl
set_option maxRecDepth 100000 in
set_option maxHeartbeats 1000000 in
theorem rwaits (w : World) (b k t : Nat) (R : RefS) (nd : NodeE) (h : Ref w b R) (hm : R.nodes.length ≤ 3) (hnd : R.nodes[k]? = some nd) (hl : nd.wts.length ≤ 1000) :
    Calls Tryz.prog 115 #[.pointer (some ⟨b, 0, none⟩), .int .i64 (k : Int), .int .u64 (t : Int)] w fun e w' => e = .returned (.int .i64 (waitI nd.wts t)) ∧ w = w' := by
  obtain ⟨hk, hnd'⟩ := List.getElem?_eq_some_iff.mp hnd
  obtain ⟨g, cap, hv, ho, hgl⟩ := h.nodes.block (by omega)
  have c3 := h.c3
  rw [hv] at c3
  obtain ⟨af, cf, hvf, _⟩ := (h.wts nd (List.mem_of_getElem? hnd)).form
  have a4 := h.nodes.cell ho (k * 7 + 4) _ (by rw [node_at R.nodes k hk 4 (by omega)]; rfl)
  rw [hnd', hvf] at a4
  obtain ⟨l, hll⟩ : ∃ x, x = nd.wts := ⟨_, rfl⟩
  have HP : Hid (∀ j (hj : j < l.length), ∃ gw, af = some ⟨gw, 0, none⟩ ∧ w.cell? ⟨gw, j, none⟩ = some (.int .u64 (l[j] : Int))) := by
    intro j hj
    have hr := h.wts nd (List.mem_of_getElem? hnd)
    rw [← hll, hvf, ← hll] at hr
    obtain ⟨gw, c', e1, e2, _⟩ := hr.block (by omega)
    injection e1 with e1 _ _
    exact ⟨gw, e1, hr.cell e2 j _ (u64s_at hj)⟩
  have hk0 : (0 : Int) ≤ (k : Int) := by omega
  have hk1 : (k : Int) < (R.nodes.length : Int) := by omega
  rw [← hll] at a4 hl ⊢
  clear h hnd hnd' hv ho hvf hll
  go_enter Tryz.func115, Tryz.ntmps115
  go_wp2
  go_loopw [7] (fun iv wr => ∃ j : Nat, j ≤ l.length ∧ iv = .int .i64 j ∧ Hid ((∀ i (hi : i < l.length), i < j → l[i] ≠ t) ∧ w = wr)) (fun iv _ => l.length - (intOf iv).toNat)
  case atStart => exact ⟨0, Nat.zero_le _, rfl, fun i hi h => by omega, rfl⟩
  case round =>
    obtain ⟨j, hj, rfl, HN⟩ := hrel
    obtain rfl := HN.out.2
    by_cases hlt : j < l.length
    · obtain ⟨gw, hgw, p0⟩ := HP.out j hlt
      obtain ⟨x, hx⟩ : ∃ x, x = l[j] := ⟨_, rfl⟩
      have HX : Hid (l[j] = x) := hx.symm
      rw [← hx] at p0
      subst hgw
      have hj0 : (0 : Int) ≤ (j : Int) := by omega
      have hj1 : (j : Int) < (l.length : Int) := by omega
      clear hx
      by_cases he : x = t
      · have hb : ((x : Int) == (t : Int)) = true := by simp [he]
        have HR : Hid (waitI l t = (j : Int)) := by
          show _ = _
          unfold waitI
          have : l.findIdx? (fun x => decide (x = t)) = some j := by
            rw [List.findIdx?_eq_some_iff_getElem]
            exact ⟨hlt, by rw [HX.out]; simpa using he, fun i hi => by simpa using HN.out.1 i (by omega) hi⟩
          rw [this]
        clear he
        go_wp2
        go_ret
        exact ⟨by rw [HR.out]; rfl, rfl⟩
      · have hb : ((x : Int) == (t : Int)) = false := beq_eq_false_iff_ne.mpr (by omega)
        go_wp2
        go_roundw
        case rel =>
          refine ⟨j + 1, by omega, by go_num, fun i hi hij => ?_, by first | rfl | trivial⟩
          by_cases hie : i = j
          · subst hie; rw [HX.out]; exact he
          · exact HN.out.1 i hi (by omega)
        case measure => simp [intOf]; omega
    · have hje : j = l.length := by omega
      subst hje
      have HR : Hid (waitI l t = -1) := by
        show _ = _
        unfold waitI
        have : l.findIdx? (fun x => decide (x = t)) = none := by
          rw [List.findIdx?_eq_none_iff]
          intro x hx
          obtain ⟨i, hi, rfl⟩ := List.getElem_of_mem hx
          simpa using HN.out.1 i hi hi
        rw [this]
      go_wp2
      go_ret
      exact ⟨by rw [HR.out]; rfl, rfl⟩

end Go.Proofs.YtpfcacedpkaihaaGreat
