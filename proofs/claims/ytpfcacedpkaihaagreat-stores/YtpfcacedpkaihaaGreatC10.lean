import Derived.Test.YtpfcacedpkaihaaGreatC8
namespace Go.Proofs.YtpfcacedpkaihaaGreat
open Go.RowKit
set_option maxRecDepth 100000
set_option maxHeartbeats 16000000
def zeroN : NodeE := ⟨false, 0, 0, .slice none 0 0, .slice none 0 0, .slice none 0 0, .slice none 0 0, [], [], [], []⟩
theorem nilD (w : World) (T size : Nat) : RowD.Is w ⟨T, size, .slice none 0 0, 0, []⟩ := Row.nil w T size
theorem Ref.putZero {w w' : World} {b k : Nat} {R : RefS} {nd : NodeE} (h : Ref w b R) (hnd : R.nodes[k]? = some nd) (kn : Kept (fun j => R.vn.ownBlock = some j) w w')
 (hn : Row w' 146 7 R.vn (R.nodes.set k zeroN).length ((R.nodes.set k zeroN).flatMap nodeC)) : Ref w' b (R.putN k zeroN) := by
 obtain ⟨hk, hnd'⟩ := List.getElem?_eq_some_iff.mp hnd
 have nown : ∀ (r : RowD) (x : Nat), (Value.slice none 0 0).ownBlock = some x → r.v.ownBlock = some x ∨ w.heap.size ≤ x := fun _ x hx => by simp [Value.ownBlock] at hx
 have g0 : R.rows[(k * 4 + 0) + 5]? = _ := rows_at hnd 0 (by omega)
 have g1 : R.rows[(k * 4 + 1) + 5]? = _ := rows_at hnd 1 (by omega)
 have g2 : R.rows[(k * 4 + 2) + 5]? = _ := rows_at hnd 2 (by omega)
 have g3 : R.rows[(k * 4 + 3) + 5]? = _ := rows_at hnd 3 (by omega)
 have a0 := h.all.put _ _ ⟨53, 1, .slice none 0 0, 0, []⟩ g0 (Kept.refl _ w) (nilD w _ _) (nown _)
 have a1 := a0.put ((k * 4 + 1) + 5) _ ⟨53, 1, .slice none 0 0, 0, []⟩ (by rw [List.getElem?_set_ne (by omega)]; exact g1) (Kept.refl _ w) (nilD w _ _) (nown _)
 have a2 := a1.put ((k * 4 + 2) + 5) _ ⟨55, 6, .slice none 0 0, 0, []⟩ (by rw [List.getElem?_set_ne (by omega), List.getElem?_set_ne (by omega)]; exact g2) (Kept.refl _ w) (nilD w _ _) (nown _)
 have a3 := a2.put ((k * 4 + 3) + 5) _ ⟨3, 1, .slice none 0 0, 0, []⟩ (by rw [List.getElem?_set_ne (by omega), List.getElem?_set_ne (by omega), List.getElem?_set_ne (by omega)]; exact g3) (Kept.refl _ w) (nilD w _ _) (nown _)
 have a4 := a3.put 2 R.nodeD (R.putN k zeroN).nodeD (by rw [List.getElem?_set_ne (by omega), List.getElem?_set_ne (by omega), List.getElem?_set_ne (by omega), List.getElem?_set_ne (by omega)]; rfl) kn hn (fun x hx => .inl hx)
 have s0 := flat_set nodeR 4 (fun _ => rfl) R.nodes k hk 0 (by omega) ⟨53, 1, .slice none 0 0, 0, []⟩ { nd with fl := .slice none 0 0, fls := [] } (by rw [hnd']; rfl)
 have s1 := flat_set nodeR 4 (fun _ => rfl) (R.nodes.set k { nd with fl := .slice none 0 0, fls := [] }) k (by simpa using hk) 1 (by omega) ⟨53, 1, .slice none 0 0, 0, []⟩ { nd with fl := .slice none 0 0, fls := [], wt := .slice none 0 0, wts := [] } (by rw [List.getElem_set_self]; rfl)
 have s2 := flat_set nodeR 4 (fun _ => rfl) (R.nodes.set k { nd with fl := .slice none 0 0, fls := [], wt := .slice none 0 0, wts := [] }) k (by simpa using hk) 2 (by omega) ⟨55, 6, .slice none 0 0, 0, []⟩ { nd with fl := .slice none 0 0, fls := [], wt := .slice none 0 0, wts := [], en := .slice none 0 0, ents := [] } (by rw [List.getElem_set_self]; rfl)
 have s3 := flat_set nodeR 4 (fun _ => rfl) (R.nodes.set k { nd with fl := .slice none 0 0, fls := [], wt := .slice none 0 0, wts := [], en := .slice none 0 0, ents := [] }) k (by simpa using hk) 3 (by omega) ⟨3, 1, .slice none 0 0, 0, []⟩ zeroN (by rw [List.getElem_set_self]; rfl)
 rw [List.set_set] at s1 s2 s3
 have er : (R.putN k zeroN).rows = ((((R.rows.set ((k * 4 + 0) + 5) ⟨53, 1, .slice none 0 0, 0, []⟩).set ((k * 4 + 1) + 5) ⟨53, 1, .slice none 0 0, 0, []⟩).set ((k * 4 + 2) + 5) ⟨55, 6, .slice none 0 0, 0, []⟩).set ((k * 4 + 3) + 5) ⟨3, 1, .slice none 0 0, 0, []⟩).set 2 (R.putN k zeroN).nodeD := by
  show _ :: _ :: _ :: _ :: _ :: (R.nodes.set k zeroN).flatMap nodeR = _ :: _ :: _ :: _ :: _ :: ((((R.nodes.flatMap nodeR).set (k * 4 + 0) _).set (k * 4 + 1) _).set (k * 4 + 2) _).set (k * 4 + 3) _
  rw [s0, s1, s2, s3]; rfl
 exact ⟨h.blk.kept kn fun he => h.nodes.ne_block h.blk (by decide) he, by rw [er]; exact a4⟩
theorem node_put {l : List NodeE} {k : Nat} (hk : k < l.length) (nd : NodeE) :
 (((((((l.flatMap nodeC).set (k * 7) (.bool nd.up)).set (k * 7 + 1) (.int .u64 (nd.since : Int))).set (k * 7 + 2) (.int .u64 (nd.horizon : Int))).set (k * 7 + 3) nd.fl).set (k * 7 + 4) nd.wt).set (k * 7 + 5) nd.en).set (k * 7 + 6) nd.nm = (l.set k nd).flatMap nodeC := by
 obtain ⟨y, hy⟩ : ∃ y, y = l[k] := ⟨_, rfl⟩
 have s0 := flat_set nodeC 7 (fun _ => rfl) l k hk 0 (by omega) (.bool nd.up) { y with up := nd.up } (by rw [← hy]; rfl)
 have s1 := flat_set nodeC 7 (fun _ => rfl) (l.set k { y with up := nd.up }) k (by simpa using hk) 1 (by omega) (.int .u64 (nd.since : Int)) { y with up := nd.up, since := nd.since } (by rw [List.getElem_set_self]; rfl)
 have s2 := flat_set nodeC 7 (fun _ => rfl) (l.set k { y with up := nd.up, since := nd.since }) k (by simpa using hk) 2 (by omega) (.int .u64 (nd.horizon : Int)) { y with up := nd.up, since := nd.since, horizon := nd.horizon } (by rw [List.getElem_set_self]; rfl)
 have s3 := flat_set nodeC 7 (fun _ => rfl) (l.set k { y with up := nd.up, since := nd.since, horizon := nd.horizon }) k (by simpa using hk) 3 (by omega) nd.fl { y with up := nd.up, since := nd.since, horizon := nd.horizon, fl := nd.fl } (by rw [List.getElem_set_self]; rfl)
 have s4 := flat_set nodeC 7 (fun _ => rfl) (l.set k { y with up := nd.up, since := nd.since, horizon := nd.horizon, fl := nd.fl }) k (by simpa using hk) 4 (by omega) nd.wt { y with up := nd.up, since := nd.since, horizon := nd.horizon, fl := nd.fl, wt := nd.wt } (by rw [List.getElem_set_self]; rfl)
 have s5 := flat_set nodeC 7 (fun _ => rfl) (l.set k { y with up := nd.up, since := nd.since, horizon := nd.horizon, fl := nd.fl, wt := nd.wt }) k (by simpa using hk) 5 (by omega) nd.en { y with up := nd.up, since := nd.since, horizon := nd.horizon, fl := nd.fl, wt := nd.wt, en := nd.en } (by rw [List.getElem_set_self]; rfl)
 have s6 := flat_set nodeC 7 (fun _ => rfl) (l.set k { y with up := nd.up, since := nd.since, horizon := nd.horizon, fl := nd.fl, wt := nd.wt, en := nd.en }) k (by simpa using hk) 6 (by omega) nd.nm nd (by rw [List.getElem_set_self]; rfl)
 rw [Nat.add_zero] at s0
 rw [List.set_set] at s1 s2 s3 s4 s5 s6
 rw [s0, s1, s2, s3, s4, s5, s6]
theorem rfall (w : World) (b : Nat) (R : RefS) (k : Nat) (h : Ref w b R) (hm : R.nodes.length ≤ 3) (hk : k < R.nodes.length) :
 Calls Tryz.prog 123 #[.pointer (some ⟨b, 0, none⟩), .int .i64 k] w fun e w' => e = .returned (.tuple #[]) ∧ Ref w' b (R.putN k zeroN) ∧ Kept (fun j => R.vn.ownBlock = some j) w w' := by
 obtain ⟨g, cap, hv, ho, hgl⟩ := h.nodes.block (by omega)
 have c3 := h.c3
 rw [hv] at c3
 have a0 := h.nodes.cell ho (k * 7) _ (by have := node_at R.nodes k hk 0 (by omega); rw [Nat.add_zero] at this; rw [this]; rfl)
 have a1 := h.nodes.cell ho (k * 7 + 1) _ (by rw [node_at R.nodes k hk 1 (by omega)]; rfl)
 have a2 := h.nodes.cell ho (k * 7 + 2) _ (by rw [node_at R.nodes k hk 2 (by omega)]; rfl)
 have a3 := h.nodes.cell ho (k * 7 + 3) _ (by rw [node_at R.nodes k hk 3 (by omega)]; rfl)
 have a4 := h.nodes.cell ho (k * 7 + 4) _ (by rw [node_at R.nodes k hk 4 (by omega)]; rfl)
 have a5 := h.nodes.cell ho (k * 7 + 5) _ (by rw [node_at R.nodes k hk 5 (by omega)]; rfl)
 have a6 := h.nodes.cell ho (k * 7 + 6) _ (by rw [node_at R.nodes k hk 6 (by omega)]; rfl)
 have f0 := h.nodes.free ho (k * 7)
 have f1 := h.nodes.free ho (k * 7 + 1)
 have f2 := h.nodes.free ho (k * 7 + 2)
 have f3 := h.nodes.free ho (k * 7 + 3)
 have f4 := h.nodes.free ho (k * 7 + 4)
 have f5 := h.nodes.free ho (k * 7 + 5)
 have f6 := h.nodes.free ho (k * 7 + 6)
 have r0 := (((((((h.nodes.set ho (k * 7) (.bool false)).set ho (k * 7 + 1) (.int .u64 0)).set ho (k * 7 + 2) (.int .u64 0)).set ho (k * 7 + 3) (.slice none 0 0)).set ho (k * 7 + 4) (.slice none 0 0)).set ho (k * 7 + 5) (.slice none 0 0)).set ho (k * 7 + 6) (.slice none 0 0))
 have e0 := node_put hk zeroN
 have k0 : Kept (fun j => R.vn.ownBlock = some j) w (((((((w.setCell ⟨g, k * 7, none⟩ (.bool false)).setCell ⟨g, k * 7 + 1, none⟩ (.int .u64 0)).setCell ⟨g, k * 7 + 2, none⟩ (.int .u64 0)).setCell ⟨g, k * 7 + 3, none⟩ (.slice none 0 0)).setCell ⟨g, k * 7 + 4, none⟩ (.slice none 0 0)).setCell ⟨g, k * 7 + 5, none⟩ (.slice none 0 0)).setCell ⟨g, k * 7 + 6, none⟩ (.slice none 0 0)) := by
  have one : ∀ (u : World) (o : Nat) (v : Value), Kept (fun j => R.vn.ownBlock = some j) u (u.setCell ⟨g, o, none⟩ v) := fun u o v => (Kept.setCell u _ _).mono fun j hj => by rw [ho, hj]
  have tr : ∀ {a b c : World}, Kept (fun j => R.vn.ownBlock = some j) a b → Kept (fun j => R.vn.ownBlock = some j) b c → Kept (fun j => R.vn.ownBlock = some j) a c := fun p q => p.trans q (fun _ => id) (fun _ _ => id)
  exact tr (tr (tr (tr (tr (tr (one _ _ _) (one _ _ _)) (one _ _ _)) (one _ _ _)) (one _ _ _)) (one _ _ _)) (one _ _ _)
 have HZ := h.putZero (List.getElem?_eq_getElem hk) k0 (by rw [List.length_set, ← e0]; exact r0)
 have HZ' : Hid (Ref (((((((w.setCell ⟨g, k * 7, none⟩ (.bool false)).setCell ⟨g, k * 7 + 1, none⟩ (.int .u64 0)).setCell ⟨g, k * 7 + 2, none⟩ (.int .u64 0)).setCell ⟨g, k * 7 + 3, none⟩ (.slice none 0 0)).setCell ⟨g, k * 7 + 4, none⟩ (.slice none 0 0)).setCell ⟨g, k * 7 + 5, none⟩ (.slice none 0 0)).setCell ⟨g, k * 7 + 6, none⟩ (.slice none 0 0)) b (R.putN k zeroN)) := HZ
 have HK : Hid (Kept (fun j => R.vn.ownBlock = some j) w (((((((w.setCell ⟨g, k * 7, none⟩ (.bool false)).setCell ⟨g, k * 7 + 1, none⟩ (.int .u64 0)).setCell ⟨g, k * 7 + 2, none⟩ (.int .u64 0)).setCell ⟨g, k * 7 + 3, none⟩ (.slice none 0 0)).setCell ⟨g, k * 7 + 4, none⟩ (.slice none 0 0)).setCell ⟨g, k * 7 + 5, none⟩ (.slice none 0 0)).setCell ⟨g, k * 7 + 6, none⟩ (.slice none 0 0))) := k0
 clear r0 e0 k0 HZ h hv ho
 go_enter Tryz.func123, Tryz.ntmps123
 go_wp2
 go_end0
 exact ⟨rfl, HZ'.out, HK.out⟩
theorem Tryz.infoStamp : (Tryz.prog.info? 53).map (fun i => (i.zero, i.size, i.bytes)) = some (some (.int .u64 0), 1, 8) := by kernel_rfl
def keepF (t : Nat) (l : List Nat) : List Nat := l.filter fun f => decide (t < f + 100)
def fellB (nd : NodeE) (t : Nat) : Bool := nd.up && decide (nd.horizon + 40 < t)
def leftN (nd : NodeE) (t : Nat) : NodeE := if fellB nd t then zeroN else { nd with fls := keepF t nd.fls }
def tellN (nd : NodeE) (t : Nat) (v : Value) : NodeE := { leftN nd t with fl := v, fls := if (leftN nd t).fls.length < 12 then (leftN nd t).fls ++ [t] else (leftN nd t).fls }
def TellPost (w : World) (b : Nat) (R : RefS) (k : Nat) (nd : NodeE) (t : Nat) (e : Ending) (w' : World) : Prop :=
 e = .returned (.tuple #[]) ∧ ∃ v, Ref w' b (R.putN k (tellN nd t v)) ∧ Kept (R.fp b) w w' ∧ (∀ x, (R.putN k (tellN nd t v)).fp b x → R.fp b x ∨ w.heap.size ≤ x)
theorem keepF_snoc (t : Nat) (l : List Nat) (j : Nat) (h : j < l.length) : keepF t (l.take (j + 1)) = if t < l[j] + 100 then keepF t (l.take j) ++ [l[j]] else keepF t (l.take j) := by
 rw [List.take_succ_eq_append_getElem h, keepF, List.filter_append]
 by_cases hh : t < l[j] + 100 <;> simp [keepF, hh]
theorem keepF_le (t : Nat) (l : List Nat) (j : Nat) : (keepF t (l.take j)).length ≤ l.length := Nat.le_trans (List.length_filter_le _ _) (by simp; omega)
theorem u64s_snoc (l : List Nat) (t : Nat) : u64s (l ++ [t]) = u64s l ++ [.int .u64 (t : Int)] := by simp [u64s]
theorem oneCell_u64 (a : Int) : ∀ u ∈ [Value.int .u64 a], u.oneCell' = true := by intro u hu; simp at hu; subst hu; rfl
structure Fills (w wr : World) (v : Value) (l : List Nat) : Prop where
 row : Row wr 53 1 v l.length (u64s l)
 own : ∀ x, v.ownBlock = some x → w.heap.size ≤ x
 kept : Kept (fun _ => False) w wr
theorem Fills.push {w wr w1 : World} {v v' : Value} {l : List Nat} {t : Nat} {o : Obj} (h : Fills w wr v l) (hA : Appended (wr.alloc o) w1 53 1 v v' l.length 1 (u64s l) [.int .u64 (t : Int)]) : Fills w w1 v' (l ++ [t]) := by
 refine ⟨by rw [u64s_snoc]; simpa using hA.row, fun x hx => ?_, (h.kept.trans (Kept.alloc _ _ (fun _ => False)) (fun _ => id) (fun _ _ => id)).trans hA.kept (fun _ => id) (fun j hj hv => ?_)⟩
 · rcases hA.own with e | e
   · exact h.own x (by rw [← e]; exact hx)
   · have h1 := e x hx
     have h2 := h.kept.size
     simp at h1
     omega
 · have := h.own j hv; omega
theorem rputN_putN (R : RefS) (k : Nat) (a c : NodeE) : (R.putN k a).putN k c = R.putN k c := by simp [RefS.putN, List.set_set]
theorem rputN_at {R : RefS} {k : Nat} {nd : NodeE} (hk : k < R.nodes.length) : (R.putN k nd).nodes[k]? = some nd := by simp [RefS.putN, hk]
theorem Ref.setFl {w wr : World} {b : Nat} {R : RefS} (h : Ref w b R) {k g : Nat} {nd : NodeE} (hnd : R.nodes[k]? = some nd) (ho : R.vn.ownBlock = some g) (v : Value) (l : List Nat) (hk : Kept (fun _ => False) w wr) (hr : Row wr 53 1 v l.length (u64s l))
 (hnew : ∀ x, v.ownBlock = some x → w.heap.size ≤ x) : Ref (wr.setCell ⟨g, k * 7 + 3, none⟩ v) b (R.putN k { nd with fl := v, fls := l }) := by
 obtain ⟨hkl, hnd'⟩ := List.getElem?_eq_some_iff.mp hnd
 refine (h.putF (f := 0) (r' := ⟨53, 1, v, l.length, u64s l⟩) hnd (by omega) rfl rfl (hk.mono fun _ => False.elim) hr (fun x hx => .inr (hnew x hx)) ((Kept.setCell wr ⟨g, k * 7 + 3, none⟩ v).mono fun j hj => by rw [ho, hj]) ?_).1
 rw [List.length_set, ← flat_set nodeC 7 (fun _ => rfl) R.nodes k hkl 3 (by omega) v { nd with fl := v, fls := l } (by rw [hnd']; rfl)]
 exact (h.nodes.kept hk (fun _ _ => id)).set ho _ _
theorem Ref.pushFl {w w2 : World} {b : Nat} {R : RefS} (h : Ref w b R) {k g t : Nat} {nd : NodeE} (hnd : R.nodes[k]? = some nd) (ho : R.vn.ownBlock = some g) {v2 : Value}
 (hA : Appended w w2 53 1 nd.fl v2 nd.fls.length 1 (u64s nd.fls) [.int .u64 (t : Int)]) :
 Ref (w2.setCell ⟨g, k * 7 + 3, none⟩ v2) b (R.putN k { nd with fl := v2, fls := nd.fls ++ [t] }) ∧ Kept (R.fp b) w (w2.setCell ⟨g, k * 7 + 3, none⟩ v2) ∧
  (∀ x, (R.putN k { nd with fl := v2, fls := nd.fls ++ [t] }).fp b x → R.fp b x ∨ w.heap.size ≤ x) := by
 obtain ⟨hkl, hnd'⟩ := List.getElem?_eq_some_iff.mp hnd
 have rf := h.fls nd (List.mem_of_getElem? hnd)
 refine h.putF (f := 0) (r' := ⟨53, 1, v2, (nd.fls ++ [t]).length, u64s (nd.fls ++ [t])⟩) hnd (by omega) rfl rfl hA.kept ?_ (fun x hx => hA.own.imp (fun e => by show nd.fl.ownBlock = some x; rw [← e]; exact hx) (fun e => e x hx)) ((Kept.setCell w2 ⟨g, k * 7 + 3, none⟩ v2).mono fun j hj => by rw [ho, hj]) ?_
 · show Row _ _ 1 v2 (nd.fls ++ [t]).length (u64s (nd.fls ++ [t]))
   rw [u64s_snoc]; simpa using hA.row
 · rw [List.length_set, ← flat_set nodeC 7 (fun _ => rfl) R.nodes k hkl 3 (by omega) v2 { nd with fl := v2, fls := nd.fls ++ [t] } (by rw [hnd']; rfl)]
   exact (h.nodes.kept hA.kept fun j hj he => rf.ne_row h.nodes (by decide) j he hj).set ho _ _
theorem fp_fl {R : RefS} {b k : Nat} {nd y : NodeE} {x : Nat} (hnd : R.nodes[k]? = some nd) (hy : nodeR y = (nodeR nd).set 0 ⟨53, 1, y.fl, y.fls.length, u64s y.fls⟩) (h : (R.putN k y).fp b x) : R.fp b x ∨ y.fl.ownBlock = some x := by
 rcases h with h | ⟨a, ha, hx⟩
 · exact .inl (.inl h)
 · rw [rows_set hnd 0 (by omega) _ hy] at ha
   rcases List.mem_or_eq_of_mem_set ha with ha | rfl
   · rcases List.mem_or_eq_of_mem_set ha with ha | rfl
     · exact .inl (.inr ⟨a, ha, hx⟩)
     · exact .inr hx
   · exact .inl (fp_vn hx)
theorem fp_zero {R : RefS} {b k x : Nat} (h : (R.putN k zeroN).fp b x) : R.fp b x := by
 rcases h with h | ⟨a, ha, hx⟩
 · exact .inl h
 · simp only [RefS.rows, List.mem_cons, List.mem_flatMap] at ha
   rcases ha with rfl | rfl | rfl | rfl | rfl | ⟨nd, hn, hr⟩
   · exact fp_vp hx
   · exact fp_vr hx
   · exact fp_vn hx
   · exact .inr ⟨_, List.mem_of_getElem? (i := 3) rfl, hx⟩
   · exact .inr ⟨_, List.mem_of_getElem? (i := 4) rfl, hx⟩
   · rcases List.mem_or_eq_of_mem_set hn with hn | rfl
     · exact .inr ⟨a, nodeR_mem hn hr, hx⟩
     · simp only [nodeR, zeroN, List.mem_cons, List.not_mem_nil, or_false] at hr
       rcases hr with rfl | rfl | rfl | rfl <;> simp [Value.ownBlock] at hx
theorem tell_done_a {w w2 w' : World} {b k g t : Nat} {R : RefS} {nd : NodeE} {v' : Value} (hR : Ref w2 b (R.putN k zeroN)) (hK : Kept (R.fp b) w w2) (hfe : fellB nd t = true) (hk : k < R.nodes.length) (ho : R.vn.ownBlock = some g)
 (hA : Appended w2 w' 53 1 (.slice none 0 0) v' 0 1 [] [.int .u64 (t : Int)]) : TellPost w b R k nd t (.returned (.tuple #[])) (w'.setCell ⟨g, k * 7 + 3, none⟩ v') := by
 obtain ⟨z1, z2, z3⟩ := hR.pushFl (t := t) (rputN_at hk) ho hA
 rw [rputN_putN] at z1 z3
 have e : ({ zeroN with fl := v', fls := zeroN.fls ++ [t] } : NodeE) = tellN nd t v' := by simp [tellN, leftN, hfe, zeroN]
 rw [e] at z1 z3
 refine ⟨rfl, v', z1, hK.trans z2 (fun _ => id) (fun x _ hf => fp_zero hf), fun x hx => ?_⟩
 rcases z3 x hx with h | h
 · exact .inl (fp_zero h)
 · exact .inr (Nat.le_trans hK.size h)
theorem rtell_a (w : World) (b : Nat) (R : RefS) (k t : Nat) (nd : NodeE) (h : Ref w b R) (hf : R.Fit) (hnd : R.nodes[k]? = some nd) (_ht : t ≤ 700) (hfe : fellB nd t = true) :
 Calls Tryz.prog 78 #[.pointer (some ⟨b, 0, none⟩), .int .i64 k, .int .u64 t] w fun e w' => TellPost w b R k nd t e w' := by
 obtain ⟨hk, hnd'⟩ := List.getElem?_eq_some_iff.mp hnd
 have hmem : nd ∈ R.nodes := List.mem_of_getElem? hnd
 have hm := hf.nmax
 obtain ⟨hfm, hhz, hft⟩ := hf.fmax nd hmem
 obtain ⟨g, cap, hv, ho, hgl⟩ := h.nodes.block (by omega)
 obtain ⟨ao, fc, hfl, _⟩ := (h.fls nd hmem).form
 obtain ⟨i0, hi, hz0, hz1, hz2⟩ := info_parts Tryz.infoStamp
 have HI : Hid (Tryz.prog.info? 53 = some i0 ∧ i0.zero = some (.int .u64 0) ∧ i0.size = 1 ∧ i0.bytes = 8) := ⟨hi, hz0, hz1, hz2⟩
 clear hi hz0 hz1 hz2
 have HR : Hid (Ref w b R) := h
 have HV : Hid (R.vn = .slice (some ⟨g, 0, none⟩) R.nodes.length cap ∧ R.vn.ownBlock = some g) := ⟨hv, ho⟩
 have HN : Hid (R.nodes[k]? = some nd ∧ nd ∈ R.nodes ∧ nd.fl = .slice ao nd.fls.length fc ∧ R.Fit) := ⟨hnd, hmem, hfl, hf⟩
 have HFT : Hid (∀ t ∈ nd.fls, t ≤ 700) := hft
 have HC : Hid (∀ W : World, Ref W b R → W.cell? ⟨b, 3, none⟩ = some (.slice (some ⟨g, 0, none⟩) R.nodes.length cap) ∧ W.cell? ⟨g, k * 7, none⟩ = some (.bool nd.up) ∧ W.cell? ⟨g, k * 7 + 2, none⟩ = some (.int .u64 (nd.horizon : Int)) ∧
  W.cell? ⟨g, k * 7 + 3, none⟩ = some (.slice ao nd.fls.length fc) ∧ W.frozen? ⟨g, k * 7 + 3, none⟩ = false) := by
  intro W hW
  refine ⟨by rw [hW.c3, hv], ?_, ?_, ?_, hW.nodes.free ho _⟩
  · exact hW.nodes.cell ho (k * 7) _ (by have := node_at R.nodes k hk 0 (by omega); rw [Nat.add_zero] at this; rw [this, hnd']; rfl)
  · exact hW.nodes.cell ho (k * 7 + 2) _ (by rw [node_at R.nodes k hk 2 (by omega), hnd']; rfl)
  · exact hW.nodes.cell ho (k * 7 + 3) _ (by rw [node_at R.nodes k hk 3 (by omega), hnd', ← hfl]; rfl)
 have HFC : Hid (∀ W : World, Ref W b R → ∀ j (hj : j < nd.fls.length), ∃ gf, ao = some ⟨gf, 0, none⟩ ∧ W.cell? ⟨gf, j, none⟩ = some (.int .u64 (nd.fls[j] : Int))) := by
  intro W hW j hj
  obtain ⟨gf, cf, e1, e2, _⟩ := (hW.fls nd hmem).block (by omega)
  rw [hfl] at e1
  injection e1 with e1 _ _
  exact ⟨gf, e1, (hW.fls nd hmem).cell e2 j _ (by simp [u64s, hj])⟩
 have HC2 : Hid (∀ (W : World) (nd2 : NodeE), Ref W b (R.putN k nd2) → W.cell? ⟨b, 3, none⟩ = some (.slice (some ⟨g, 0, none⟩) R.nodes.length cap) ∧ W.cell? ⟨g, k * 7 + 3, none⟩ = some nd2.fl ∧ W.frozen? ⟨g, k * 7 + 3, none⟩ = false) := by
  intro W nd2 hW
  refine ⟨by rw [hW.c3]; show some R.vn = _; rw [hv], ?_, hW.nodes.free ho _⟩
  refine hW.nodes.cell ho (k * 7 + 3) _ ?_
  show ((R.nodes.set k nd2).flatMap nodeC)[k * 7 + 3]? = _
  rw [node_at (R.nodes.set k nd2) k (by simpa using hk) 3 (by omega), List.getElem_set_self]; rfl
 clear h hf hv ho hnd hnd' hmem hfl hft
 go_enter Tryz.func78, Tryz.ntmps78
 go_wp2
 go_loopw [6, 7] (fun v i wr => ∃ j : Nat, j ≤ nd.fls.length ∧ i = .int .i64 j ∧ Hid (Fills w wr v (keepF t (nd.fls.take j)))) (fun _ i _ => nd.fls.length - (intOf i).toNat)
 case atStart => exact ⟨0, Nat.zero_le _, rfl, ⟨Row.nil _ _ _, fun x hx => by simp [Value.ownBlock] at hx, Kept.refl _ _⟩⟩
 case round =>
  obtain ⟨j, hj, rfl, HFi⟩ := hrel
  have HRr : Hid (Ref wr b R) := HR.out.kept HFi.out.kept (fun _ _ => id)
  obtain ⟨c3, a0, a2, a3, f3⟩ := HC.out wr HRr.out
  by_cases hlt : j < nd.fls.length
  · obtain ⟨gf, hao, hcell⟩ := HFC.out wr HRr.out j hlt
    have hs := keepF_snoc t nd.fls j hlt
    have hle := keepF_le t nd.fls j
    have htb := HFT.out nd.fls[j] (List.getElem_mem hlt)
    obtain ⟨x, hx⟩ : ∃ x, x = nd.fls[j] := ⟨_, rfl⟩
    rw [← hx] at hcell hs htb
    have HS : Hid (keepF t (nd.fls.take (j + 1)) = if t < x + 100 then keepF t (nd.fls.take j) ++ [x] else keepF t (nd.fls.take j)) := hs
    rw [hao] at a3
    clear hs hx
    by_cases hgt : t < x + 100
    · have hgz : g < wr.heap.size := HRr.out.nodes.lt g HV.out.2
      have hbz : b < wr.heap.size := HRr.out.blk.lt
      go_wp2_with (at_builtin; refine wpList_append_mine _ rfl (.tmp 35) (.tmp 47) 144 rfl 53 i0 (.int .u64 0) 1 8 Tryz.underlying144 HI.out.1 HI.out.2.1 HI.out.2.2.1 HI.out.2.2.2 rfl (by decide) _ _ _ rfl (HFi.out.row.kept (Kept.alloc _ _ (fun _ => False)) (fun _ _ => id)) ⟨wr.heap.size, 0, none⟩ 1 1 [.int .u64 x] rfl rfl (cell_one_new _ _ _) (oneCell_u64 _) (by unfold maxLen; omega) (by omega) ?_; intro v' w1 hA)
      have HP := HFi.out.push hA
      go_roundw
      case rel => exact ⟨j + 1, by omega, by go_num, by rw [HS.out, if_pos hgt]; exact HP⟩
      case measure => simp [intOf]; omega
    · go_wp2
      go_roundw
      case rel => exact ⟨j + 1, by omega, by go_num, by rw [HS.out, if_neg hgt]; exact HFi⟩
      case measure => simp [intOf]; omega
  · have hj' : j = nd.fls.length := by omega
    subst hj'
    rw [List.take_length] at HFi
    obtain ⟨l0, hl0⟩ : ∃ l0, l0 = keepF t nd.fls := ⟨_, rfl⟩
    have hle := keepF_le t nd.fls nd.fls.length
    rw [List.take_length, ← hl0] at hle
    rw [← hl0] at HFi
    have HL0 : Hid (l0 = keepF t nd.fls) := hl0
    clear hl0
    obtain ⟨av, cv, hvv, _⟩ := HFi.out.row.form
    subst hvv
    have hnew : ∀ x, (Value.slice av l0.length cv).ownBlock = some x → w.heap.size ≤ x := HFi.out.own
    have HR1 : Hid (Ref (wr.setCell ⟨g, k * 7 + 3, none⟩ (.slice av l0.length cv)) b (R.putN k { nd with fl := .slice av l0.length cv, fls := l0 })) := by
     exact HR.out.setFl HN.out.1 HV.out.2 _ l0 HFi.out.kept HFi.out.row hnew
    have HK1 : Hid (Kept (R.fp b) w (wr.setCell ⟨g, k * 7 + 3, none⟩ (.slice av l0.length cv))) :=
     HFi.out.kept.trans (Kept.setCell wr ⟨g, k * 7 + 3, none⟩ (.slice av l0.length cv)) (fun _ => False.elim) (fun x _ hx => fp_vn (by rw [HV.out.2, hx]))
    have hsz : w.heap.size ≤ (wr.setCell ⟨g, k * 7 + 3, none⟩ (.slice av l0.length cv)).heap.size := HK1.out.size
    have hgz : g < wr.heap.size := HRr.out.nodes.lt g HV.out.2
    have hgb : g ≠ b := fun e => HR.out.nodes.ne_block HR.out.blk (by decide) (by rw [HV.out.2, e])
    have hbg : b ≠ g := Ne.symm hgb
    clear hnew
    obtain ⟨hup, hhl⟩ : nd.up = true ∧ (nd.horizon : Int) + 40 < (t : Int) := by simp [fellB] at hfe; exact ⟨hfe.1, by omega⟩
    have HFE : Hid (fellB nd t = true) := hfe
    rw [hup] at a0
    clear hfe hup
    have HFALL : Hid (∀ W : World, Ref W b (R.putN k { nd with fl := .slice av l0.length cv, fls := l0 }) → Calls Tryz.prog 123 #[.pointer (some ⟨b, 0, none⟩), .int .i64 k] W fun e w' => e = .returned (.tuple #[]) ∧ Ref w' b (R.putN k zeroN) ∧ Kept (fun j => R.vn.ownBlock = some j) W w') := by
     intro W hW
     have := rfall W b _ k hW (by simpa [RefS.putN] using hm) (by simpa [RefS.putN] using hk)
     rw [rputN_putN] at this
     exact this
    go_wp2_with (go_at_call 123; refine (HFALL.out _ HR1.out).mono ?_; rintro e w2 ⟨rfl, hR2, hk2⟩; obtain ⟨d3, e3, g3⟩ := HC2.out w2 zeroN hR2; have e4 : w2.cell? ⟨g, k * 7 + 3, none⟩ = some (.slice none 0 0) := e3; clear e3)
    have HR2 : Hid (Ref w2 b (R.putN k zeroN)) := hR2
    have HK2 : Hid (Kept (R.fp b) w w2) := HK1.out.trans hk2 (fun _ => id) (fun x _ hx => fp_vn hx)
    have hb2 : b < w2.heap.size := hR2.blk.lt
    have hg2 : g < w2.heap.size := hR2.nodes.lt g HV.out.2
    clear hR2 hk2
    have qb : ∀ o : Obj, (w2.alloc o).cell? ⟨b, 3, none⟩ = some (.slice (some ⟨g, 0, none⟩) R.nodes.length cap) := fun o => (World.cell?_alloc_past _ _ _ hb2).trans d3
    have qg : ∀ o : Obj, (w2.alloc o).cell? ⟨g, k * 7 + 3, none⟩ = some (.slice none 0 0) := fun o => (World.cell?_alloc_past _ _ _ hg2).trans e4
    have HAP : Hid (∀ (o : Obj) (w' : World) (v' : Value) (news : List Value), Appended ((w2.alloc o).drew) w' 53 1 (.slice none 0 0) v' 0 1 [] news → w'.cell? ⟨b, 3, none⟩ = some (.slice (some ⟨g, 0, none⟩) R.nodes.length cap) ∧ w'.cell? ⟨g, k * 7 + 3, none⟩ = some (.slice none 0 0) ∧ w'.frozen? ⟨g, k * 7 + 3, none⟩ = false ∧ Appended w2 w' 53 1 (.slice none 0 0) v' 0 1 [] news) := by
     intro o w' v' news hA
     have hk : Kept (fun x => (Value.slice none 0 0).ownBlock = some x) w2 w' := (((Kept.alloc w2 o (fun _ => False)).drew).trans hA.kept (fun _ => False.elim) (fun _ _ => id))
     have hR' : Ref w' b (R.putN k zeroN) := HR2.out.kept hk fun x _ hx => by simp [Value.ownBlock] at hx
     obtain ⟨y1, y2, y3⟩ := HC2.out w' zeroN hR'
     refine ⟨y1, y2, y3, hA.row, hk, .inr fun x hx => ?_⟩
     rcases hA.own with e | e
     · rw [e] at hx; simp [Value.ownBlock] at hx
     · have h1 := e x hx
       have h2 : w2.heap.size + 1 ≤ x := by simpa using h1
       omega
    go_region_law (refine step_append_mine rfl (.tmp 103) (.tmp 105) 144 rfl 53 i0 (.int .u64 0) 1 8 Tryz.underlying144 HI.out.1 HI.out.2.1 HI.out.2.2.1 HI.out.2.2.2 rfl (Nat.succ_pos 0) (.slice none 0 0) 0 [] rfl (Row.nil _ _ _) ⟨w2.heap.size, 0, none⟩ 1 1 [.int .u64 t] rfl rfl (fun j u hj => cell_one_new w2 _ _ j u hj) (oneCell_u64 _) (by decide) (by decide) ?_; intro v' w' hA; obtain ⟨p1, p2, p3, p4⟩ := HAP.out _ _ _ _ hA; clear hA; obtain ⟨ao', cap', hv', _⟩ := p4.row.form; subst hv')
    all_goals
     have HP4 : Hid (Appended w2 w' 53 1 (.slice none 0 0) (.slice ao' (0 + 1) cap') 0 1 [] [.int .u64 (t : Int)]) := p4
     clear p4 p1 p2 p3 qb qg d3 e4
     go_wp2
     go_end0
     exact tell_done_a HR2.out HK2.out HFE.out (by omega) HV.out.2 HP4.out
end Go.Proofs.YtpfcacedpkaihaaGreat
