import Derived.Test.YtpfcacedpkaihaaGreatC20
namespace Go.Proofs.YtpfcacedpkaihaaGreat
open Go.RowKit
set_option maxRecDepth 100000
set_option maxHeartbeats 16000000
theorem Tryz.infoStamp : (Tryz.prog.info? 53).map (fun i => (i.zero, i.size, i.bytes)) = some (some (.int .u64 0), 1, 8) := by kernel_rfl
def keepF (t : Nat) (l : List Nat) : List Nat := l.filter fun f => decide (t < f + 100)
def fellB (nd : NodeE) (t : Nat) : Bool := nd.up && decide (nd.horizon + 40 < t)
def leftN (nd : NodeE) (t : Nat) : NodeE := if fellB nd t then zeroN else { nd with fls := keepF t nd.fls }
def tellN (nd : NodeE) (t : Nat) (v : Value) : NodeE := { leftN nd t with fl := v, fls := if (leftN nd t).fls.length < 12 then (leftN nd t).fls ++ [t] else (leftN nd t).fls }
def TellPost (w : World) (b : Nat) (R : RefS) (k : Nat) (nd : NodeE) (t : Nat) (e : Ending) (w' : World) : Prop :=
 e = .returned (.tuple #[]) ∧ ∃ v, Ref w' b (R.putN k (tellN nd t v)) ∧ Kept (R.fp b) w w' ∧ (∀ x, (R.putN k (tellN nd t v)).fp b x → R.fp b x ∨ w.heap.size ≤ x)
theorem keepF_snoc (t : Nat) (l : List Nat) (j : Nat) (h : j < l.length) : keepF t (l.take (j + 1)) = if t < l[j] + 100 then keepF t (l.take j) ++ [l[j]] else keepF t (l.take j) := by
 rw [List.take_succ_eq_append_getElem h, keepF, List.filter_append]
 by_cases hh : t < l[j] + 100 <;> simp [keepF, hh]
theorem keepF_le (t : Nat) (l : List Nat) (j : Nat) : (keepF t (l.take j)).length ≤ l.length := Nat.le_trans (List.length_filter_le _ _) (by simp; omega)
theorem u64s_snoc (l : List Nat) (t : Nat) : u64s (l ++ [t]) = u64s l ++ [.int .u64 (t : Int)] := by simp [u64s]
theorem oneCell_u64 (a : Int) : ∀ u ∈ [Value.int .u64 a], u.oneCell' = true := by intro u hu; simp at hu; subst hu; rfl
structure Fills (w wr : World) (v : Value) (l : List Nat) : Prop where
 row : Row wr 53 1 v l.length (u64s l)
 own : ∀ x, v.ownBlock = some x → w.heap.size ≤ x
 kept : Kept (fun _ => False) w wr
theorem Fills.push {w wr w1 : World} {v v' : Value} {l : List Nat} {t : Nat} {o : Obj} (h : Fills w wr v l) (hA : Appended (wr.alloc o) w1 53 1 v v' l.length 1 (u64s l) [.int .u64 (t : Int)]) : Fills w w1 v' (l ++ [t]) := by
 refine ⟨by rw [u64s_snoc]; simpa using hA.row, fun x hx => ?_, (h.kept.trans (Kept.alloc _ _ (fun _ => False)) (fun _ => id) (fun _ _ => id)).trans hA.kept (fun _ => id) (fun j hj hv => ?_)⟩
 · rcases hA.own with e | e
  · exact h.own x (by rw [← e]; exact hx)
  · have h1 := e x hx
   have h2 := h.kept.size
   simp at h1
   omega
 · have := h.own j hv; omega
theorem rputN_putN (R : RefS) (k : Nat) (a c : NodeE) : (R.putN k a).putN k c = R.putN k c := by simp [RefS.putN, List.set_set]
theorem rputN_at {R : RefS} {k : Nat} {nd : NodeE} (hk : k < R.nodes.length) : (R.putN k nd).nodes[k]? = some nd := by simp [RefS.putN, hk]
theorem Ref.setFl {w wr : World} {b : Nat} {R : RefS} (h : Ref w b R) {k g : Nat} {nd : NodeE} (hnd : R.nodes[k]? = some nd) (ho : R.vn.ownBlock = some g) (v : Value) (l : List Nat) (hk : Kept (fun _ => False) w wr) (hr : Row wr 53 1 v l.length (u64s l))
  (hnew : ∀ x, v.ownBlock = some x → w.heap.size ≤ x) : Ref (wr.setCell ⟨g, k * 7 + 3, none⟩ v) b (R.putN k { nd with fl := v, fls := l }) := by
 obtain ⟨hkl, hnd'⟩ := List.getElem?_eq_some_iff.mp hnd
 refine (h.putF (f := 0) (r' := ⟨53, 1, v, l.length, u64s l⟩) hnd (by omega) rfl rfl (hk.mono fun _ => False.elim) hr (fun x hx => .inr (hnew x hx)) ((Kept.setCell wr ⟨g, k * 7 + 3, none⟩ v).mono fun j hj => by rw [ho, hj]) ?_).1
 rw [List.length_set, ← flat_set nodeC 7 (fun _ => rfl) R.nodes k hkl 3 (by omega) v { nd with fl := v, fls := l } (by rw [hnd']; rfl)]
 exact (h.nodes.kept hk (fun _ _ => id)).set ho _ _
theorem Ref.pushFl {w w2 : World} {b : Nat} {R : RefS} (h : Ref w b R) {k g t : Nat} {nd : NodeE} (hnd : R.nodes[k]? = some nd) (ho : R.vn.ownBlock = some g) {v2 : Value}
  (hA : Appended w w2 53 1 nd.fl v2 nd.fls.length 1 (u64s nd.fls) [.int .u64 (t : Int)]) :
  Ref (w2.setCell ⟨g, k * 7 + 3, none⟩ v2) b (R.putN k { nd with fl := v2, fls := nd.fls ++ [t] }) ∧ Kept (R.fp b) w (w2.setCell ⟨g, k * 7 + 3, none⟩ v2) ∧
   (∀ x, (R.putN k { nd with fl := v2, fls := nd.fls ++ [t] }).fp b x → R.fp b x ∨ w.heap.size ≤ x) := by
 obtain ⟨hkl, hnd'⟩ := List.getElem?_eq_some_iff.mp hnd
 have rf := h.fls nd (List.mem_of_getElem? hnd)
 refine h.putF (f := 0) (r' := ⟨53, 1, v2, (nd.fls ++ [t]).length, u64s (nd.fls ++ [t])⟩) hnd (by omega) rfl rfl hA.kept ?_ (fun x hx => hA.own.imp (fun e => by show nd.fl.ownBlock = some x; rw [← e]; exact hx) (fun e => e x hx)) ((Kept.setCell w2 ⟨g, k * 7 + 3, none⟩ v2).mono fun j hj => by rw [ho, hj]) ?_
 · show Row _ _ 1 v2 (nd.fls ++ [t]).length (u64s (nd.fls ++ [t]))
  rw [u64s_snoc]; simpa using hA.row
 · rw [List.length_set, ← flat_set nodeC 7 (fun _ => rfl) R.nodes k hkl 3 (by omega) v2 { nd with fl := v2, fls := nd.fls ++ [t] } (by rw [hnd']; rfl)]
  exact (h.nodes.kept hA.kept fun j hj he => rf.ne_row h.nodes (by decide) j he hj).set ho _ _
theorem fp_fl {R : RefS} {b k : Nat} {nd y : NodeE} {x : Nat} (hnd : R.nodes[k]? = some nd) (hy : nodeR y = (nodeR nd).set 0 ⟨53, 1, y.fl, y.fls.length, u64s y.fls⟩) (h : (R.putN k y).fp b x) : R.fp b x ∨ y.fl.ownBlock = some x := by
 rcases h with h | ⟨a, ha, hx⟩
 · exact .inl (.inl h)
 · rw [rows_set hnd 0 (by omega) _ hy] at ha
  rcases List.mem_or_eq_of_mem_set ha with ha | rfl
  · rcases List.mem_or_eq_of_mem_set ha with ha | rfl
   · exact .inl (.inr ⟨a, ha, hx⟩)
   · exact .inr hx
  · exact .inl (fp_vn hx)
theorem fp_zero {R : RefS} {b k x : Nat} (h : (R.putN k zeroN).fp b x) : R.fp b x := by
 rcases h with h | ⟨a, ha, hx⟩
 · exact .inl h
 · simp only [RefS.rows, List.mem_cons, List.mem_flatMap] at ha
  rcases ha with rfl | rfl | rfl | rfl | rfl | ⟨nd, hn, hr⟩
  · exact fp_vp hx
  · exact fp_vr hx
  · exact fp_vn hx
  · exact .inr ⟨_, List.mem_of_getElem? (i := 3) rfl, hx⟩
  · exact .inr ⟨_, List.mem_of_getElem? (i := 4) rfl, hx⟩
  · rcases List.mem_or_eq_of_mem_set hn with hn | rfl
   · exact .inr ⟨a, nodeR_mem hn hr, hx⟩
   · simp only [nodeR, zeroN, List.mem_cons, List.not_mem_nil, or_false] at hr
    rcases hr with rfl | rfl | rfl | rfl <;> simp [Value.ownBlock] at hx
theorem tell_done_a {w w2 w' : World} {b k g t : Nat} {R : RefS} {nd : NodeE} {v' : Value} (hR : Ref w2 b (R.putN k zeroN)) (hK : Kept (R.fp b) w w2) (hfe : fellB nd t = true) (hk : k < R.nodes.length) (ho : R.vn.ownBlock = some g)
  (hA : Appended w2 w' 53 1 (.slice none 0 0) v' 0 1 [] [.int .u64 (t : Int)]) : TellPost w b R k nd t (.returned (.tuple #[])) (w'.setCell ⟨g, k * 7 + 3, none⟩ v') := by
 obtain ⟨z1, z2, z3⟩ := hR.pushFl (t := t) (rputN_at hk) ho hA
 rw [rputN_putN] at z1 z3
 have e : ({ zeroN with fl := v', fls := zeroN.fls ++ [t] } : NodeE) = tellN nd t v' := by simp [tellN, leftN, hfe, zeroN]
 rw [e] at z1 z3
 refine ⟨rfl, v', z1, hK.trans z2 (fun _ => id) (fun x _ hf => fp_zero hf), fun x hx => ?_⟩
 rcases z3 x hx with h | h
 · exact .inl (fp_zero h)
 · exact .inr (Nat.le_trans hK.size h)
theorem rtell_a (w : World) (b : Nat) (R : RefS) (k t : Nat) (nd : NodeE) (h : Ref w b R) (hf : R.Fit) (hnd : R.nodes[k]? = some nd) (_ht : t ≤ 700) (hfe : fellB nd t = true) :
  Calls Tryz.prog 78 #[.pointer (some ⟨b, 0, none⟩), .int .i64 k, .int .u64 t] w fun e w' => TellPost w b R k nd t e w' := by
 obtain ⟨hk, hnd'⟩ := List.getElem?_eq_some_iff.mp hnd
 have hmem : nd ∈ R.nodes := List.mem_of_getElem? hnd
 have hm := hf.nmax
 obtain ⟨hfm, hhz, hft⟩ := hf.fmax nd hmem
 obtain ⟨g, cap, hv, ho, hgl⟩ := h.nodes.block (by omega)
 obtain ⟨ao, fc, hfl, _⟩ := (h.fls nd hmem).form
 obtain ⟨i0, hi, hz0, hz1, hz2⟩ := info_parts Tryz.infoStamp
 have HI : Hid (Tryz.prog.info? 53 = some i0 ∧ i0.zero = some (.int .u64 0) ∧ i0.size = 1 ∧ i0.bytes = 8) := ⟨hi, hz0, hz1, hz2⟩
 clear hi hz0 hz1 hz2
 have HR : Hid (Ref w b R) := h
 have HV : Hid (R.vn = .slice (some ⟨g, 0, none⟩) R.nodes.length cap ∧ R.vn.ownBlock = some g) := ⟨hv, ho⟩
 have HN : Hid (R.nodes[k]? = some nd ∧ nd ∈ R.nodes ∧ nd.fl = .slice ao nd.fls.length fc ∧ R.Fit) := ⟨hnd, hmem, hfl, hf⟩
 have HFT : Hid (∀ t ∈ nd.fls, t ≤ 700) := hft
 have HC : Hid (∀ W : World, Ref W b R → W.cell? ⟨b, 3, none⟩ = some (.slice (some ⟨g, 0, none⟩) R.nodes.length cap) ∧ W.cell? ⟨g, k * 7, none⟩ = some (.bool nd.up) ∧ W.cell? ⟨g, k * 7 + 2, none⟩ = some (.int .u64 (nd.horizon : Int)) ∧
   W.cell? ⟨g, k * 7 + 3, none⟩ = some (.slice ao nd.fls.length fc) ∧ W.frozen? ⟨g, k * 7 + 3, none⟩ = false) := by
  intro W hW
  refine ⟨by rw [hW.c3, hv], ?_, ?_, ?_, hW.nodes.free ho _⟩
  · exact hW.nodes.cell ho (k * 7) _ (by have := node_at R.nodes k hk 0 (by omega); rw [Nat.add_zero] at this; rw [this, hnd']; rfl)
  · exact hW.nodes.cell ho (k * 7 + 2) _ (by rw [node_at R.nodes k hk 2 (by omega), hnd']; rfl)
  · exact hW.nodes.cell ho (k * 7 + 3) _ (by rw [node_at R.nodes k hk 3 (by omega), hnd', ← hfl]; rfl)
 have HFC : Hid (∀ W : World, Ref W b R → ∀ j (hj : j < nd.fls.length), ∃ gf, ao = some ⟨gf, 0, none⟩ ∧ W.cell? ⟨gf, j, none⟩ = some (.int .u64 (nd.fls[j] : Int))) := by
  intro W hW j hj
  obtain ⟨gf, cf, e1, e2, _⟩ := (hW.fls nd hmem).block (by omega)
  rw [hfl] at e1
  injection e1 with e1 _ _
  exact ⟨gf, e1, (hW.fls nd hmem).cell e2 j _ (by simp [u64s, hj])⟩
 have HC2 : Hid (∀ (W : World) (nd2 : NodeE), Ref W b (R.putN k nd2) → W.cell? ⟨b, 3, none⟩ = some (.slice (some ⟨g, 0, none⟩) R.nodes.length cap) ∧ W.cell? ⟨g, k * 7 + 3, none⟩ = some nd2.fl ∧ W.frozen? ⟨g, k * 7 + 3, none⟩ = false) := by
  intro W nd2 hW
  refine ⟨by rw [hW.c3]; show some R.vn = _; rw [hv], ?_, hW.nodes.free ho _⟩
  refine hW.nodes.cell ho (k * 7 + 3) _ ?_
  show ((R.nodes.set k nd2).flatMap nodeC)[k * 7 + 3]? = _
  rw [node_at (R.nodes.set k nd2) k (by simpa using hk) 3 (by omega), List.getElem_set_self]; rfl
 clear h hf hv ho hnd hnd' hmem hfl hft
 go_enter Tryz.func78, Tryz.ntmps78
 go_wp2
 go_loopw [6, 7] (fun v i wr => ∃ j : Nat, j ≤ nd.fls.length ∧ i = .int .i64 j ∧ Hid (Fills w wr v (keepF t (nd.fls.take j)))) (fun _ i _ => nd.fls.length - (intOf i).toNat)
 case atStart => exact ⟨0, Nat.zero_le _, rfl, ⟨Row.nil _ _ _, fun x hx => by simp [Value.ownBlock] at hx, Kept.refl _ _⟩⟩
 case round =>
  obtain ⟨j, hj, rfl, HFi⟩ := hrel
  have HRr : Hid (Ref wr b R) := HR.out.kept HFi.out.kept (fun _ _ => id)
  obtain ⟨c3, a0, a2, a3, f3⟩ := HC.out wr HRr.out
  by_cases hlt : j < nd.fls.length
  · obtain ⟨gf, hao, hcell⟩ := HFC.out wr HRr.out j hlt
   have hs := keepF_snoc t nd.fls j hlt
   have hle := keepF_le t nd.fls j
   have htb := HFT.out nd.fls[j] (List.getElem_mem hlt)
   obtain ⟨x, hx⟩ : ∃ x, x = nd.fls[j] := ⟨_, rfl⟩
   rw [← hx] at hcell hs htb
   have HS : Hid (keepF t (nd.fls.take (j + 1)) = if t < x + 100 then keepF t (nd.fls.take j) ++ [x] else keepF t (nd.fls.take j)) := hs
   rw [hao] at a3
   clear hs hx
   by_cases hgt : t < x + 100
   · have hgz : g < wr.heap.size := HRr.out.nodes.lt g HV.out.2
    have hbz : b < wr.heap.size := HRr.out.blk.lt
    go_wp2_with (at_builtin; refine wpList_append_mine _ rfl (.tmp 35) (.tmp 47) 144 rfl 53 i0 (.int .u64 0) 1 8 Tryz.underlying144 HI.out.1 HI.out.2.1 HI.out.2.2.1 HI.out.2.2.2 rfl (by decide) _ _ _ rfl (HFi.out.row.kept (Kept.alloc _ _ (fun _ => False)) (fun _ _ => id)) ⟨wr.heap.size, 0, none⟩ 1 1 [.int .u64 x] rfl rfl (cell_one_new _ _ _) (oneCell_u64 _) (by unfold maxLen; omega) (by omega) ?_; intro v' w1 hA)
    have HP := HFi.out.push hA
    go_roundw
    case rel => exact ⟨j + 1, by omega, by go_num, by rw [HS.out, if_pos hgt]; exact HP⟩
    case measure => simp [intOf]; omega
   · go_wp2
    go_roundw
    case rel => exact ⟨j + 1, by omega, by go_num, by rw [HS.out, if_neg hgt]; exact HFi⟩
    case measure => simp [intOf]; omega
  · have hj' : j = nd.fls.length := by omega
   subst hj'
   rw [List.take_length] at HFi
   obtain ⟨l0, hl0⟩ : ∃ l0, l0 = keepF t nd.fls := ⟨_, rfl⟩
   have hle := keepF_le t nd.fls nd.fls.length
   rw [List.take_length, ← hl0] at hle
   rw [← hl0] at HFi
   have HL0 : Hid (l0 = keepF t nd.fls) := hl0
   clear hl0
   obtain ⟨av, cv, hvv, _⟩ := HFi.out.row.form
   subst hvv
   have hnew : ∀ x, (Value.slice av l0.length cv).ownBlock = some x → w.heap.size ≤ x := HFi.out.own
   have HR1 : Hid (Ref (wr.setCell ⟨g, k * 7 + 3, none⟩ (.slice av l0.length cv)) b (R.putN k { nd with fl := .slice av l0.length cv, fls := l0 })) := by
    exact HR.out.setFl HN.out.1 HV.out.2 _ l0 HFi.out.kept HFi.out.row hnew
   have HK1 : Hid (Kept (R.fp b) w (wr.setCell ⟨g, k * 7 + 3, none⟩ (.slice av l0.length cv))) :=
    HFi.out.kept.trans (Kept.setCell wr ⟨g, k * 7 + 3, none⟩ (.slice av l0.length cv)) (fun _ => False.elim) (fun x _ hx => fp_vn (by rw [HV.out.2, hx]))
   have hsz : w.heap.size ≤ (wr.setCell ⟨g, k * 7 + 3, none⟩ (.slice av l0.length cv)).heap.size := HK1.out.size
   have hgz : g < wr.heap.size := HRr.out.nodes.lt g HV.out.2
   have hgb : g ≠ b := fun e => HR.out.nodes.ne_block HR.out.blk (by decide) (by rw [HV.out.2, e])
   have hbg : b ≠ g := Ne.symm hgb
   clear hnew
   obtain ⟨hup, hhl⟩ : nd.up = true ∧ (nd.horizon : Int) + 40 < (t : Int) := by simp [fellB] at hfe; exact ⟨hfe.1, by omega⟩
   have HFE : Hid (fellB nd t = true) := hfe
   rw [hup] at a0
   clear hfe hup
   have HFALL : Hid (∀ W : World, Ref W b (R.putN k { nd with fl := .slice av l0.length cv, fls := l0 }) → Calls Tryz.prog 123 #[.pointer (some ⟨b, 0, none⟩), .int .i64 k] W fun e w' => e = .returned (.tuple #[]) ∧ Ref w' b (R.putN k zeroN) ∧ Kept (fun j => R.vn.ownBlock = some j) W w') := by
    intro W hW
    have := rfall W b _ k hW (by simpa [RefS.putN] using hm) (by simpa [RefS.putN] using hk)
    rw [rputN_putN] at this
    exact this
   go_wp2_with (go_at_call 123; refine (HFALL.out _ HR1.out).mono ?_; rintro e w2 ⟨rfl, hR2, hk2⟩; obtain ⟨d3, e3, g3⟩ := HC2.out w2 zeroN hR2; have e4 : w2.cell? ⟨g, k * 7 + 3, none⟩ = some (.slice none 0 0) := e3; clear e3)
   have HR2 : Hid (Ref w2 b (R.putN k zeroN)) := hR2
   have HK2 : Hid (Kept (R.fp b) w w2) := HK1.out.trans hk2 (fun _ => id) (fun x _ hx => fp_vn hx)
   have hb2 : b < w2.heap.size := hR2.blk.lt
   have hg2 : g < w2.heap.size := hR2.nodes.lt g HV.out.2
   clear hR2 hk2
   have qb : ∀ o : Obj, (w2.alloc o).cell? ⟨b, 3, none⟩ = some (.slice (some ⟨g, 0, none⟩) R.nodes.length cap) := fun o => (World.cell?_alloc_past _ _ _ hb2).trans d3
   have qg : ∀ o : Obj, (w2.alloc o).cell? ⟨g, k * 7 + 3, none⟩ = some (.slice none 0 0) := fun o => (World.cell?_alloc_past _ _ _ hg2).trans e4
   have HAP : Hid (∀ (o : Obj) (w' : World) (v' : Value) (news : List Value), Appended ((w2.alloc o).drew) w' 53 1 (.slice none 0 0) v' 0 1 [] news → w'.cell? ⟨b, 3, none⟩ = some (.slice (some ⟨g, 0, none⟩) R.nodes.length cap) ∧ w'.cell? ⟨g, k * 7 + 3, none⟩ = some (.slice none 0 0) ∧ w'.frozen? ⟨g, k * 7 + 3, none⟩ = false ∧ Appended w2 w' 53 1 (.slice none 0 0) v' 0 1 [] news) := by
    intro o w' v' news hA
    have hk : Kept (fun x => (Value.slice none 0 0).ownBlock = some x) w2 w' := (((Kept.alloc w2 o (fun _ => False)).drew).trans hA.kept (fun _ => False.elim) (fun _ _ => id))
    have hR' : Ref w' b (R.putN k zeroN) := HR2.out.kept hk fun x _ hx => by simp [Value.ownBlock] at hx
    obtain ⟨y1, y2, y3⟩ := HC2.out w' zeroN hR'
    refine ⟨y1, y2, y3, hA.row, hk, .inr fun x hx => ?_⟩
    rcases hA.own with e | e
    · rw [e] at hx; simp [Value.ownBlock] at hx
    · have h1 := e x hx
     have h2 : w2.heap.size + 1 ≤ x := by simpa using h1
     omega
   go_region_law (refine step_append_mine rfl (.tmp 103) (.tmp 105) 144 rfl 53 i0 (.int .u64 0) 1 8 Tryz.underlying144 HI.out.1 HI.out.2.1 HI.out.2.2.1 HI.out.2.2.2 rfl (Nat.succ_pos 0) (.slice none 0 0) 0 [] rfl (Row.nil _ _ _) ⟨w2.heap.size, 0, none⟩ 1 1 [.int .u64 t] rfl rfl (fun j u hj => cell_one_new w2 _ _ j u hj) (oneCell_u64 _) (by decide) (by decide) ?_; intro v' w' hA; obtain ⟨p1, p2, p3, p4⟩ := HAP.out _ _ _ _ hA; clear hA; obtain ⟨ao', cap', hv', _⟩ := p4.row.form; subst hv')
   all_goals
    have HP4 : Hid (Appended w2 w' 53 1 (.slice none 0 0) (.slice ao' (0 + 1) cap') 0 1 [] [.int .u64 (t : Int)]) := p4
    clear p4 p1 p2 p3 qb qg d3 e4
    go_wp2
    go_end0
    exact tell_done_a HR2.out HK2.out HFE.out (by omega) HV.out.2 HP4.out
end Go.Proofs.YtpfcacedpkaihaaGreat
