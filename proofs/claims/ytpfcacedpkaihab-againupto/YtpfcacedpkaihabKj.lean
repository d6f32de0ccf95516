/- The keeping laws' own functions (package almanackeep): a read that is answered, walked. -/
import Derived.Test.YtpfcacedpkaihabKi
namespace Go.Proofs.Ytpfcacedpkaihab
open Go.RowKit

set_option maxRecDepth 100000 in
set_option maxHeartbeats 4000000 in
theorem kread_yes (w0 : Fr) (w : World) (pb n r : Nat) (K : KS) (D : DevS) (o : StE) (rd : KrE) (v : Int) (ht : Bool) (h : KInv w0 w pb n K D) (ho : StOk w o) (hwh : whichK K.rds.length o.b = (r : Int)) (hrd : K.rds[r]? = some rd) (hre : rd.ended = false) (htl : rd.told.length ≤ n) (hnm : n ≤ 1048576) (hpe : (Q.readL o.s.data.toList).1 = 0)
    (hc : ∀ W, Kept (fun _ => False) w W → Calls Try.prog 12 #[.pointer (some ⟨K.xb, 0, none⟩), .int .i64 (r : Int), .string o.s] W fun e w' => e = .returned (.tuple #[.int .i32 v, .bool ht, .int .i64 0]) ∧ Hid (∃ D', DBecame W K.xb D w' D' ∧ KStep K.q D.pu { K.q with rds := K.q.rds.set r { rd.p with told := rd.told ++ [(o.s, v)] } } D'.pu)) :
    Calls Try.prog 24 #[.pointer (some ⟨pb, 0, none⟩), .agg #[.int .i64 o.kd, .int .i64 o.b, .int .i64 o.c, .string o.s, .slice o.ka o.kn o.kc, .slice o.va o.vn o.vc]] w fun e w' => e = .returned (.tuple #[]) ∧ KPost w0 pb n K D w' := by
  obtain ⟨hcnt, hlen⟩ := h.ki.count
  have hbm : K.rds.length ≤ 200 := by
    have e : K.q.rds.length = K.rds.length := by simp [KS.q]
    have := h.ki.good.bmax
    omega
  have hrl : r < K.rds.length := (List.getElem?_eq_some_iff.mp hrd).1
  obtain ⟨g, cr, hvr, hog, hgl⟩ := h.core.keep.rds.block (by omega)
  have hsl := ho.slen
  have HWH : Hid (∀ W, Kept (fun _ => False) w W → Calls Try.prog 20 #[.pointer (some ⟨pb, 0, none⟩), .int .i64 o.b] W fun e w' => e = .returned (.int .i64 (r : Int)) ∧ W = w') := fun W hW => by rw [← hwh]; exact kwhich W pb _ K.rds.length cr o.b (by rw [← hvr]; exact hW.hold h.core.keep.c6) (by omega) ho.b0 ho.b1
  have HRD : Hid (∀ W, Kept (fun _ => False) w W → Calls Try.prog 12 #[.pointer (some ⟨K.xb, 0, none⟩), .int .i64 (r : Int), .string o.s] W fun e w' => e = .returned (.tuple #[.int .i32 v, .bool ht, .int .i64 0]) ∧ Hid (∃ D', KCore w0 w' pb K D' ∧ Kept (D.fp K.xb) W w' ∧ KStep K.q D.pu { K.q with rds := K.q.rds.set r { rd.p with told := rd.told ++ [(o.s, v)] } } D'.pu)) := fun W hW => (hc W hW).mono fun e w' hp => by
    obtain ⟨D', hB, hs⟩ := hp.2.out
    exact ⟨hp.1, D', (h.core.kept hW).prog hB, hB.2.1, hs⟩
  have HPA : Hid (∀ W, Calls Try.prog 13 #[.string o.s] W fun e w' => ∃ x y : Int, e = .returned (.tuple #[.agg #[.int .u8 x, .int .i64 y], .int .i64 0]) ∧ Kept (fun _ => False) W w') := fun W => (aParse_any o.s W (by unfold maxLen; omega)).mono fun e w' hp => ⟨_, _, by rw [← hpe]; exact hp.1, Kept.of_below hp.2 _⟩
  have hg : goneK K.rds (r : Int) = false := by
    unfold goneK
    rw [decide_eq_false (by omega), decide_eq_false (by omega), Int.toNat_natCast, hrd]
    simpa using hre
  have HGO : Hid (∀ W, Keep W pb K → Calls Try.prog 21 #[.pointer (some ⟨pb, 0, none⟩), .int .i64 (r : Int)] W fun e w' => e = .returned (.bool false) ∧ W = w') := fun W hK => by
    have := kgone W pb K (r : Int) hK (by omega)
    rw [hg] at this
    exact this
  obtain ⟨atd, ctd, htv, _⟩ := (h.core.keep.told hrd).form
  obtain ⟨tl, htl'⟩ : ∃ tl, tl = rd.told := ⟨_, rfl⟩
  have HTV : Hid (rd.tv = .slice atd tl.length ctd ∧ rd.told = tl) := ⟨by rw [htl']; exact htv, htl'.symm⟩
  have hrow : ∀ {W : World} {D' : DevS}, KCore w0 W pb K D' → KBecame W pb K (W.setCell ⟨pb, 8, none⟩ (.bool true)) { K with ok := true } := fun hC => hC.keep.setOwn 8 (.bool true) rfl rfl
  have HCL : Hid (∀ W D', KCore w0 W pb K D' → (W.cell? ⟨pb, 8, none⟩ = some (.bool true) ∧ (∀ i, W.frozen? ⟨pb, i, none⟩ = false)) ∧ ((W.setCell ⟨pb, 8, none⟩ (.bool true)).cell? ⟨pb, 6, none⟩ = some (.slice (some ⟨g, 0, none⟩) K.rds.length cr) ∧ (W.setCell ⟨pb, 8, none⟩ (.bool true)).cell? ⟨g, r * 4 + 2, none⟩ = some (.slice atd tl.length ctd) ∧ Hid (Row (W.setCell ⟨pb, 8, none⟩ (.bool true)) 119 2 (.slice atd tl.length ctd) tl.length (tl.flatMap saidC)))) := fun W D' hC => by
    have s1 := hrow hC
    have hc2 : (W.setCell ⟨pb, 8, none⟩ (.bool true)).cell? ⟨g, r * 4 + 2, none⟩ = some rd.tv := s1.1.rds.cell hog _ _ (by rw [kr_at K.rds r hrl 2 (by omega), (List.getElem?_eq_some_iff.mp hrd).2]; rfl)
    refine ⟨⟨by have := hC.keep.c8; rw [h.ok] at this; exact this, fun i => hC.keep.blk.free i⟩, by rw [← hvr]; exact s1.1.c6, by rw [← HTV.out.1]; exact hc2, ?_⟩
    have := s1.1.told (K := { K with ok := true }) hrd
    rw [HTV.out.1, HTV.out.2] at this
    exact this
  have HAP : Hid (∀ (W W1 w' : World) (v' : Value) (D' : DevS), KCore w0 W pb K D' → KStep K.q D.pu { K.q with rds := K.q.rds.set r { rd.p with told := rd.told ++ [(o.s, v)] } } D'.pu → Kept (fun _ => False) (W.setCell ⟨pb, 8, none⟩ (.bool true)) W1 → Appended W1 w' 119 2 (.slice atd tl.length ctd) v' tl.length 1 (tl.flatMap saidC) (saidC (o.s, v)) → w'.cell? ⟨pb, 6, none⟩ = some (.slice (some ⟨g, 0, none⟩) K.rds.length cr) ∧ w'.cell? ⟨g, r * 4 + 2, none⟩ = some (.slice atd tl.length ctd) ∧ w'.frozen? ⟨g, r * 4 + 2, none⟩ = false ∧ Hid (KPost w0 pb n K D (w'.setCell ⟨g, r * 4 + 2, none⟩ v'))) := fun W W1 w' v' D' hC hs hk hA => by
    have s1 := hrow hC
    have hA2 := Appended.from hk hA
    have hi : ({ K with ok := true } : KS).rows[r + 3]? = some (rdD rd) := by
      show (K.rds.map rdD)[r]? = _
      rw [List.getElem?_map, hrd]; rfl
    have hrn : Row w' 36 4 K.vr K.rds.length (K.rds.flatMap krC) := s1.1.rds.kept hA2.kept fun x hx he => (s1.1.told (K := { K with ok := true }) hrd).ne_row s1.1.rds (by decide) x (by rw [HTV.out.1]; exact he) hx
    have s2 := s1.1.putTold (K := { K with ok := true }) hog hrd (tl ++ [(o.s, v)]) v' (by rw [HTV.out.1]; exact hA2.kept) (row_snoc hA2.row) (fun x hx => by rw [HTV.out.1]; exact hA2.new x hx)
    refine ⟨by have hb6 := (s1.1.blk.kept hA2.kept fun he => s1.1.ne _ (List.mem_of_getElem? hi) (by rw [HTV.out.1.symm] at he; exact he)).cell 6; rw [← hvr]; exact hb6, by have := hrn.cell hog (r * 4 + 2) _ (by rw [kr_at K.rds r hrl 2 (by omega), (List.getElem?_eq_some_iff.mp hrd).2]; rfl); rw [HTV.out.1] at this; exact this, hrn.free hog _, ?_⟩
    have hq : ({ K with ok := true, rds := K.rds.set r { rd with tv := v', told := tl ++ [(o.s, v)] } } : KS).q = { K.q with rds := K.q.rds.set r { rd.p with told := rd.told ++ [(o.s, v)] } } := by
      simp [KS.q, List.map_set, KrE.p, HTV.out.2]
    rw [← hq] at hs
    refine ⟨{ K with ok := true, rds := K.rds.set r { rd with tv := v', told := tl ++ [(o.s, v)] } }, D', ⟨hC.turn (s1.trans s2) rfl, h.ki.step hs, ?_, rfl⟩, hs⟩
    have hrq : K.q.rds[r]? = some rd.p := by show (K.rds.map KrE.p)[r]? = _; rw [List.getElem?_map, hrd]; rfl
    have e6 : openK (K.q.rds.set r { rd.p with told := rd.told ++ [(o.s, v)] }) = openK K.q.rds := by
      have := openK_set (b := { rd.p with told := rd.told ++ [(o.s, v)] }) hrq
      have e7 : ({ rd.p with told := rd.told ++ [(o.s, v)] } : KR).ended = rd.p.ended := rfl
      rw [e7] at this
      omega
    rw [hq]
    show K.open' = (openK (K.q.rds.set r { rd.p with told := rd.told ++ [(o.s, v)] }) : Int)
    rw [e6]
    exact h.open'
  have HC0 : Hid (∀ W, Kept (fun _ => False) w W → W.cell? ⟨pb, 0, none⟩ = some (.pointer (some ⟨K.xb, 0, none⟩))) := fun W hW => hW.hold h.core.keep.c0
  have HDF : Hid (∀ k, D.fp K.xb k → k < w.heap.size) := h.core.dev.lt
  have hpb : pb < w.heap.size := h.core.keep.blk.lt
  have hgp : g ≠ pb := fun e => h.core.keep.ne ⟨36, 4, K.vr, K.rds.length, K.rds.flatMap krC⟩ (List.mem_of_getElem? (i := 2) rfl) (by rw [← e]; exact hog)
  obtain ⟨i0, hi, hz0, hz1, hz2⟩ := info_parts Try.infoSaid
  have HI : Hid (Try.prog.info? 119 = some i0 ∧ i0.zero = some (.agg #[.string ByteArray.empty, .int .i32 0]) ∧ i0.size = 2 ∧ i0.bytes = 24) := ⟨hi, hz0, hz1, hz2⟩
  have htn : tl.length ≤ 1048576 := by rw [htl']; omega
  have b1 : tl.length + 1 ≤ maxLen := by unfold maxLen; omega
  have b2 : (tl.length + 1) * 24 ≤ 140737488355328 := by omega
  have hr0 : (0 : Int) ≤ (r : Int) := by omega
  have hr1 : (r : Int) < (K.rds.length : Int) := by omega
  have HB0 : Hid (Kept (fun _ => False) w (w.alloc (.cells #[.int .i64 o.kd, .int .i64 o.b, .int .i64 o.c, .string o.s, .slice o.ka o.kn o.kc, .slice o.va o.vn o.vc] 33)) ∧ Blk (w.alloc (.cells #[.int .i64 o.kd, .int .i64 o.b, .int .i64 o.c, .string o.s, .slice o.ka o.kn o.kc, .slice o.va o.vn o.vc] 33)) w.heap.size 33 #[.int .i64 o.kd, .int .i64 o.b, .int .i64 o.c, .string o.s, .slice o.ka o.kn o.kc, .slice o.va o.vn o.vc]) := ⟨Kept.alloc _ _ _, Blk.new _ _ _⟩
  clear h ho hwh hrd hre hpe hc hcnt hlen hvr hog hg htv htl' hrow hi hz0 hz1 hz2 htl
  go_enter Try.func24, Try.ntmps24
  go_wp2_with (go_at_call 20; refine (HWH.out _ (Kept.alloc _ _ _)).mono ?_; rintro e w1 ⟨rfl, rfl⟩)
  generalize w.alloc (.cells #[.int .i64 o.kd, .int .i64 o.b, .int .i64 o.c, .string o.s, .slice o.ka o.kn o.kc, .slice o.va o.vn o.vc] 33) = W at HB0 ⊢
  have c0 := HC0.out W HB0.out.1
  have b3 : W.cell? ⟨w.heap.size, 3, none⟩ = some (.string o.s) := HB0.out.2.cell 3
  have v0 := drew_cell0 c0
  have v1 := drew_cell0 b3
  go_region_held3 (fun w' => w'.cell? ⟨pb, 0, none⟩ = some (.pointer (some ⟨K.xb, 0, none⟩)) ∧ w'.cell? ⟨w.heap.size, 3, none⟩ = some (.string o.s)) (first | with_reducible exact ⟨s0, s1⟩ | with_reducible exact ⟨v0, v1⟩ | fail) ((go_at_call 12; refine (HRD.out _ HB0.out.1.drew).mono ?_; rintro e w2 ⟨rfl, hk2⟩; obtain ⟨D', hC2, hk3, hst⟩ := hk2.out; have HC2 : Hid (KCore w0 w2 pb K D' ∧ KStep K.q D.pu { K.q with rds := K.q.rds.set r { rd.p with told := rd.told ++ [(o.s, v)] } } D'.pu ∧ Blk w2 w.heap.size 33 #[.int .i64 o.kd, .int .i64 o.b, .int .i64 o.c, .string o.s, .slice o.ka o.kn o.kc, .slice o.va o.vn o.vc]) := ⟨hC2, hst, (HB0.out.2.same (w' := W.drew) rfl).kept hk3 (fun hh => absurd (HDF.out _ hh) (Nat.lt_irrefl _))⟩; have s0 : w2.cell? ⟨pb, 0, none⟩ = some (.pointer (some ⟨K.xb, 0, none⟩)) := HC2.out.1.keep.c0; have s1 : w2.cell? ⟨w.heap.size, 3, none⟩ = some (.string o.s) := HC2.out.2.2.cell 3; clear hk2 hC2 hk3 hst))
  all_goals
    have d3 : w2.cell? ⟨w.heap.size, 3, none⟩ = some (.string o.s) := HC2.out.2.2.cell 3
    clear s0 s1
    go_wp2_with first
      | (go_at_call 13; refine (HPA.out _).mono ?_; rintro e w3 ⟨x, y, rfl, hk3⟩; have HC3 : Hid (KCore w0 (w3.alloc (.cells #[.int .u8 x, .int .i64 y] 54)) pb K D' ∧ Blk (w3.alloc (.cells #[.int .u8 x, .int .i64 y] 54)) w.heap.size 33 #[.int .i64 o.kd, .int .i64 o.b, .int .i64 o.c, .string o.s, .slice o.ka o.kn o.kc, .slice o.va o.vn o.vc]) := ⟨(HC2.out.1.kept hk3).kept (Kept.alloc _ _ _), (HC2.out.2.2.kept hk3 id).kept (Kept.alloc _ _ (fun _ => False)) id⟩; clear hk3)
      | (go_at_call 21; refine (HGO.out _ HC3.out.1.keep).mono ?_; rintro e w4 ⟨rfl, rfl⟩; obtain ⟨⟨e8, ef⟩, _⟩ := HCL.out _ _ HC3.out.1)
    obtain ⟨_, q6, q2, hrw⟩ := HCL.out _ _ HC3.out.1
    have bx := HC3.out.2.kept (Kept.setCell _ ⟨pb, 8, none⟩ (.bool true)) (by simp only; omega)
    have HAP2 : Hid (∀ (W1 w' : World) (v' : Value), Kept (fun _ => False) ((w3.alloc (.cells #[.int .u8 x, .int .i64 y] 54)).setCell ⟨pb, 8, none⟩ (.bool true)) W1 → Appended W1 w' 119 2 (.slice atd tl.length ctd) v' tl.length 1 (tl.flatMap saidC) (saidC (o.s, v)) → w'.cell? ⟨pb, 6, none⟩ = some (.slice (some ⟨g, 0, none⟩) K.rds.length cr) ∧ w'.cell? ⟨g, r * 4 + 2, none⟩ = some (.slice atd tl.length ctd) ∧ w'.frozen? ⟨g, r * 4 + 2, none⟩ = false ∧ Hid (KPost w0 pb n K D (w'.setCell ⟨g, r * 4 + 2, none⟩ v'))) := fun W1 w' v' hk hA => HAP.out _ W1 w' v' D' HC3.out.1 HC2.out.2.1 hk hA
    clear e8 ef
    generalize (w3.alloc (.cells #[.int .u8 x, .int .i64 y] 54)).setCell ⟨pb, 8, none⟩ (.bool true) = W5 at q6 q2 hrw bx HAP2 ⊢
    have x3 : W5.cell? ⟨w.heap.size, 3, none⟩ = some (.string o.s) := bx.cell 3
    have qa6 : ∀ ob : Obj, (W5.alloc ob).cell? ⟨pb, 6, none⟩ = some (.slice (some ⟨g, 0, none⟩) K.rds.length cr) := fun ob => hold_al q6
    have qa2 : ∀ ob : Obj, (W5.alloc ob).cell? ⟨g, r * 4 + 2, none⟩ = some (.slice atd tl.length ctd) := fun ob => hold_al q2
    have HROW : Hid (∀ ob : Obj, Row ((W5.alloc ob).drew) 119 2 (.slice atd tl.length ctd) tl.length (tl.flatMap saidC)) := fun ob => hrw.out.kept ((Kept.alloc W5 ob (fun _ => False)).drew) (fun _ _ => id)
    have HAP3 : Hid (∀ (ob : Obj) (w' : World) (v' : Value), Appended ((W5.alloc ob).drew) w' 119 2 (.slice atd tl.length ctd) v' tl.length 1 (tl.flatMap saidC) (saidC (o.s, v)) → w'.cell? ⟨pb, 6, none⟩ = some (.slice (some ⟨g, 0, none⟩) K.rds.length cr) ∧ w'.cell? ⟨g, r * 4 + 2, none⟩ = some (.slice atd tl.length ctd) ∧ w'.frozen? ⟨g, r * 4 + 2, none⟩ = false ∧ Hid (KPost w0 pb n K D (w'.setCell ⟨g, r * 4 + 2, none⟩ v'))) := fun ob w' v' hA => HAP2.out _ w' v' ((Kept.alloc W5 ob (fun _ => False)).drew) hA
    clear bx hrw d3
    go_region_law (refine step_append_mine rfl (.tmp 63) (.tmp 68) 34 rfl 119 i0 (.agg #[.string ByteArray.empty, .int .i32 0]) 2 24 Try.underlying34 HI.out.1 HI.out.2.1 HI.out.2.2.1 HI.out.2.2.2 rfl (Nat.succ_pos 1) (.slice atd tl.length ctd) tl.length (tl.flatMap saidC) rfl (HROW.out _) ⟨W5.heap.size, 0, none⟩ 1 1 (saidC (o.s, v)) rfl rfl (fun j u hj => news_said W5 (o.s, v) _ j u hj) (oneCell_said (o.s, v)) b1 b2 ?_; intro v' w' hA; obtain ⟨p0, p1, p2, p4⟩ := HAP3.out _ _ _ hA; obtain ⟨ao', cap', hv', _⟩ := hA.row.form; clear hA; subst hv')
    all_goals
      clear qa6 qa2
      go_wp2
      go_end0
      exact ⟨rfl, p4.out⟩

end Go.Proofs.Ytpfcacedpkaihab
