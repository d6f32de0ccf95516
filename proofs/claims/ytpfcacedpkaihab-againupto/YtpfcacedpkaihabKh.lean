/- The keeping laws' own functions (package almanackeep): end of a reader that there is, walked. -/
import Derived.Test.YtpfcacedpkaihabKdKg
namespace Go.Proofs.Ytpfcacedpkaihab
open Go.RowKit

set_option maxRecDepth 100000 in
set_option maxHeartbeats 2000000 in
theorem kend_live (w0 : Fr) (w : World) (pb n : Nat) (K : KS) (D : DevS) (raw : Int) (h : KInv w0 w pb n K D) (h1 : -9223372036854775808 ≤ raw) (h2 : raw ≤ 9223372036854775807) (hg0 : goneK K.rds (whichK K.rds.length raw) = false) :
    Calls Try.prog 5 #[.pointer (some ⟨pb, 0, none⟩), .int .i64 raw] w fun e w' => KEndPost w0 pb n K D raw e w' := by
  obtain ⟨hcnt, hlen⟩ := h.ki.count
  have hlen' : K.rds.length = D.begun := by
    have e : K.q.rds.length = K.rds.length := by simp [KS.q]
    rw [← e]
    exact hlen
  have hbm : K.rds.length ≤ 200 := by have := h.ki.good.bmax; rw [hlen']; exact this
  obtain ⟨ar, cr, hvr, _⟩ := h.core.keep.rds.form
  have HC6 : Hid (∀ W, Kept (fun _ => False) w W → W.cell? ⟨pb, 6, none⟩ = some (.slice ar K.rds.length cr) ∧ W.cell? ⟨pb, 0, none⟩ = some (.pointer (some ⟨K.xb, 0, none⟩))) := fun W hW => ⟨by rw [← hvr]; exact hW.hold h.core.keep.c6, hW.hold h.core.keep.c0⟩
  have HWH : Hid (∀ W, Kept (fun _ => False) w W → Calls Try.prog 20 #[.pointer (some ⟨pb, 0, none⟩), .int .i64 raw] W fun e w' => e = .returned (.int .i64 (whichK K.rds.length raw)) ∧ W = w') := fun W hW => kwhich W pb ar K.rds.length cr raw (HC6.out W hW).1 (by omega) h1 h2
  obtain ⟨m, hm⟩ : ∃ m, m = whichK K.rds.length raw := ⟨_, rfl⟩
  rw [← hm] at HWH
  have HKF : Hid (∀ k, K.fp pb k → k < w.heap.size) := h.core.keep.lt
  have HDF : Hid (∀ k, D.fp K.xb k → k < w.heap.size) := h.core.dev.lt
  have HNX : Hid (∀ k, w.heap.size ≤ k → ¬ w0.X k) := h.core.new
  have HB2 : Hid (∀ o o' W, Kept (fun _ => False) ((w.alloc (.cells #[.int .i64 0, .int .i64 0, .slice none 0 0, .bool false] o)).alloc (.cells #[.int .u64 0, .int .u64 0] o')) W → Blk W w.heap.size o #[.int .i64 0, .int .i64 0, .slice none 0 0, .bool false] ∧ Blk W (w.heap.size + 1) o' #[.int .u64 0, .int .u64 0]) := fun o o' W hW => by
    refine ⟨((Blk.new w _ _).kept (Kept.alloc _ _ (fun _ => False)) id).kept hW id, ?_⟩
    have := (Blk.new (w.alloc (.cells #[.int .i64 0, .int .i64 0, .slice none 0 0, .bool false] o)) o' #[.int .u64 0, .int .u64 0]).kept hW id
    simpa using this
  have hg := hg0
  rw [← hm] at hg
  clear hg0
  obtain ⟨r, rd, hmr, hrd, hre⟩ := goneK_false hg
  have hrq : K.q.rds[r]? = some rd.p := by show (K.rds.map KrE.p)[r]? = _; rw [List.getElem?_map, hrd]; rfl
  obtain ⟨j, hj, hjr, hjn, hone, hlh, hhi⟩ := h.ki.seat hrq hre
  obtain ⟨lo, hlo⟩ : ∃ lo, lo = (D.seats j).lo := ⟨_, rfl⟩
  obtain ⟨hi, hhi'⟩ : ∃ hi, hi = (D.seats j).hi := ⟨_, rfl⟩
  have hrl : r < K.rds.length := (List.getElem?_eq_some_iff.mp hrd).1
  obtain ⟨g, cr', hvr', hog, hgl⟩ := h.core.keep.rds.block (by omega)
  rw [hvr] at hvr'
  injection hvr' with e1 e2 e3
  subst e1
  have hone0 := h.open'
  have hopen : 1 ≤ openK K.q.rds := by
    have := openK_set (b := { rd.p with ended := true }) hrq
    have e4 : rd.p.ended = false := hre
    rw [e4] at this
    simp at this
    omega
  have hop6 : openK K.q.rds ≤ 200 := by
    have e4 : openK K.q.rds ≤ K.q.rds.length := List.length_filter_le _ _
    have e5 : K.q.rds.length = K.rds.length := by simp [KS.q]
    omega
  have HEN : Hid (∀ W, Kept (fun _ => False) w W → Calls Try.prog 8 #[.pointer (some ⟨K.xb, 0, none⟩), .int .i64 m] W fun e w' => e = .returned (.tuple #[.agg #[.int .u64 (lo : Int), .int .u64 (hi : Int)], .int .i64 0]) ∧ Hid (Kept (D.fp K.xb) W w' ∧ Dev w' K.xb (D.seatP j ⟨false, 0, 0, 0⟩ D.begun))) := fun W hW => (dend W K.xb D m (h.core.dev.kept hW (fun _ _ => id))).mono fun e w' hp => by
    rcases hp with ⟨ha, _⟩ | ⟨j', hj', hr', hn', e1, r1, r2⟩
    · exact absurd (show (D.seats j).num = m from by rw [hmr]; exact hjn) (ha j hj hjr)
    · have := hone j' hj' hr' (by show (D.seats j').num = _; rw [hn', hmr])
      subst this
      exact ⟨by rw [e1, hlo, hhi'], r2, r1⟩
  have HGO : Hid (∀ W, Keep W pb K → Calls Try.prog 21 #[.pointer (some ⟨pb, 0, none⟩), .int .i64 m] W fun e w' => e = .returned (.bool false) ∧ W = w') := fun W hK => by
    have := kgone W pb K m hK (by omega)
    rw [hg] at this
    exact this
  have HCO : Hid (∀ W w2 W3, Kept (fun _ => False) w W → Kept (D.fp K.xb) W w2 → Dev w2 K.xb (D.seatP j ⟨false, 0, 0, 0⟩ D.begun) → Kept (fun _ => False) w2 W3 → KCore w0 W3 pb K (D.seatP j ⟨false, 0, 0, 0⟩ D.begun)) := fun W w2 W3 hW k1 hd k2 => ((h.core.kept hW).prog ⟨hd, k1, fun x hx => .inl hx⟩).kept k2
  have HCL : Hid (∀ W, KCore w0 W pb K (D.seatP j ⟨false, 0, 0, 0⟩ D.begun) → W.cell? ⟨pb, 8, none⟩ = some (.bool true) ∧ W.cell? ⟨pb, 7, none⟩ = some (.int .i64 K.open') ∧ W.cell? ⟨pb, 6, none⟩ = some (.slice (some ⟨g, 0, none⟩) K.rds.length cr) ∧ (∀ i, W.frozen? ⟨pb, i, none⟩ = false) ∧ (∀ i, W.frozen? ⟨g, i, none⟩ = false) ∧ W.cell? ⟨g, r * 4, none⟩ = some (.int .i64 rd.tick) ∧ W.cell? ⟨g, r * 4 + 1, none⟩ = some (.int .i64 rd.limit) ∧ W.cell? ⟨g, r * 4 + 2, none⟩ = some rd.tv ∧ W.cell? ⟨g, r * 4 + 3, none⟩ = some (.bool false)) := fun W hC => by
    have hc : ∀ f, f < 4 → ∀ u, (krC rd)[f]? = some u → W.cell? ⟨g, r * 4 + f, none⟩ = some u := fun f hf u hu => hC.keep.rds.cell hog _ u (by rw [kr_at K.rds r hrl f hf, (List.getElem?_eq_some_iff.mp hrd).2]; exact hu)
    exact ⟨by have := hC.keep.c8; rw [h.ok] at this; exact this, hC.keep.c7, by rw [← hvr]; exact hC.keep.c6, fun i => hC.keep.blk.free i, fun i => hC.keep.rds.free hog i, hc 0 (by omega) _ rfl, hc 1 (by omega) _ rfl, hc 2 (by omega) _ rfl, by have := hc 3 (by omega) _ rfl; rw [hre] at this; exact this⟩
  obtain ⟨atd, ctd, htv, _⟩ := (h.core.keep.told hrd).form
  have HTV : Hid (rd.tv = .slice atd rd.told.length ctd) := htv
  have HPO : Hid (∀ W W', KCore w0 W pb K (D.seatP j ⟨false, 0, 0, 0⟩ D.begun) → Kept (fun j => j = w.heap.size ∨ j = w.heap.size + 1) (((W.setCell ⟨pb, 8, none⟩ (.bool true)).setCell ⟨g, r * 4 + 3, none⟩ (.bool true)).setCell ⟨pb, 7, none⟩ (.int .i64 (K.open' - 1))) W' → KEndPost w0 pb n K D raw (.returned (.tuple #[.agg #[.int .i64 rd.tick, .int .i64 rd.limit, rd.tv, .bool true], .agg #[.int .u64 (lo : Int), .int .u64 (hi : Int)], .bool true])) W') := fun W W' hC hk => by
    have s1 := hC.keep.setOwn (K' := { K with ok := true }) 8 (.bool true) rfl rfl
    have s2 := s1.1.setRd (K := { K with ok := true }) hog hrd 3 (by omega) (.bool true) (r' := { rd with ended := true }) rfl rfl
    have s3 := s2.1.setOwn (K' := { K with ok := true, rds := K.rds.set r { rd with ended := true }, open' := K.open' - 1 }) 7 (.int .i64 (K.open' - 1)) rfl rfl
    have hC2 := hC.turn ((s1.trans s2).trans s3) rfl
    have hKF : ∀ k, ({ K with ok := true, rds := K.rds.set r { rd with ended := true }, open' := K.open' - 1 } : KS).fp pb k → k < w.heap.size := by
      rintro k (rfl | ⟨a, ha, hx⟩)
      · exact HKF.out _ (.inl rfl)
      · have ha' : a ∈ (⟨64, 8, K.vs, K.states.length, K.states.flatMap stL⟩ : RowD) :: ⟨3, 1, K.vt, K.ticks.length, K.ticks.flatMap tickC⟩ :: ⟨36, 4, K.vr, (K.rds.set r { rd with ended := true }).length, (K.rds.set r { rd with ended := true }).flatMap krC⟩ :: (K.rds.set r { rd with ended := true }).map rdD := ha
        simp only [List.mem_cons, List.mem_map] at ha'
        rcases ha' with rfl | rfl | rfl | ⟨y, hy, rfl⟩
        · exact HKF.out k (.inr ⟨_, List.mem_of_getElem? (i := 0) rfl, hx⟩)
        · exact HKF.out k (.inr ⟨_, List.mem_of_getElem? (i := 1) rfl, hx⟩)
        · exact HKF.out k (.inr ⟨_, List.mem_of_getElem? (i := 2) rfl, hx⟩)
        · have hmem : ∀ z ∈ K.rds, rdD z ∈ K.rows := fun z hz => by show rdD z ∈ _ :: _ :: _ :: K.rds.map rdD; simp only [List.mem_cons]; exact .inr (.inr (.inr (List.mem_map_of_mem hz)))
          rcases List.mem_or_eq_of_mem_set hy with hy | rfl
          · exact HKF.out k (.inr ⟨_, hmem y hy, hx⟩)
          · exact HKF.out k (.inr ⟨_, hmem rd (List.mem_of_getElem? hrd), hx⟩)
    have hC3 := hC2.far hk (fun k hkk he => by have := hKF k hkk; omega) (fun k hkk he => by have := HDF.out k hkk; omega) (fun k hkk => HNX.out k (by omega))
    have hq : ({ K with ok := true, rds := K.rds.set r { rd with ended := true }, open' := K.open' - 1 } : KS).q = { K.q with rds := K.q.rds.set r { rd.p with ended := true } } := by
      simp [KS.q, List.map_set, KrE.p]
    have hp : (D.seatP j ⟨false, 0, 0, 0⟩ D.begun).pu = { D.pu with seats := putSeat D.pu.seats j ⟨false, 0, 0, 0⟩ } := rfl
    have hstep : KStep K.q D.pu ({ K with ok := true, rds := K.rds.set r { rd with ended := true }, open' := K.open' - 1 } : KS).q (D.seatP j ⟨false, 0, 0, 0⟩ D.begun).pu := by
      rw [hq, hp]
      exact .stop K.q D.pu r j rd.p hrq hre hj hjr hjn
    refine .inr ⟨r, j, rd, { K with ok := true, rds := K.rds.set r { rd with ended := true }, open' := K.open' - 1 }, _, by rw [← hm]; exact hmr, hrd, hre, hj, hjr, hjn, by rw [hlo, hhi'], ⟨hC3, h.ki.step hstep, ?_, rfl⟩, hq, hp, List.getElem?_set_self hrl⟩
    have e6 : openK (K.q.rds.set r { rd.p with ended := true }) + 1 = openK K.q.rds := by
      have := openK_set (b := { rd.p with ended := true }) hrq
      have e4 : rd.p.ended = false := hre
      rw [e4] at this
      simpa using this
    rw [hq]
    show K.open' - 1 = (openK (K.q.rds.set r { rd.p with ended := true }) : Int)
    rw [hone0, ← e6]
    omega
  have HST : Hid (∀ W, KCore w0 W pb K (D.seatP j ⟨false, 0, 0, 0⟩ D.begun) → (((W.setCell ⟨pb, 8, none⟩ (.bool true)).setCell ⟨g, r * 4 + 3, none⟩ (.bool true)).setCell ⟨pb, 7, none⟩ (.int .i64 (K.open' - 1))).cell? ⟨g, r * 4, none⟩ = some (.int .i64 rd.tick) ∧ (((W.setCell ⟨pb, 8, none⟩ (.bool true)).setCell ⟨g, r * 4 + 3, none⟩ (.bool true)).setCell ⟨pb, 7, none⟩ (.int .i64 (K.open' - 1))).cell? ⟨g, r * 4 + 1, none⟩ = some (.int .i64 rd.limit) ∧ (((W.setCell ⟨pb, 8, none⟩ (.bool true)).setCell ⟨g, r * 4 + 3, none⟩ (.bool true)).setCell ⟨pb, 7, none⟩ (.int .i64 (K.open' - 1))).cell? ⟨g, r * 4 + 2, none⟩ = some rd.tv ∧ (((W.setCell ⟨pb, 8, none⟩ (.bool true)).setCell ⟨g, r * 4 + 3, none⟩ (.bool true)).setCell ⟨pb, 7, none⟩ (.int .i64 (K.open' - 1))).cell? ⟨g, r * 4 + 3, none⟩ = some (.bool true) ∧ (((W.setCell ⟨pb, 8, none⟩ (.bool true)).setCell ⟨g, r * 4 + 3, none⟩ (.bool true)).setCell ⟨pb, 7, none⟩ (.int .i64 (K.open' - 1))).cell? ⟨pb, 6, none⟩ = some (.slice (some ⟨g, 0, none⟩) K.rds.length cr)) := fun W hC => by
    have s1 := hC.keep.setOwn (K' := { K with ok := true }) 8 (.bool true) rfl rfl
    have s2 := s1.1.setRd (K := { K with ok := true }) hog hrd 3 (by omega) (.bool true) (r' := { rd with ended := true }) rfl rfl
    have s3 := s2.1.setOwn (K' := { K with ok := true, rds := K.rds.set r { rd with ended := true }, open' := K.open' - 1 }) 7 (.int .i64 (K.open' - 1)) rfl rfl
    have hl' : r < (K.rds.set r { rd with ended := true }).length := by rw [List.length_set]; exact hrl
    have he' : (K.rds.set r { rd with ended := true })[r] = { rd with ended := true } := by simp
    have hc : ∀ f, f < 4 → ∀ u, (krC { rd with ended := true })[f]? = some u → (((W.setCell ⟨pb, 8, none⟩ (.bool true)).setCell ⟨g, r * 4 + 3, none⟩ (.bool true)).setCell ⟨pb, 7, none⟩ (.int .i64 (K.open' - 1))).cell? ⟨g, r * 4 + f, none⟩ = some u := fun f hf u hu => s3.1.rds.cell hog _ u (by rw [kr_at (K.rds.set r { rd with ended := true }) r hl' f hf, he']; exact hu)
    refine ⟨hc 0 (by omega) _ rfl, hc 1 (by omega) _ rfl, hc 2 (by omega) _ rfl, hc 3 (by omega) _ rfl, ?_⟩
    rw [← hvr]
    exact s3.1.c6
  have hgp : g ≠ pb := fun e => h.core.keep.ne ⟨36, 4, K.vr, K.rds.length, K.rds.flatMap krC⟩ (List.mem_of_getElem? (i := 2) rfl) (by rw [← e]; exact hog)
  have hpb : pb < w.heap.size := h.core.keep.blk.lt
  have hop0 : 1 ≤ K.open' := by rw [hone0]; omega
  have hop1 : K.open' ≤ 200 := by rw [hone0]; omega
  obtain ⟨rt, hrt⟩ : ∃ rt, rt = rd.tick := ⟨_, rfl⟩
  obtain ⟨rl, hrl'⟩ : ∃ rl, rl = rd.limit := ⟨_, rfl⟩
  rw [← hrt, ← hrl'] at HCL HPO HST
  rw [htv] at HCL HPO HST
  obtain ⟨tn, htn⟩ : ∃ tn, tn = rd.told.length := ⟨_, rfl⟩
  rw [← htn] at HCL HPO HST
  rw [hmr] at HWH HEN HGO
  have hgp' := Ne.symm hgp
  have hr0 : (0 : Int) ≤ (r : Int) := by omega
  have hr1 : (r : Int) < (K.rds.length : Int) := by omega
  clear h hg hm hvr hcnt hlen hlen' hmr hrd hre hrq hj hjr hjn hone hlh hhi hog htv hrt hrl' htn hone0 hlo hhi' hopen hop6 e2 e3
  go_enter Try.func5, Try.ntmps5
  go_wp2_with first
    | (go_at_call 20; refine (HWH.out _ ((Kept.alloc _ _ _).allocNew _)).mono ?_; rintro e w1 ⟨rfl, rfl⟩; have cc0 := (HC6.out _ ((Kept.alloc w (.cells #[.int .i64 0, .int .i64 0, .slice none 0 0, .bool false] 36) (fun _ => False)).allocNew (.cells #[.int .u64 0, .int .u64 0] 40))).2)
    | (go_at_call 8; refine (HEN.out _ ((Kept.alloc _ _ _).allocNew _)).mono ?_; rintro e w2 ⟨rfl, hk2⟩; have HC3 : Hid (KCore w0 (w2.alloc (.cells #[.int .u64 (lo : Int), .int .u64 (hi : Int)] 40)) pb K (D.seatP j ⟨false, 0, 0, 0⟩ D.begun)) := HCO.out _ _ _ ((Kept.alloc _ _ _).allocNew _) hk2.out.1 hk2.out.2 (Kept.alloc _ _ _); have HBB : Hid (Blk w2 w.heap.size 36 #[.int .i64 0, .int .i64 0, .slice none 0 0, .bool false] ∧ Blk w2 (w.heap.size + 1) 40 #[.int .u64 0, .int .u64 0]) := ⟨(HB2.out _ _ _ (Kept.refl _ _)).1.kept hk2.out.1 (fun hh => absurd (HDF.out _ hh) (Nat.lt_irrefl _)), (HB2.out _ _ _ (Kept.refl _ _)).2.kept hk2.out.1 (fun hh => by have := HDF.out _ hh; omega)⟩; clear hk2)
    | (go_at_call 21; refine (HGO.out _ HC3.out.keep).mono ?_; rintro e w3 ⟨rfl, rfl⟩; obtain ⟨d8, d7, d6, df, gf, g0, g1, g2, g3⟩ := HCL.out _ HC3.out)
  have hsz2 : w.heap.size + 1 < w2.heap.size := HBB.out.2.lt
  have k3 : ∀ W : World, Kept (fun j => j = pb ∨ j = g) W (((W.setCell ⟨pb, 8, none⟩ (.bool true)).setCell ⟨g, r * 4 + 3, none⟩ (.bool true)).setCell ⟨pb, 7, none⟩ (.int .i64 (K.open' - 1))) := fun W => (((Kept.refl _ W).setAB pb (.inl rfl) 8 (.bool true)).setAB g (.inr rfl) (r * 4 + 3) (.bool true)).setAB pb (.inl rfl) 7 (.int .i64 (K.open' - 1))
  have ba := (HBB.out.1.kept (Kept.alloc w2 (.cells #[.int .u64 (lo : Int), .int .u64 (hi : Int)] 40) (fun _ => False)) id).kept (k3 _) (fun hh => by rcases hh with hh | hh <;> omega)
  have bb := (HBB.out.2.kept (Kept.alloc w2 (.cells #[.int .u64 (lo : Int), .int .u64 (hi : Int)] 40) (fun _ => False)) id).kept (k3 _) (fun hh => by rcases hh with hh | hh <;> omega)
  have bs := (Blk.new w2 40 #[.int .u64 (lo : Int), .int .u64 (hi : Int)]).kept (k3 _) (fun hh => by rcases hh with hh | hh <;> omega)
  have HP1 : Hid (∀ W', Kept (fun j => j = w.heap.size ∨ j = w.heap.size + 1) ((((w2.alloc (.cells #[.int .u64 (lo : Int), .int .u64 (hi : Int)] 40)).setCell ⟨pb, 8, none⟩ (.bool true)).setCell ⟨g, r * 4 + 3, none⟩ (.bool true)).setCell ⟨pb, 7, none⟩ (.int .i64 (K.open' - 1))) W' → KEndPost w0 pb n K D raw (.returned (.tuple #[.agg #[.int .i64 rt, .int .i64 rl, .slice atd tn ctd, .bool true], .agg #[.int .u64 (lo : Int), .int .u64 (hi : Int)], .bool true])) W') := fun W' hk => HPO.out _ W' HC3.out hk
  obtain ⟨q0, q1, q2, q3, q6⟩ := HST.out _ HC3.out
  generalize ((((w2.alloc (.cells #[.int .u64 (lo : Int), .int .u64 (hi : Int)] 40)).setCell ⟨pb, 8, none⟩ (.bool true)).setCell ⟨g, r * 4 + 3, none⟩ (.bool true)).setCell ⟨pb, 7, none⟩ (.int .i64 (K.open' - 1))) = W5 at ba bb bs HP1 q0 q1 q2 q3 q6 ⊢
  have a0 : W5.cell? ⟨w.heap.size, 0, none⟩ = some (.int .i64 0) := ba.cell 0
  have a1 : W5.cell? ⟨w.heap.size, 1, none⟩ = some (.int .i64 0) := ba.cell 1
  have a2 : W5.cell? ⟨w.heap.size, 2, none⟩ = some (.slice none 0 0) := ba.cell 2
  have a3 : W5.cell? ⟨w.heap.size, 3, none⟩ = some (.bool false) := ba.cell 3
  have af : ∀ i, W5.frozen? ⟨w.heap.size, i, none⟩ = false := fun i => ba.free i
  have b0 : W5.cell? ⟨w.heap.size + 1, 0, none⟩ = some (.int .u64 0) := bb.cell 0
  have b1 : W5.cell? ⟨w.heap.size + 1, 1, none⟩ = some (.int .u64 0) := bb.cell 1
  have bf : ∀ i, W5.frozen? ⟨w.heap.size + 1, i, none⟩ = false := fun i => bb.free i
  have s0 : W5.cell? ⟨w2.heap.size, 0, none⟩ = some (.int .u64 (lo : Int)) := bs.cell 0
  have s1 : W5.cell? ⟨w2.heap.size, 1, none⟩ = some (.int .u64 (hi : Int)) := bs.cell 1
  have hn1 : w2.heap.size ≠ w.heap.size := by omega
  have hn2 : w2.heap.size ≠ w.heap.size + 1 := by omega
  have hn3 : g ≠ w.heap.size := by omega
  have hn4 : g ≠ w.heap.size + 1 := by omega
  have hn5 : pb ≠ w.heap.size := by omega
  have hn6 : pb ≠ w.heap.size + 1 := by omega
  clear ba bb bs d8 d7 d6 df gf g0 g1 g2 g3 cc0
  generalize w2.heap.size = S at *
  go_region
  all_goals
    go_wp2
    refine bodyPost_ret (v := .tuple #[.agg #[.int .i64 rt, .int .i64 rl, .slice atd tn ctd, .bool true], .agg #[.int .u64 (lo : Int), .int .u64 (hi : Int)], .bool true]) (by simp [results, Try.results5, go_sem, *]) rfl (HP1.out _ ?_)
    repeat first
      | with_reducible refine Kept.setB ?_ _ _
      | with_reducible refine Kept.setA ?_ _ _
      | with_reducible exact Kept.refl _ _
      | with_reducible refine Kept.drewN ?_ _
      | with_reducible refine Kept.drew ?_

theorem kend (w0 : Fr) (w : World) (pb n : Nat) (K : KS) (D : DevS) (raw : Int) (h : KInv w0 w pb n K D) (h1 : -9223372036854775808 ≤ raw) (h2 : raw ≤ 9223372036854775807) :
    Calls Try.prog 5 #[.pointer (some ⟨pb, 0, none⟩), .int .i64 raw] w fun e w' => KEndPost w0 pb n K D raw e w' := by
  cases hg : goneK K.rds (whichK K.rds.length raw) with
  | true => exact kend_gone w0 w pb n K D raw h h1 h2 hg
  | false => exact kend_live w0 w pb n K D raw h h1 h2 hg

end Go.Proofs.Ytpfcacedpkaihab
