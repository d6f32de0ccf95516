/- The keeping laws' own functions (package almanackeep): read, walked. -/
import Derived.Test.YtpfcacedpkaihabKdKg
import Derived.Deep.RegionHeld3
namespace Go.Proofs.Ytpfcacedpkaihab
open Go.RowKit

theorem Try.infoSaid : (Try.prog.info? 119).map (fun i => (i.zero, i.size, i.bytes)) = some (some (.agg #[.string ByteArray.empty, .int .i32 0]), 2, 24) := by kernel_rfl
theorem oneCell_said (x : ByteArray × Int) : ∀ u ∈ saidC x, u.oneCell' = true := by
  intro u hu; simp [saidC] at hu; rcases hu with rfl | rfl <;> rfl
theorem news_said (w : World) (x : ByteArray × Int) (t : TypeId) : ∀ j u, (saidC x)[j]? = some u → (w.alloc (.cells #[.string x.1, .int .i32 x.2] t)).cell? ((⟨w.heap.size, 0, none⟩ : Addr).add j) = some u := by
  intro j u hj
  have e' : (⟨w.heap.size, 0, none⟩ : Addr).add j = ⟨w.heap.size, j, none⟩ := by cases j <;> simp [Addr.add]
  rw [e', World.cell?_alloc_at _ _ _ _ rfl]
  simpa [saidC] using hj

/-- what a reader was told has become more, in its row's block or in a new one. -/
theorem Keep.putTold {w w1 : World} {pb g r : Nat} {K : KS} {rd : KrE} (h : Keep w pb K) (ho : K.vr.ownBlock = some g) (hr : K.rds[r]? = some rd) (l : List (ByteArray × Int)) (v : Value) (k1 : Kept (fun j => rd.tv.ownBlock = some j) w w1) (hrow : Row w1 119 2 v l.length (l.flatMap saidC)) (hown : ∀ x, v.ownBlock = some x → rd.tv.ownBlock = some x ∨ w.heap.size ≤ x) :
    KBecame w pb K (w1.setCell ⟨g, r * 4 + 2, none⟩ v) { K with rds := K.rds.set r { rd with tv := v, told := l } } := by
  obtain ⟨hj, hr'⟩ := List.getElem?_eq_some_iff.mp hr
  have hi : K.rows[r + 3]? = some (rdD rd) := by
    show (K.rds.map rdD)[r]? = _
    rw [List.getElem?_map, hr]; rfl
  have hm : rdD rd ∈ K.rows := List.mem_of_getElem? hi
  have hm2 : (⟨36, 4, K.vr, K.rds.length, K.rds.flatMap krC⟩ : RowD) ∈ K.rows := List.mem_of_getElem? (i := 2) rfl
  have all1 := h.all.put (r + 3) (rdD rd) (rdD { rd with tv := v, told := l }) hi k1 hrow hown
  have blk1 := h.blk.kept k1 fun he => h.ne _ hm he
  have h2 : (K.rows.set (r + 3) (rdD { rd with tv := v, told := l }))[2]? = some ⟨36, 4, K.vr, K.rds.length, K.rds.flatMap krC⟩ := by rw [List.getElem?_set_ne (by omega)]; rfl
  have row1 : Row w1 36 4 K.vr K.rds.length (K.rds.flatMap krC) := all1.row _ (List.mem_of_getElem? h2)
  have k2 : Kept (fun x => K.vr.ownBlock = some x) w1 (w1.setCell ⟨g, r * 4 + 2, none⟩ v) := (Kept.setCell w1 ⟨g, r * 4 + 2, none⟩ v).mono fun x hx => by rw [hx]; exact ho
  have row2 : Row (w1.setCell ⟨g, r * 4 + 2, none⟩ v) 36 4 K.vr (K.rds.set r { rd with tv := v, told := l }).length ((K.rds.set r { rd with tv := v, told := l }).flatMap krC) := by
    have := row1.set ho (r * 4 + 2) v
    rw [flat_set krC 4 (fun _ => rfl) K.rds r hj 2 (by omega) v { rd with tv := v, told := l } (by rw [hr']; rfl)] at this
    rw [List.length_set]
    exact this
  have all2 := all1.put 2 _ ⟨36, 4, K.vr, (K.rds.set r { rd with tv := v, told := l }).length, (K.rds.set r { rd with tv := v, told := l }).flatMap krC⟩ h2 k2 row2 (fun x hx => .inl hx)
  have blk2 := blk1.kept k2 fun he => row1.ne_block blk1 (by decide) he
  have er : ({ K with rds := K.rds.set r { rd with tv := v, told := l } } : KS).rows = (K.rows.set (r + 3) (rdD { rd with tv := v, told := l })).set 2 ⟨36, 4, K.vr, (K.rds.set r { rd with tv := v, told := l }).length, (K.rds.set r { rd with tv := v, told := l }).flatMap krC⟩ := by
    show _ :: _ :: _ :: (K.rds.set r _).map rdD = _ :: _ :: _ :: (K.rds.map rdD).set r _
    rw [List.map_set]
  refine ⟨⟨blk2, by rw [er]; exact all2⟩, k1.trans k2 (fun x hx => .inr ⟨_, hm, hx⟩) (fun x _ hx => .inr ⟨_, hm2, hx⟩), ?_⟩
  rintro x (rfl | ⟨a, ha, hx⟩)
  · exact .inl (.inl rfl)
  · rw [er] at ha
    rcases List.mem_or_eq_of_mem_set ha with ha | rfl
    · rcases List.mem_or_eq_of_mem_set ha with ha | rfl
      · exact .inl (.inr ⟨a, ha, hx⟩)
      · exact (hown x hx).imp (fun hh => .inr ⟨_, hm, hh⟩) id
    · exact .inl (.inr ⟨_, hm2, hx⟩)

set_option maxRecDepth 100000 in
set_option maxHeartbeats 2000000 in
/-- a read that is refused. -/
theorem kread_no (w0 : Fr) (w : World) (pb n : Nat) (K : KS) (D : DevS) (o : StE) (er pe : Int) (gn : Bool) (h : KInv w0 w pb n K D) (ho : StOk w o) (her : er ≠ 0) (hg : goneK K.rds (whichK K.rds.length o.b) = gn) (hpe : (Q.readL o.s.data.toList).1 = pe) (hw : er = if gn then 8 else pe)
    (hc : ∀ W, Kept (fun _ => False) w W → Calls Try.prog 12 #[.pointer (some ⟨K.xb, 0, none⟩), .int .i64 (whichK K.rds.length o.b), .string o.s] W fun e w' => e = .returned (.tuple #[.int .i32 0, .bool false, .int .i64 er]) ∧ Kept (fun _ => False) W w') :
    Calls Try.prog 24 #[.pointer (some ⟨pb, 0, none⟩), .agg #[.int .i64 o.kd, .int .i64 o.b, .int .i64 o.c, .string o.s, .slice o.ka o.kn o.kc, .slice o.va o.vn o.vc]] w fun e w' => e = .returned (.tuple #[]) ∧ KPost w0 pb n K D w' := by
  obtain ⟨hcnt, hlen⟩ := h.ki.count
  have hbm : K.rds.length ≤ 200 := by
    have e : K.q.rds.length = K.rds.length := by simp [KS.q]
    have := h.ki.good.bmax
    omega
  obtain ⟨ar, cr, hvr, _⟩ := h.core.keep.rds.form
  have hsl := ho.slen
  have HC6 : Hid (∀ W, Kept (fun _ => False) w W → W.cell? ⟨pb, 0, none⟩ = some (.pointer (some ⟨K.xb, 0, none⟩)) ∧ W.cell? ⟨pb, 8, none⟩ = some (.bool true) ∧ (∀ i, W.frozen? ⟨pb, i, none⟩ = false) ∧ pb < w.heap.size) := fun W hW => by
    have hk := h.core.keep.kept hW (fun _ _ => id)
    exact ⟨hk.c0, by have := hk.c8; rw [h.ok] at this; exact this, fun i => hk.blk.free i, h.core.keep.blk.lt⟩
  have HWH : Hid (∀ W, Kept (fun _ => False) w W → Calls Try.prog 20 #[.pointer (some ⟨pb, 0, none⟩), .int .i64 o.b] W fun e w' => e = .returned (.int .i64 (whichK K.rds.length o.b)) ∧ W = w') := fun W hW => kwhich W pb ar K.rds.length cr o.b (by rw [← hvr]; exact hW.hold h.core.keep.c6) (by omega) ho.b0 ho.b1
  obtain ⟨m, hm⟩ : ∃ m, m = whichK K.rds.length o.b := ⟨_, rfl⟩
  have HRD : Hid (∀ W, Kept (fun _ => False) w W → Calls Try.prog 12 #[.pointer (some ⟨K.xb, 0, none⟩), .int .i64 m, .string o.s] W fun e w' => e = .returned (.tuple #[.int .i32 0, .bool false, .int .i64 er]) ∧ Kept (fun _ => False) W w') := fun W hW => by rw [hm]; exact hc W hW
  rw [← hm] at HWH hg
  have HPA : Hid (∀ W, Calls Try.prog 13 #[.string o.s] W fun e w' => ∃ x y : Int, e = .returned (.tuple #[.agg #[.int .u8 x, .int .i64 y], .int .i64 pe]) ∧ Kept (fun _ => False) W w') := fun W => (aParse_any o.s W (by unfold maxLen; omega)).mono fun e w' hp => ⟨_, _, by rw [← hpe]; exact hp.1, Kept.of_below hp.2 _⟩
  have HGO : Hid (∀ W, Kept (fun _ => False) w W → Calls Try.prog 21 #[.pointer (some ⟨pb, 0, none⟩), .int .i64 m] W fun e w' => e = .returned (.bool gn) ∧ W = w') := fun W hW => by
    have := kgone W pb K m (h.core.keep.kept hW (fun _ _ => id)) (by omega)
    rw [hg] at this
    exact this
  have HPO : Hid (∀ W, Kept (fun _ => False) w W → KPost w0 pb n K D (W.setCell ⟨pb, 8, none⟩ (.bool true))) := fun W hW => by
    have hC := h.core.kept hW
    have s1 := hC.keep.setOwn (K' := { K with ok := true }) 8 (.bool true) rfl rfl
    exact ⟨{ K with ok := true }, D, ⟨hC.turn s1 rfl, h.ki.more (Nat.le_succ _), h.open', rfl⟩, .same _ _⟩
  have hnz : (er == 0) = false := beq_eq_false_iff_ne.mpr her
  clear h ho hg hpe hc hm hvr hcnt hlen her
  have HB0 : Hid (∀ W1, Kept (fun _ => False) (w.alloc (.cells #[.int .i64 o.kd, .int .i64 o.b, .int .i64 o.c, .string o.s, .slice o.ka o.kn o.kc, .slice o.va o.vn o.vc] 33)) W1 → Kept (fun _ => False) w W1 ∧ Blk W1 w.heap.size 33 #[.int .i64 o.kd, .int .i64 o.b, .int .i64 o.c, .string o.s, .slice o.ka o.kn o.kc, .slice o.va o.vn o.vc]) := fun W1 hW => ⟨(Kept.alloc _ _ _).trans hW (fun _ => id) (fun _ _ => id), (Blk.new _ _ _).kept hW id⟩
  have hreg : ∀ (x : Bool), gn = x → Calls Try.prog 24 #[.pointer (some ⟨pb, 0, none⟩), .agg #[.int .i64 o.kd, .int .i64 o.b, .int .i64 o.c, .string o.s, .slice o.ka o.kn o.kc, .slice o.va o.vn o.vc]] w fun e w' => e = .returned (.tuple #[]) ∧ KPost w0 pb n K D w' := by
    intro x hx
    subst hx
    cases gn with
    | true =>
      have hw' : er = 8 := hw
      clear hw
      subst hw'
      go_enter Try.func24, Try.ntmps24
      go_wp2_with (go_at_call 20; refine (HWH.out _ (Kept.alloc _ _ _)).mono ?_; rintro e w1 ⟨rfl, rfl⟩)
      obtain ⟨kW, bW⟩ := HB0.out _ (Kept.refl _ _)
      generalize w.alloc (.cells #[.int .i64 o.kd, .int .i64 o.b, .int .i64 o.c, .string o.s, .slice o.ka o.kn o.kc, .slice o.va o.vn o.vc] 33) = W at kW bW ⊢
      obtain ⟨c0, c8, cf, cp⟩ := HC6.out W kW
      have b3 : W.cell? ⟨w.heap.size, 3, none⟩ = some (.string o.s) := bW.cell 3
      have HKW : Hid (Kept (fun _ => False) w W ∧ Blk W w.heap.size 33 #[.int .i64 o.kd, .int .i64 o.b, .int .i64 o.c, .string o.s, .slice o.ka o.kn o.kc, .slice o.va o.vn o.vc]) := ⟨kW, bW⟩
      clear kW bW
      have v0 := drew_cell0 c0
      have v1 := drew_cell0 b3
      go_region_held3 (fun w' => w'.cell? ⟨pb, 0, none⟩ = some (.pointer (some ⟨K.xb, 0, none⟩)) ∧ w'.cell? ⟨w.heap.size, 3, none⟩ = some (.string o.s)) (first | with_reducible exact ⟨s0, s1⟩ | with_reducible exact ⟨v0, v1⟩ | fail) ((go_at_call 12; refine (HRD.out _ HKW.out.1.drew).mono ?_; rintro e w2 ⟨rfl, hk2⟩; have s0 := hk2.hold v0; have s1 := hk2.hold v1; have HK2 : Hid (Kept (fun _ => False) w w2 ∧ Blk w2 w.heap.size 33 #[.int .i64 o.kd, .int .i64 o.b, .int .i64 o.c, .string o.s, .slice o.ka o.kn o.kc, .slice o.va o.vn o.vc]) := ⟨HKW.out.1.drew.trans hk2 (fun _ => id) (fun _ _ => id), (HKW.out.2.same (w' := W.drew) rfl).kept hk2 id⟩; clear hk2))
      all_goals
        have d3 : w2.cell? ⟨w.heap.size, 3, none⟩ = some (.string o.s) := HK2.out.2.cell 3
        clear s0 s1
        go_wp2_with first
          | (go_at_call 13; refine (HPA.out _).mono ?_; rintro e w3 ⟨x, y, rfl, hk3⟩; have HK3 : Hid (Kept (fun _ => False) w w3) := HK2.out.1.trans hk3 (fun _ => id) (fun _ _ => id); clear hk3)
          | (go_at_call 21; refine (HGO.out _ (HK3.out.allocNew _)).mono ?_; rintro e w4 ⟨rfl, rfl⟩; obtain ⟨e0, e8, ef, ep⟩ := HC6.out _ (HK3.out.allocNew (.cells #[.int .u8 x, .int .i64 y] 54)))
        go_end0
        exact ⟨rfl, HPO.out _ (HK3.out.allocNew _)⟩
    | false =>
      have hw' : er = pe := hw
      clear hw
      subst hw'
      go_enter Try.func24, Try.ntmps24
      go_wp2_with (go_at_call 20; refine (HWH.out _ (Kept.alloc _ _ _)).mono ?_; rintro e w1 ⟨rfl, rfl⟩)
      obtain ⟨kW, bW⟩ := HB0.out _ (Kept.refl _ _)
      generalize w.alloc (.cells #[.int .i64 o.kd, .int .i64 o.b, .int .i64 o.c, .string o.s, .slice o.ka o.kn o.kc, .slice o.va o.vn o.vc] 33) = W at kW bW ⊢
      obtain ⟨c0, c8, cf, cp⟩ := HC6.out W kW
      have b3 : W.cell? ⟨w.heap.size, 3, none⟩ = some (.string o.s) := bW.cell 3
      have HKW : Hid (Kept (fun _ => False) w W ∧ Blk W w.heap.size 33 #[.int .i64 o.kd, .int .i64 o.b, .int .i64 o.c, .string o.s, .slice o.ka o.kn o.kc, .slice o.va o.vn o.vc]) := ⟨kW, bW⟩
      clear kW bW
      have v0 := drew_cell0 c0
      have v1 := drew_cell0 b3
      go_region_held3 (fun w' => w'.cell? ⟨pb, 0, none⟩ = some (.pointer (some ⟨K.xb, 0, none⟩)) ∧ w'.cell? ⟨w.heap.size, 3, none⟩ = some (.string o.s)) (first | with_reducible exact ⟨s0, s1⟩ | with_reducible exact ⟨v0, v1⟩ | fail) ((go_at_call 12; refine (HRD.out _ HKW.out.1.drew).mono ?_; rintro e w2 ⟨rfl, hk2⟩; have s0 := hk2.hold v0; have s1 := hk2.hold v1; have HK2 : Hid (Kept (fun _ => False) w w2 ∧ Blk w2 w.heap.size 33 #[.int .i64 o.kd, .int .i64 o.b, .int .i64 o.c, .string o.s, .slice o.ka o.kn o.kc, .slice o.va o.vn o.vc]) := ⟨HKW.out.1.drew.trans hk2 (fun _ => id) (fun _ _ => id), (HKW.out.2.same (w' := W.drew) rfl).kept hk2 id⟩; clear hk2))
      all_goals
        have d3 : w2.cell? ⟨w.heap.size, 3, none⟩ = some (.string o.s) := HK2.out.2.cell 3
        clear s0 s1
        go_wp2_with first
          | (go_at_call 13; refine (HPA.out _).mono ?_; rintro e w3 ⟨x, y, rfl, hk3⟩; have HK3 : Hid (Kept (fun _ => False) w w3) := HK2.out.1.trans hk3 (fun _ => id) (fun _ _ => id); clear hk3)
          | (go_at_call 21; refine (HGO.out _ (HK3.out.allocNew _)).mono ?_; rintro e w4 ⟨rfl, rfl⟩; obtain ⟨e0, e8, ef, ep⟩ := HC6.out _ (HK3.out.allocNew (.cells #[.int .u8 x, .int .i64 y] 54)))
        go_end0
        exact ⟨rfl, HPO.out _ (HK3.out.allocNew _)⟩
  exact hreg gn rfl

end Go.Proofs.Ytpfcacedpkaihab
