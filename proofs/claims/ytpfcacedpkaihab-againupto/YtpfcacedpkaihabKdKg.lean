import Derived.Test.YtpfcacedpkaihabKc
/- The keeping laws' own functions (package almanackeep): tick, rest, walked. -/
namespace Go.Proofs.Ytpfcacedpkaihab
open Go.RowKit

/-- what a step leaves. -/
def KPost (w0 : Fr) (pb n : Nat) (K : KS) (D : DevS) (W' : World) : Prop := ∃ K' D', KInv w0 W' pb (n + 1) K' D' ∧ KStep K.q D.pu K'.q D'.pu
theorem KInv.kept {w0 : Fr} {W W' : World} {pb n : Nat} {K : KS} {D : DevS} (h : KInv w0 W pb n K D) (k : Kept (fun _ => False) W W') : KInv w0 W' pb n K D := ⟨h.core.kept k, h.ki, h.open', h.ok⟩
theorem KInv.same {w0 : Fr} {W W' : World} {pb n : Nat} {K : KS} {D : DevS} (h : KInv w0 W pb n K D) (k : Kept (fun _ => False) W W') : KPost w0 pb n K D W' :=
  ⟨K, D, ⟨h.core.kept k, h.ki.more (Nat.le_succ _), h.open', h.ok⟩, .same _ _⟩
theorem KInv.goes {w0 : Fr} {W W' W2 : World} {pb n : Nat} {K : KS} {D : DevS} {P : DP} (h : KInv w0 W pb n K D) (hk : Kept (fun _ => False) W W2) (hG : Goes W2 K.xb D P W') (hs : KStep K.q D.pu K.q P) : KPost w0 pb n K D W' := by
  obtain ⟨D', e, hB⟩ := hG
  subst e
  exact ⟨K, D', ⟨(h.core.kept hk).prog hB, h.ki.step hs, h.open', h.ok⟩, hs⟩
theorem KInv.walk {w0 : Fr} {W : World} {pb n : Nat} {K : KS} {D : DevS} (h : KInv w0 W pb n K D) (hn : n < 9223372036854775807) : D.Walk := h.ki.good.walk hn

set_option maxHeartbeats 1000000 in
theorem ktick (w0 : Fr) (w : World) (pb n : Nat) (K : KS) (D : DevS) (h : KInv w0 w pb n K D) (hn : n < 9223372036854775807) :
    Calls Try.prog 10 #[.pointer (some ⟨pb, 0, none⟩)] w fun e w' => e = .returned (.tuple #[]) ∧ KPost w0 pb n K D w' := by
  have hW := h.walk hn
  have hcl : K.clock = D.clock := h.ki.clock
  have hck0 := hW.fit.clk0
  have hck1 := hW.fit.clk1
  have c0 := h.core.keep.c0
  by_cases hc : D.clock < 100000
  · have HT : Hid (Calls Try.prog 29 #[.pointer (some ⟨K.xb, 0, none⟩)] w fun e w' => e = .returned (.int .i64 0) ∧ Hid (∃ D', D'.pu = { D.pu with clock := D.clock + 1 } ∧ KCore w0 w' pb K D')) := (dTick w K.xb D h.core.dev hW.fit).mono fun e w' hp => by
      rw [DP.tick, if_neg (show ¬ D.pu.clock = 100000 by show ¬ D.clock = 100000; omega)] at hp
      obtain ⟨D', e', hB⟩ := hp.2
      exact ⟨hp.1, D', e', h.core.prog hB⟩
    have HK : Hid (∀ W D', D'.pu = { D.pu with clock := D.clock + 1 } → KCore w0 W pb K D' → W.cell? ⟨pb, 5, none⟩ = some (.int .i64 K.clock) ∧ W.cell? ⟨pb, 8, none⟩ = some (.bool true) ∧ (∀ i, W.frozen? ⟨pb, i, none⟩ = false) ∧ KPost w0 pb n K D ((W.setCell ⟨pb, 5, none⟩ (.int .i64 (K.clock + 1))).setCell ⟨pb, 8, none⟩ (.bool true))) := fun W D' e' hC => by
      refine ⟨hC.keep.c5, by have := hC.keep.c8; rw [h.ok] at this; exact this, fun i => hC.keep.blk.free i, ?_⟩
      have s1 := hC.keep.setOwn (K' := { K with clock := K.clock + 1 }) 5 (.int .i64 (K.clock + 1)) rfl rfl
      have s2 := s1.1.setOwn (K' := { K with clock := K.clock + 1, ok := true }) 8 (.bool true) rfl rfl
      have hstep : KStep K.q D.pu ({ K with clock := K.clock + 1, ok := true } : KS).q D'.pu := by
        rw [e']
        exact .tick K.q D.pu hc
      exact ⟨{ K with clock := K.clock + 1, ok := true }, D', ⟨hC.turn (s1.trans s2) rfl, h.ki.step hstep, h.open', rfl⟩, hstep⟩
    have hk1 : K.clock < 100000 := by omega
    have hk0 : 0 ≤ K.clock := by omega
    clear h hW hcl
    go_enter Try.func10, Try.ntmps10
    go_wp2_with (go_at_call 29; refine HT.out.mono ?_; rintro e w1 ⟨rfl, hr⟩; obtain ⟨D', e', hC⟩ := hr.out; obtain ⟨d5, d8, df, hP⟩ := HK.out _ _ e' hC; have HP : Hid (KPost w0 pb n K D ((w1.setCell ⟨pb, 5, none⟩ (.int .i64 (K.clock + 1))).setCell ⟨pb, 8, none⟩ (.bool true))) := hP; clear hr e' hC hP)
    go_end0
    exact ⟨rfl, HP.out⟩
  · have HT : Hid (Calls Try.prog 29 #[.pointer (some ⟨K.xb, 0, none⟩)] w fun e w' => e = .returned (.int .i64 6) ∧ Hid (∃ D', D'.pu = D.pu ∧ KCore w0 w' pb K D')) := (dTick w K.xb D h.core.dev hW.fit).mono fun e w' hp => by
      rw [DP.tick, if_pos (show D.pu.clock = 100000 by show D.clock = 100000; omega)] at hp
      obtain ⟨D', e', hB⟩ := hp.2
      exact ⟨hp.1, D', e', h.core.prog hB⟩
    have HK : Hid (∀ W D', D'.pu = D.pu → KCore w0 W pb K D' → W.cell? ⟨pb, 5, none⟩ = some (.int .i64 K.clock) ∧ W.cell? ⟨pb, 8, none⟩ = some (.bool true) ∧ (∀ i, W.frozen? ⟨pb, i, none⟩ = false) ∧ KPost w0 pb n K D (W.setCell ⟨pb, 8, none⟩ (.bool true))) := fun W D' e' hC => by
      refine ⟨hC.keep.c5, by have := hC.keep.c8; rw [h.ok] at this; exact this, fun i => hC.keep.blk.free i, ?_⟩
      have s2 := hC.keep.setOwn (K' := { K with ok := true }) 8 (.bool true) rfl rfl
      have hstep : KStep K.q D.pu ({ K with ok := true } : KS).q D'.pu := by
        rw [e']
        exact .same K.q D.pu
      exact ⟨{ K with ok := true }, D', ⟨hC.turn s2 rfl, h.ki.step hstep, h.open', rfl⟩, hstep⟩
    have hk1 : ¬ K.clock < 100000 := by omega
    clear h hW hcl
    go_enter Try.func10, Try.ntmps10
    go_wp2_with (go_at_call 29; refine HT.out.mono ?_; rintro e w1 ⟨rfl, hr⟩; obtain ⟨D', e', hC⟩ := hr.out; obtain ⟨d5, d8, df, hP⟩ := HK.out _ _ e' hC; have HP : Hid (KPost w0 pb n K D (w1.setCell ⟨pb, 8, none⟩ (.bool true))) := hP; clear hr e' hC hP)
    go_end0
    exact ⟨rfl, HP.out⟩

end Go.Proofs.Ytpfcacedpkaihab

/- The keeping laws' own functions (package almanackeep): end, walked. -/
namespace Go.Proofs.Ytpfcacedpkaihab
open Go.RowKit

theorem goneK_true {l : List KrE} {r : Int} (h : goneK l r = true) : r < 0 ∨ ((l.map KrE.p).length : Int) ≤ r ∨ ∃ (k : Nat) (rd : KR), r = k ∧ (l.map KrE.p)[k]? = some rd ∧ rd.ended = true := by
  unfold goneK at h
  by_cases h0 : r < 0
  · exact .inl h0
  · by_cases h1 : (l.length : Int) ≤ r
    · exact .inr (.inl (by rw [List.length_map]; exact h1))
    · obtain ⟨k, rfl⟩ : ∃ k : Nat, r = k := ⟨r.toNat, by omega⟩
      have hk : k < l.length := by omega
      rw [decide_eq_false h0, decide_eq_false h1, Int.toNat_natCast, List.getElem?_eq_getElem hk] at h
      exact .inr (.inr ⟨k, l[k].p, rfl, by rw [List.getElem?_map, List.getElem?_eq_getElem hk]; rfl, show l[k].ended = true by simpa using h⟩)
theorem goneK_false {l : List KrE} {r : Int} (h : goneK l r = false) : ∃ (k : Nat) (rd : KrE), r = k ∧ l[k]? = some rd ∧ rd.ended = false := by
  unfold goneK at h
  by_cases h0 : r < 0
  · rw [decide_eq_true h0] at h; simp at h
  · by_cases h1 : (l.length : Int) ≤ r
    · rw [decide_eq_true h1] at h; simp at h
    · obtain ⟨k, rfl⟩ : ∃ k : Nat, r = k := ⟨r.toNat, by omega⟩
      have hk : k < l.length := by omega
      rw [decide_eq_false h0, decide_eq_false h1, Int.toNat_natCast, List.getElem?_eq_getElem hk] at h
      exact ⟨k, l[k], rfl, List.getElem?_eq_getElem hk, by simpa using h⟩

/-- a cell of a reader has turned, none that holds a row. -/
theorem Keep.setRd {w : World} {pb g j : Nat} {K : KS} {r r' : KrE} (h : Keep w pb K) (ho : K.vr.ownBlock = some g) (hr : K.rds[j]? = some r) (f : Nat) (hf : f < 4) (v : Value) (hc : krC r' = (krC r).set f v) (hd : rdD r' = rdD r) : KBecame w pb K (w.setCell ⟨g, j * 4 + f, none⟩ v) { K with rds := K.rds.set j r' } := by
  obtain ⟨hj, hr'⟩ := List.getElem?_eq_some_iff.mp hr
  have hm : (⟨36, 4, K.vr, K.rds.length, K.rds.flatMap krC⟩ : RowD) ∈ K.rows := List.mem_of_getElem? (i := 2) rfl
  have k1 : Kept (fun x => K.vr.ownBlock = some x) w (w.setCell ⟨g, j * 4 + f, none⟩ v) := (Kept.setCell w ⟨g, j * 4 + f, none⟩ v).mono fun x hx => by rw [hx]; exact ho
  have hrow : Row (w.setCell ⟨g, j * 4 + f, none⟩ v) 36 4 K.vr (K.rds.set j r').length ((K.rds.set j r').flatMap krC) := by
    have := h.rds.set ho (j * 4 + f) v
    rw [flat_set krC 4 (fun _ => rfl) K.rds j hj f hf v r' (by rw [hr']; exact hc)] at this
    rw [List.length_set]
    exact this
  have er : ({ K with rds := K.rds.set j r' } : KS).rows = K.rows.set 2 ⟨36, 4, K.vr, (K.rds.set j r').length, (K.rds.set j r').flatMap krC⟩ := by
    show _ :: _ :: _ :: (K.rds.set j r').map rdD = _ :: _ :: _ :: K.rds.map rdD
    have : (K.rds.set j r').map rdD = K.rds.map rdD := by
      rw [List.map_set, hd]
      exact set_self' (by rw [List.getElem?_map, hr]; rfl)
    rw [this]
  refine ⟨⟨h.blk.kept k1 fun he => h.ne _ hm he, ?_⟩, k1.mono fun x hx => .inr ⟨_, hm, hx⟩, ?_⟩
  · rw [er]
    exact h.all.put 2 _ _ rfl k1 hrow (fun x hx => .inl hx)
  · rintro x (rfl | ⟨a, ha, hx⟩)
    · exact .inl (.inl rfl)
    · rw [er] at ha
      rcases List.mem_or_eq_of_mem_set ha with ha | rfl
      · exact .inl (.inr ⟨a, ha, hx⟩)
      · exact .inl (.inr ⟨_, hm, hx⟩)

/-- what end answers: the reader, its span; was it one? -/
def KEndPost (w0 : Fr) (pb n : Nat) (K : KS) (D : DevS) (raw : Int) (e : Ending) (w' : World) : Prop :=
  (goneK K.rds (whichK K.rds.length raw) = true ∧ e = .returned (.tuple #[.agg #[.int .i64 0, .int .i64 0, .slice none 0 0, .bool false], .agg #[.int .u64 0, .int .u64 0], .bool false]) ∧ ∃ K' D', KInv w0 w' pb (n + 1) K' D' ∧ K'.q = K.q ∧ D'.pu = D.pu) ∨
  (∃ (r j : Nat) (rd : KrE) (K' : KS) (D' : DevS), whichK K.rds.length raw = (r : Int) ∧ K.rds[r]? = some rd ∧ rd.ended = false ∧ j < 6 ∧ (D.seats j).reads = true ∧ (D.seats j).num = (r : Int) ∧
    e = .returned (.tuple #[.agg #[.int .i64 rd.tick, .int .i64 rd.limit, rd.tv, .bool true], .agg #[.int .u64 ((D.seats j).lo : Int), .int .u64 ((D.seats j).hi : Int)], .bool true]) ∧
    KInv w0 w' pb (n + 1) K' D' ∧ K'.q = { K.q with rds := K.q.rds.set r { rd.p with ended := true } } ∧ D'.pu = { D.pu with seats := putSeat D.pu.seats j ⟨false, 0, 0, 0⟩ } ∧ K'.rds[r]? = some { rd with ended := true })

theorem KCore.far {w0 : Fr} {W W' : World} {pb : Nat} {K : KS} {D : DevS} {F : Nat → Prop} (h : KCore w0 W pb K D) (k : Kept F W W') (hK : ∀ j, K.fp pb j → ¬ F j) (hD : ∀ j, D.fp K.xb j → ¬ F j) (h0 : ∀ j, F j → ¬ w0.X j) : KCore w0 W' pb K D :=
  ⟨h.below.next k h0, h.keep.kept k hK, h.dev.kept k hD, h.sep, h.newK, h.newD⟩

theorem Kept.setAB {A B : Nat} {W X : World} (h : Kept (fun j => j = A ∨ j = B) W X) (b : Nat) (hb : b = A ∨ b = B) (f : Nat) (v : Value) : Kept (fun j => j = A ∨ j = B) W (X.setCell ⟨b, f, none⟩ v) :=
  h.trans (Kept.setCell X ⟨b, f, none⟩ v) (fun _ => id) (fun j _ he => by rw [he]; exact hb)

theorem Kept.setA {A B : Nat} {W X : World} (h : Kept (fun j => j = A ∨ j = B) W X) (f : Nat) (v : Value) : Kept (fun j => j = A ∨ j = B) W (X.setCell ⟨A, f, none⟩ v) := h.setAB A (.inl rfl) f v
theorem Kept.setB {A B : Nat} {W X : World} (h : Kept (fun j => j = A ∨ j = B) W X) (f : Nat) (v : Value) : Kept (fun j => j = A ∨ j = B) W (X.setCell ⟨B, f, none⟩ v) := h.setAB B (.inr rfl) f v

set_option maxRecDepth 100000 in
set_option maxHeartbeats 2000000 in
theorem kend_gone (w0 : Fr) (w : World) (pb n : Nat) (K : KS) (D : DevS) (raw : Int) (h : KInv w0 w pb n K D) (h1 : -9223372036854775808 ≤ raw) (h2 : raw ≤ 9223372036854775807) (hg0 : goneK K.rds (whichK K.rds.length raw) = true) :
    Calls Try.prog 5 #[.pointer (some ⟨pb, 0, none⟩), .int .i64 raw] w fun e w' => KEndPost w0 pb n K D raw e w' := by
  obtain ⟨hcnt, hlen⟩ := h.ki.count
  have hlen' : K.rds.length = D.begun := by
    have e : K.q.rds.length = K.rds.length := by simp [KS.q]
    rw [← e]
    exact hlen
  have hbm : K.rds.length ≤ 200 := by have := h.ki.good.bmax; rw [hlen']; exact this
  obtain ⟨ar, cr, hvr, _⟩ := h.core.keep.rds.form
  have HC6 : Hid (∀ W, Kept (fun _ => False) w W → W.cell? ⟨pb, 6, none⟩ = some (.slice ar K.rds.length cr) ∧ W.cell? ⟨pb, 0, none⟩ = some (.pointer (some ⟨K.xb, 0, none⟩))) := fun W hW => ⟨by rw [← hvr]; exact hW.hold h.core.keep.c6, hW.hold h.core.keep.c0⟩
  have HWH : Hid (∀ W, Kept (fun _ => False) w W → Calls Try.prog 20 #[.pointer (some ⟨pb, 0, none⟩), .int .i64 raw] W fun e w' => e = .returned (.int .i64 (whichK K.rds.length raw)) ∧ W = w') := fun W hW => kwhich W pb ar K.rds.length cr raw (HC6.out W hW).1 (by omega) h1 h2
  obtain ⟨m, hm⟩ : ∃ m, m = whichK K.rds.length raw := ⟨_, rfl⟩
  rw [← hm] at HWH
  have HKF : Hid (∀ k, K.fp pb k → k < w.heap.size) := h.core.keep.lt
  have HDF : Hid (∀ k, D.fp K.xb k → k < w.heap.size) := h.core.dev.lt
  have HNX : Hid (∀ k, w.heap.size ≤ k → ¬ w0.X k) := h.core.new
  have HB2 : Hid (∀ o o' W, Kept (fun _ => False) ((w.alloc (.cells #[.int .i64 0, .int .i64 0, .slice none 0 0, .bool false] o)).alloc (.cells #[.int .u64 0, .int .u64 0] o')) W → Blk W w.heap.size o #[.int .i64 0, .int .i64 0, .slice none 0 0, .bool false] ∧ Blk W (w.heap.size + 1) o' #[.int .u64 0, .int .u64 0]) := fun o o' W hW => by
    refine ⟨((Blk.new w _ _).kept (Kept.alloc _ _ (fun _ => False)) id).kept hW id, ?_⟩
    have := (Blk.new (w.alloc (.cells #[.int .i64 0, .int .i64 0, .slice none 0 0, .bool false] o)) o' #[.int .u64 0, .int .u64 0]).kept hW id
    simpa using this
  have hg := hg0
  rw [← hm] at hg
  clear hg0
  have hno := h.ki.noseat (m := m) (goneK_true hg)
  have HEN : Hid (∀ W, Kept (fun _ => False) w W → Calls Try.prog 8 #[.pointer (some ⟨K.xb, 0, none⟩), .int .i64 m] W fun e w' => e = .returned (.tuple #[.agg #[.int .u64 0, .int .u64 0], .int .i64 8]) ∧ Kept (fun _ => False) W w') := fun W hW => (dend W K.xb D m (h.core.dev.kept hW (fun _ _ => id))).mono fun e w' hp => by
    rcases hp with ⟨_, e1, k⟩ | ⟨j, hj, hr, hn, _⟩
    · exact ⟨e1, k⟩
    · exact absurd hn (hno j hj hr)
  have HGO : Hid (∀ W, Kept (fun _ => False) w W → Calls Try.prog 21 #[.pointer (some ⟨pb, 0, none⟩), .int .i64 m] W fun e w' => e = .returned (.bool true) ∧ W = w') := fun W hW => by
    have := kgone W pb K m (h.core.keep.kept hW (fun _ _ => id)) (by omega)
    rw [hg] at this
    exact this
  have HCE : Hid (∀ W, Kept (fun _ => False) w W → W.cell? ⟨pb, 8, none⟩ = some (.bool true) ∧ (∀ i, W.frozen? ⟨pb, i, none⟩ = false) ∧ pb < w.heap.size) := fun W hW => by
    have hk := h.core.keep.kept hW (fun _ _ => id)
    exact ⟨by have := hk.c8; rw [h.ok] at this; exact this, fun i => hk.blk.free i, h.core.keep.blk.lt⟩
  have HPO : Hid (∀ W W', Kept (fun _ => False) w W → Kept (fun j => j = w.heap.size ∨ j = w.heap.size + 1) (W.setCell ⟨pb, 8, none⟩ (.bool true)) W' → KEndPost w0 pb n K D raw (.returned (.tuple #[.agg #[.int .i64 0, .int .i64 0, .slice none 0 0, .bool false], .agg #[.int .u64 0, .int .u64 0], .bool false])) W') := fun W W' hW hk => by
    refine .inl ⟨by rw [← hm]; exact hg, rfl, ?_⟩
    have hC := h.core.kept hW
    have s1 := hC.keep.setOwn (K' := { K with ok := true }) 8 (.bool true) rfl rfl
    have hC1 := (hC.turn s1 rfl).far hk (fun j hj he => by have := HKF.out j hj; omega) (fun j hj he => by have := HDF.out j hj; omega) (fun j hj => HNX.out j (by omega))
    exact ⟨{ K with ok := true }, D, ⟨hC1, h.ki.more (Nat.le_succ _), h.open', rfl⟩, rfl, rfl⟩
  clear h hno hg hm hvr hcnt hlen hlen'
  go_enter Try.func5, Try.ntmps5
  go_wp2_with first
    | (go_at_call 20; refine (HWH.out _ ((Kept.alloc _ _ _).allocNew _)).mono ?_; rintro e w1 ⟨rfl, rfl⟩; have cc0 := (HC6.out _ ((Kept.alloc w (.cells #[.int .i64 0, .int .i64 0, .slice none 0 0, .bool false] 36) (fun _ => False)).allocNew (.cells #[.int .u64 0, .int .u64 0] 40))).2)
    | (go_at_call 8; refine (HEN.out _ ((Kept.alloc _ _ _).allocNew _)).mono ?_; rintro e w2 ⟨rfl, hk2⟩; have HK2 : Hid (Kept (fun _ => False) w w2) := ((Kept.alloc _ _ _).allocNew _).trans hk2 (fun _ => id) (fun _ _ => id); have HBB : Hid (Blk w2 w.heap.size 36 #[.int .i64 0, .int .i64 0, .slice none 0 0, .bool false] ∧ Blk w2 (w.heap.size + 1) 40 #[.int .u64 0, .int .u64 0]) := HB2.out _ _ _ hk2; clear hk2)
    | (go_at_call 21; refine (HGO.out _ (HK2.out.allocNew _)).mono ?_; rintro e w3 ⟨rfl, rfl⟩; obtain ⟨d8, df, dp⟩ := HCE.out _ (HK2.out.allocNew (.cells #[.int .u64 0, .int .u64 0] 40)))
  have HW3 : Hid (Kept (fun _ => False) w (w2.alloc (.cells #[.int .u64 0, .int .u64 0] 40))) := HK2.out.allocNew _
  have hsz2 : w.heap.size + 1 < w2.heap.size := HBB.out.2.lt
  have ba := (HBB.out.1.kept (Kept.alloc w2 (.cells #[.int .u64 0, .int .u64 0] 40) (fun _ => False)) id).kept (Kept.setCell _ ⟨pb, 8, none⟩ (.bool true)) (by simp only; omega)
  have bb := (HBB.out.2.kept (Kept.alloc w2 (.cells #[.int .u64 0, .int .u64 0] 40) (fun _ => False)) id).kept (Kept.setCell _ ⟨pb, 8, none⟩ (.bool true)) (by simp only; omega)
  have bs := (Blk.new w2 40 #[.int .u64 0, .int .u64 0]).kept (Kept.setCell _ ⟨pb, 8, none⟩ (.bool true)) (by simp only; omega)
  have HP1 : Hid (∀ W', Kept (fun j => j = w.heap.size ∨ j = w.heap.size + 1) ((w2.alloc (.cells #[.int .u64 0, .int .u64 0] 40)).setCell ⟨pb, 8, none⟩ (.bool true)) W' → KEndPost w0 pb n K D raw (.returned (.tuple #[.agg #[.int .i64 0, .int .i64 0, .slice none 0 0, .bool false], .agg #[.int .u64 0, .int .u64 0], .bool false])) W') := fun W' hk => HPO.out _ W' HW3.out hk
  generalize (w2.alloc (.cells #[.int .u64 0, .int .u64 0] 40)).setCell ⟨pb, 8, none⟩ (.bool true) = W4 at ba bb bs HP1 ⊢
  have a0 : W4.cell? ⟨w.heap.size, 0, none⟩ = some (.int .i64 0) := ba.cell 0
  have a1 : W4.cell? ⟨w.heap.size, 1, none⟩ = some (.int .i64 0) := ba.cell 1
  have a2 : W4.cell? ⟨w.heap.size, 2, none⟩ = some (.slice none 0 0) := ba.cell 2
  have a3 : W4.cell? ⟨w.heap.size, 3, none⟩ = some (.bool false) := ba.cell 3
  have af : ∀ i, W4.frozen? ⟨w.heap.size, i, none⟩ = false := fun i => ba.free i
  have b0 : W4.cell? ⟨w.heap.size + 1, 0, none⟩ = some (.int .u64 0) := bb.cell 0
  have b1 : W4.cell? ⟨w.heap.size + 1, 1, none⟩ = some (.int .u64 0) := bb.cell 1
  have bf : ∀ i, W4.frozen? ⟨w.heap.size + 1, i, none⟩ = false := fun i => bb.free i
  have s0 : W4.cell? ⟨w2.heap.size, 0, none⟩ = some (.int .u64 0) := bs.cell 0
  have s1 : W4.cell? ⟨w2.heap.size, 1, none⟩ = some (.int .u64 0) := bs.cell 1
  have hn1 : w2.heap.size ≠ w.heap.size := by omega
  have hn2 : w2.heap.size ≠ w.heap.size + 1 := by omega
  clear ba bb bs d8 df cc0
  generalize w2.heap.size = S at *
  go_region
  all_goals
    go_wp2
    refine bodyPost_ret (v := .tuple #[.agg #[.int .i64 0, .int .i64 0, .slice none 0 0, .bool false], .agg #[.int .u64 0, .int .u64 0], .bool false]) (by simp [results, Try.results5, go_sem, *]) rfl (HP1.out _ ?_)
    repeat first
      | with_reducible refine Kept.setB ?_ _ _
      | with_reducible refine Kept.setA ?_ _ _
      | with_reducible exact Kept.refl _ _
      | with_reducible refine Kept.drewN ?_ _
      | with_reducible refine Kept.drew ?_

end Go.Proofs.Ytpfcacedpkaihab
