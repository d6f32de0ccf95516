/- The keeping laws' own functions (package almanackeep): begin, walked. -/
import Derived.Test.YtpfcacedpkaihabKdKg
namespace Go.Proofs.Ytpfcacedpkaihab
open Go.RowKit

theorem Try.infoKr : (Try.prog.info? 36).map (fun i => (i.zero, i.size, i.bytes)) = some (some (.agg #[.int .i64 0, .int .i64 0, .slice none 0 0, .bool false]), 4, 48) := by kernel_rfl
theorem oneCell_kr (r : KrE) (h : r.tv = .slice none 0 0) : ∀ u ∈ krC r, u.oneCell' = true := by
  intro u hu; simp [krC, h] at hu; rcases hu with rfl | rfl | rfl | rfl <;> rfl
theorem news_kr (w : World) (a c : Int) (t : TypeId) : ∀ j u, (krC ⟨a, c, .slice none 0 0, [], false⟩)[j]? = some u → (w.alloc (.cells #[.int .i64 a, .int .i64 c, .slice none 0 0, .bool false] t)).cell? ((⟨w.heap.size, 0, none⟩ : Addr).add j) = some u := by
  intro j u hj
  have e' : (⟨w.heap.size, 0, none⟩ : Addr).add j = ⟨w.heap.size, j, none⟩ := by cases j <;> simp [Addr.add]
  rw [e', World.cell?_alloc_at _ _ _ _ rfl]
  simpa [krC] using hj

/-- one reader more: another row of readers, and a row of its own, which is nil. -/
theorem Keep.pushR {w w' : World} {pb : Nat} {K : KS} (h : Keep w pb K) (a c : Int) (v : Value) (k : Kept (fun j => K.vr.ownBlock = some j) w w') (hr : Row w' 36 4 v (K.rds ++ [(⟨a, c, .slice none 0 0, [], false⟩ : KrE)]).length ((K.rds ++ [(⟨a, c, .slice none 0 0, [], false⟩ : KrE)]).flatMap krC)) (hown : ∀ x, v.ownBlock = some x → K.vr.ownBlock = some x ∨ w.heap.size ≤ x) :
    KBecame w pb K (w'.setCell ⟨pb, 6, none⟩ v) { K with rds := K.rds ++ [⟨a, c, .slice none 0 0, [], false⟩], vr := v } := by
  have hm : (⟨36, 4, K.vr, K.rds.length, K.rds.flatMap krC⟩ : RowD) ∈ K.rows := List.mem_of_getElem? (i := 2) rfl
  have hv0 : ∀ x, (⟨36, 4, v, (K.rds ++ [(⟨a, c, .slice none 0 0, [], false⟩ : KrE)]).length, (K.rds ++ [(⟨a, c, .slice none 0 0, [], false⟩ : KrE)]).flatMap krC⟩ : RowD).v.ownBlock = some x → K.vr.ownBlock = some x ∨ w.heap.size ≤ x := hown
  have blk1 := h.blk.kept k fun he => h.ne _ hm he
  have all1 := (h.all.put 2 _ ⟨36, 4, v, (K.rds ++ [(⟨a, c, .slice none 0 0, [], false⟩ : KrE)]).length, (K.rds ++ [(⟨a, c, .slice none 0 0, [], false⟩ : KrE)]).flatMap krC⟩ rfl k hr hv0).more (l2 := [rdD ⟨a, c, .slice none 0 0, [], false⟩]) (fun r hr => by simp at hr; subst hr; exact ⟨rfl, rfl, rfl⟩)
  have er : ({ K with rds := K.rds ++ [(⟨a, c, .slice none 0 0, [], false⟩ : KrE)], vr := v } : KS).rows = (K.rows.set 2 ⟨36, 4, v, (K.rds ++ [(⟨a, c, .slice none 0 0, [], false⟩ : KrE)]).length, (K.rds ++ [(⟨a, c, .slice none 0 0, [], false⟩ : KrE)]).flatMap krC⟩) ++ [rdD ⟨a, c, .slice none 0 0, [], false⟩] := by
    show _ :: _ :: _ :: (K.rds ++ [_]).map rdD = _ :: _ :: _ :: (K.rds.map rdD ++ [_])
    rw [List.map_append]; rfl
  have k2 := Kept.setCell w' ⟨pb, 6, none⟩ v
  refine ⟨⟨blk1.set 6 v, ?_⟩, k.trans k2 (fun x hx => .inr ⟨_, hm, hx⟩) (fun x _ hx => .inl hx), ?_⟩
  · rw [er]
    refine all1.kept k2 ?_
    rintro j ⟨r, hr', hj⟩ he
    subst he
    exact (all1.row r hr').ne_block blk1 (krows_ne (K := { K with rds := K.rds ++ [(⟨a, c, .slice none 0 0, [], false⟩ : KrE)], vr := v }) (by rw [er]; exact hr')) hj
  · rintro x (rfl | ⟨r, hr', hx⟩)
    · exact .inl (.inl rfl)
    · rw [er, List.mem_append, List.mem_singleton] at hr'
      rcases hr' with hr' | rfl
      · rcases List.mem_or_eq_of_mem_set hr' with hr' | rfl
        · exact .inl (.inr ⟨r, hr', hx⟩)
        · exact (hown x hx).imp (fun hh => .inr ⟨_, hm, hh⟩) id
      · exact nil_own hx

set_option maxRecDepth 100000 in
set_option maxHeartbeats 2000000 in
/-- a beginning that is refused. -/
theorem kbegin_no (w0 : Fr) (w : World) (pb n : Nat) (K : KS) (D : DevS) (limit er : Int) (h : KInv w0 w pb n K D) (her : er ≠ 0)
    (hcs : (er = 10 ∧ (limit < 0 ∨ 100000 < limit)) ∨ (er = 7 ∧ 0 ≤ limit ∧ limit ≤ 100000 ∧ 6 ≤ K.open') ∨ (er = 6 ∧ 0 ≤ limit ∧ limit ≤ 100000 ∧ K.open' < 6 ∧ 200 ≤ K.rds.length)) (hl : K.rds.length ≤ 1000)
    (hc : Calls Try.prog 11 #[.pointer (some ⟨K.xb, 0, none⟩), .int .i64 limit] w fun e w' => e = .returned (.tuple #[.int .i64 0, .int .i64 er]) ∧ Kept (fun _ => False) w w') :
    Calls Try.prog 23 #[.pointer (some ⟨pb, 0, none⟩), .int .i64 limit] w fun e w' => e = .returned (.tuple #[]) ∧ KPost w0 pb n K D w' := by
  have HC : Hid (Calls Try.prog 11 #[.pointer (some ⟨K.xb, 0, none⟩), .int .i64 limit] w fun e w' => e = .returned (.tuple #[.int .i64 0, .int .i64 er]) ∧ Kept (fun _ => False) w w') := hc
  have HS : Hid (∀ W, Kept (fun _ => False) w W → KPost w0 pb n K D W) := fun W hW => h.same hW
  have c0 := h.core.keep.c0
  have c7 := h.core.keep.c7
  obtain ⟨ar, cr, hvr, _⟩ := h.core.keep.rds.form
  have c6 := h.core.keep.c6
  rw [hvr] at c6
  clear h hc hvr
  rcases hcs with ⟨rfl, hlm⟩ | ⟨rfl, hl0, hl1, ho⟩ | ⟨rfl, hl0, hl1, ho, hb⟩
  · rcases hlm with hlm | hlm
    · have hd : decide (limit < 0) = true := by simpa using hlm
      go_enter Try.func23, Try.ntmps23
      go_wp2_with (go_at_call 11; refine HC.out.mono ?_; rintro e w1 ⟨rfl, hk1⟩)
      go_end0
      exact ⟨rfl, HS.out _ hk1⟩
    · have hd : decide (limit < 0) = false := by simp; omega
      go_enter Try.func23, Try.ntmps23
      go_wp2_with (go_at_call 11; refine HC.out.mono ?_; rintro e w1 ⟨rfl, hk1⟩)
      go_end0
      exact ⟨rfl, HS.out _ hk1⟩
  · have hd : decide (limit < 0) = false := by simp; omega
    have hd2 : ¬ 100000 < limit := by omega
    go_enter Try.func23, Try.ntmps23
    go_wp2_with (go_at_call 11; refine HC.out.mono ?_; rintro e w1 ⟨rfl, hk1⟩)
    go_end0
    exact ⟨rfl, HS.out _ hk1⟩
  · have hd : decide (limit < 0) = false := by simp; omega
    have hd2 : ¬ 100000 < limit := by omega
    have hd3 : ¬ 6 ≤ K.open' := by omega
    go_enter Try.func23, Try.ntmps23
    go_wp2_with (go_at_call 11; refine HC.out.mono ?_; rintro e w1 ⟨rfl, hk1⟩)
    go_end0
    exact ⟨rfl, HS.out _ hk1⟩

set_option maxRecDepth 100000 in
set_option maxHeartbeats 4000000 in
theorem kbegin_yes (w0 : Fr) (w : World) (pb n : Nat) (K : KS) (D : DevS) (limit : Int) (h : KInv w0 w pb n K D) (hl0 : 0 ≤ limit) (hl1 : limit ≤ 100000) (ho : K.open' < 6) (ho0 : 0 ≤ K.open') (hb : K.rds.length < 200)
    (hc : Calls Try.prog 11 #[.pointer (some ⟨K.xb, 0, none⟩), .int .i64 limit] w fun e w' => e = .returned (.tuple #[.int .i64 (K.rds.length : Int), .int .i64 0]) ∧ Hid (∃ (j lo : Nat) (D' : DevS), j < 6 ∧ (D.seats j).reads = false ∧ First D.past (D.clock - limit) lo ∧ D'.pu = { D.pu with seats := putSeat D.pu.seats j ⟨true, D.pu.begun, lo, D.pu.past.length⟩, begun := D.pu.begun + 1 } ∧ KCore w0 w' pb K D')) :
    Calls Try.prog 23 #[.pointer (some ⟨pb, 0, none⟩), .int .i64 limit] w fun e w' => e = .returned (.tuple #[]) ∧ KPost w0 pb n K D w' := by
  have HC : Hid (Calls Try.prog 11 #[.pointer (some ⟨K.xb, 0, none⟩), .int .i64 limit] w fun e w' => e = .returned (.tuple #[.int .i64 (K.rds.length : Int), .int .i64 0]) ∧ Hid (∃ (j lo : Nat) (D' : DevS), j < 6 ∧ (D.seats j).reads = false ∧ First D.past (D.clock - limit) lo ∧ D'.pu = { D.pu with seats := putSeat D.pu.seats j ⟨true, D.pu.begun, lo, D.pu.past.length⟩, begun := D.pu.begun + 1 } ∧ KCore w0 w' pb K D')) := hc
  have c0 := h.core.keep.c0
  have c7 := h.core.keep.c7
  obtain ⟨ar, cr, hvr, _⟩ := h.core.keep.rds.form
  have c6 := h.core.keep.c6
  rw [hvr] at c6
  have HV : Hid (K.vr = .slice ar K.rds.length cr) := hvr
  have hgb : K.rds.length = D.pu.begun := by
    have e : K.q.rds.length = K.rds.length := by simp [KS.q]
    rw [← e]
    exact h.ki.count.2
  have HCK : Hid (∀ W D', KCore w0 W pb K D' → W.cell? ⟨pb, 5, none⟩ = some (.int .i64 K.clock) ∧ W.cell? ⟨pb, 6, none⟩ = some (.slice ar K.rds.length cr) ∧ W.cell? ⟨pb, 7, none⟩ = some (.int .i64 K.open') ∧ W.cell? ⟨pb, 8, none⟩ = some (.bool true) ∧ (∀ i, W.frozen? ⟨pb, i, none⟩ = false) ∧ pb < W.heap.size) := fun W D' hC => ⟨hC.keep.c5, by rw [← hvr]; exact hC.keep.c6, hC.keep.c7, by have := hC.keep.c8; rw [h.ok] at this; exact this, fun i => hC.keep.blk.free i, hC.keep.blk.lt⟩
  have HFIN : Hid (∀ (W W1 w' : World) (v : Value) (j lo : Nat) (D' : DevS), j < 6 → (D.seats j).reads = false → First D.past (D.clock - limit) lo → D'.pu = { D.pu with seats := putSeat D.pu.seats j ⟨true, D.pu.begun, lo, D.pu.past.length⟩, begun := D.pu.begun + 1 } → KCore w0 W pb K D' → Kept (fun _ => False) (W.setCell ⟨pb, 8, none⟩ (.bool true)) W1 → Appended W1 w' 36 4 (.slice ar K.rds.length cr) v K.rds.length 1 (K.rds.flatMap krC) (krC ⟨K.clock, limit, .slice none 0 0, [], false⟩) → (w'.cell? ⟨pb, 6, none⟩ = some (.slice ar K.rds.length cr) ∧ w'.cell? ⟨pb, 7, none⟩ = some (.int .i64 K.open') ∧ (∀ i, w'.frozen? ⟨pb, i, none⟩ = false)) ∧ KPost w0 pb n K D ((w'.setCell ⟨pb, 6, none⟩ v).setCell ⟨pb, 7, none⟩ (.int .i64 (K.open' + 1)))) := by
    intro W W1 w' v j lo D' hj hr hf e' hC hk1 hA
    have s1 := hC.keep.setOwn (K' := { K with ok := true }) 8 (.bool true) rfl rfl
    have hC1 := hC.turn s1 rfl
    obtain ⟨hblk, hA2⟩ := hC1.keep.appIn 2 ⟨36, 4, K.vr, K.rds.length, K.rds.flatMap krC⟩ rfl HV.out hk1 hA
    have s2 := hC1.keep.pushR K.clock limit v (by show Kept (fun j => K.vr.ownBlock = some j) _ _; rw [HV.out]; exact hA2.kept) (row_snoc hA2.row) (fun x hx => by show K.vr.ownBlock = some x ∨ _; rw [HV.out]; exact hA2.new x hx)
    have s3 := s2.1.setOwn (K' := { K with ok := true, rds := K.rds ++ [⟨K.clock, limit, .slice none 0 0, [], false⟩], vr := v, open' := K.open' + 1 }) 7 (.int .i64 (K.open' + 1)) rfl rfl
    refine ⟨⟨by rw [hblk.cell 6, ← HV.out]; rfl, hblk.cell 7, fun i => hblk.free i⟩, { K with ok := true, rds := K.rds ++ [⟨K.clock, limit, .slice none 0 0, [], false⟩], vr := v, open' := K.open' + 1 }, D', ?_⟩
    have hstep : KStep K.q D.pu ({ K with ok := true, rds := K.rds ++ [⟨K.clock, limit, .slice none 0 0, [], false⟩], vr := v, open' := K.open' + 1 } : KS).q D'.pu := by
      rw [e']
      have : ({ K with ok := true, rds := K.rds ++ [⟨K.clock, limit, .slice none 0 0, [], false⟩], vr := v, open' := K.open' + 1 } : KS).q = { K.q with rds := K.q.rds ++ [⟨K.q.clock, limit, [], false⟩] } := by simp [KS.q, KrE.p]
      rw [this]
      exact .start K.q D.pu limit lo j hl0 hl1 hf hj hr (by rw [← hgb]; exact hb)
    refine ⟨⟨hC1.turn (s2.trans s3) rfl, h.ki.step hstep, ?_, rfl⟩, hstep⟩
    have e7 := h.open'
    have : openK ({ K with ok := true, rds := K.rds ++ [⟨K.clock, limit, .slice none 0 0, [], false⟩], vr := v, open' := K.open' + 1 } : KS).q.rds = openK K.q.rds + 1 := by
      show openK ((K.rds ++ [_]).map KrE.p) = _
      rw [List.map_append]
      exact openK_snoc _ _
    show K.open' + 1 = _
    rw [this, e7]
    omega
  obtain ⟨i0, hi, hz0, hz1, hz2⟩ := info_parts Try.infoKr
  have HI : Hid (Try.prog.info? 36 = some i0 ∧ i0.zero = some (.agg #[.int .i64 0, .int .i64 0, .slice none 0 0, .bool false]) ∧ i0.size = 4 ∧ i0.bytes = 48) := ⟨hi, hz0, hz1, hz2⟩
  have HROWS : Hid (∀ W D', KCore w0 W pb K D' → Row (W.setCell ⟨pb, 8, none⟩ (.bool true)) 36 4 (.slice ar K.rds.length cr) K.rds.length (K.rds.flatMap krC) ∧ (W.setCell ⟨pb, 8, none⟩ (.bool true)).cell? ⟨pb, 5, none⟩ = some (.int .i64 K.clock) ∧ (W.setCell ⟨pb, 8, none⟩ (.bool true)).cell? ⟨pb, 6, none⟩ = some (.slice ar K.rds.length cr)) := fun W D' hC => by
    have s1 := hC.keep.setOwn (K' := { K with ok := true }) 8 (.bool true) rfl rfl
    rw [← HV.out]
    exact ⟨s1.1.rds, s1.1.c5, s1.1.c6⟩
  have b1 : K.rds.length + 1 ≤ maxLen := by unfold maxLen; omega
  have b2 : (K.rds.length + 1) * 48 ≤ 140737488355328 := by omega
  have hd : decide (limit < 0) = false := by simp; omega
  have hd2 : ¬ 100000 < limit := by omega
  have hd3 : ¬ 6 ≤ K.open' := by omega
  have hd4 : ¬ 200 ≤ K.rds.length := by omega
  clear h hc hvr hi hz0 hz1 hz2 hgb
  go_enter Try.func23, Try.ntmps23
  go_wp2_with (go_at_call 11; refine HC.out.mono ?_; rintro e w1 ⟨rfl, hr⟩; obtain ⟨j, lo, D', hj, hjr, hf, e', hC⟩ := hr.out; obtain ⟨d5, d6, d7, d8, df, hpw⟩ := HCK.out _ _ hC; have HC1 : Hid (KCore w0 w1 pb K D') := hC; have HJ : Hid (j < 6 ∧ (D.seats j).reads = false ∧ First D.past (D.clock - limit) lo ∧ D'.pu = { D.pu with seats := putSeat D.pu.seats j ⟨true, D.pu.begun, lo, D.pu.past.length⟩, begun := D.pu.begun + 1 }) := ⟨hj, hjr, hf, e'⟩; clear hr hj hjr hf e' hC)
  have HR1 : Hid (Row (w1.setCell ⟨pb, 8, none⟩ (.bool true)) 36 4 (.slice ar K.rds.length cr) K.rds.length (K.rds.flatMap krC)) := (HROWS.out _ _ HC1.out).1
  have HF1 : Hid (∀ (W1 w' : World) (v : Value), Kept (fun _ => False) (w1.setCell ⟨pb, 8, none⟩ (.bool true)) W1 → Appended W1 w' 36 4 (.slice ar K.rds.length cr) v K.rds.length 1 (K.rds.flatMap krC) (krC ⟨K.clock, limit, .slice none 0 0, [], false⟩) → (w'.cell? ⟨pb, 6, none⟩ = some (.slice ar K.rds.length cr) ∧ w'.cell? ⟨pb, 7, none⟩ = some (.int .i64 K.open') ∧ (∀ i, w'.frozen? ⟨pb, i, none⟩ = false)) ∧ KPost w0 pb n K D ((w'.setCell ⟨pb, 6, none⟩ v).setCell ⟨pb, 7, none⟩ (.int .i64 (K.open' + 1)))) := fun W1 w' v hk hA => HFIN.out w1 W1 w' v j lo D' HJ.out.1 HJ.out.2.1 HJ.out.2.2.1 HJ.out.2.2.2 HC1.out hk hA
  have g5 : (w1.setCell ⟨pb, 8, none⟩ (.bool true)).cell? ⟨pb, 5, none⟩ = some (.int .i64 K.clock) := (HROWS.out _ _ HC1.out).2.1
  have g6 : (w1.setCell ⟨pb, 8, none⟩ (.bool true)).cell? ⟨pb, 6, none⟩ = some (.slice ar K.rds.length cr) := (HROWS.out _ _ HC1.out).2.2
  generalize hW2 : w1.setCell ⟨pb, 8, none⟩ (.bool true) = W2 at HR1 HF1 g5 g6 ⊢
  have hp2 : pb < W2.heap.size := World.block_lt_of_cell? W2 _ g5
  have qb6 : ∀ o : Obj, (W2.alloc o).cell? ⟨pb, 6, none⟩ = some (.slice ar K.rds.length cr) := fun o => hold_al g6
  have qb5 : ∀ o : Obj, (W2.alloc o).cell? ⟨pb, 5, none⟩ = some (.int .i64 K.clock) := fun o => hold_al g5
  have HROW : Hid (∀ o : Obj, Row ((W2.alloc o).drew) 36 4 (.slice ar K.rds.length cr) K.rds.length (K.rds.flatMap krC)) := fun o => HR1.out.kept ((Kept.alloc W2 o (fun _ => False)).drew) (fun _ _ => id)
  have HAP : Hid (∀ (o : Obj) (w' : World) (v : Value), Appended ((W2.alloc o).drew) w' 36 4 (.slice ar K.rds.length cr) v K.rds.length 1 (K.rds.flatMap krC) (krC ⟨K.clock, limit, .slice none 0 0, [], false⟩) → (w'.cell? ⟨pb, 6, none⟩ = some (.slice ar K.rds.length cr) ∧ w'.cell? ⟨pb, 7, none⟩ = some (.int .i64 K.open') ∧ (∀ i, w'.frozen? ⟨pb, i, none⟩ = false)) ∧ Hid (KPost w0 pb n K D ((w'.setCell ⟨pb, 6, none⟩ v).setCell ⟨pb, 7, none⟩ (.int .i64 (K.open' + 1))))) := fun o w' v hA => HF1.out _ w' v ((Kept.alloc W2 o (fun _ => False)).drew) hA
  clear hW2 d5 d6 d7 d8 df
  go_region_law (refine step_append_mine rfl (.tmp 64) (.tmp 71) 28 rfl 36 i0 (.agg #[.int .i64 0, .int .i64 0, .slice none 0 0, .bool false]) 4 48 Try.underlying28 HI.out.1 HI.out.2.1 HI.out.2.2.1 HI.out.2.2.2 rfl (Nat.succ_pos 3) (.slice ar K.rds.length cr) K.rds.length (K.rds.flatMap krC) rfl (HROW.out _) ⟨W2.heap.size, 0, none⟩ 1 1 (krC ⟨K.clock, limit, .slice none 0 0, [], false⟩) rfl rfl (fun j u hj => news_kr W2 K.clock limit _ j u hj) (oneCell_kr _ rfl) b1 b2 ?_; intro v' w' hA; obtain ⟨⟨p1, p2, p3⟩, p4⟩ := HAP.out _ _ _ hA; obtain ⟨ao', cap', hv', _⟩ := hA.row.form; clear hA; subst hv')
  all_goals
    clear qb5 qb6
    go_wp2
    go_end0
    exact ⟨rfl, p4.out⟩

theorem kbegin (w0 : Fr) (w : World) (pb n : Nat) (K : KS) (D : DevS) (limit : Int) (h : KInv w0 w pb n K D) (hn : n < 9223372036854775807) :
    Calls Try.prog 23 #[.pointer (some ⟨pb, 0, none⟩), .int .i64 limit] w fun e w' => e = .returned (.tuple #[]) ∧ KPost w0 pb n K D w' := by
  have hW := h.walk hn
  obtain ⟨hcnt, hlen⟩ := h.ki.count
  have hlen' : K.rds.length = D.begun := by
    have e : K.q.rds.length = K.rds.length := by simp [KS.q]
    rw [← e]
    exact hlen
  have hbm := hW.fit.bmax
  have hop : K.open' = (seatN D.seats : Int) := by rw [h.open', hcnt]; rfl
  by_cases hl : limit < 0 ∨ 100000 < limit
  · exact kbegin_no w0 w pb n K D limit 10 h (by decide) (.inl ⟨rfl, hl⟩) (by omega) ((dbegin_bad w K.xb limit hl).mono fun e w' hp => ⟨hp.1, by rw [← hp.2]; exact Kept.refl _ _⟩)
  · have hl0 : 0 ≤ limit := by omega
    have hl1 : limit ≤ 100000 := by omega
    have hB := dbegin w K.xb D limit h.core.dev hW.fit hl0 hl1
    by_cases h6 : 6 ≤ K.open'
    · refine kbegin_no w0 w pb n K D limit 7 h (by decide) (.inr (.inl ⟨rfl, hl0, hl1, h6⟩)) (by omega) (hB.mono fun e w' hp => ?_)
      obtain ⟨lo, _, ⟨_, e1, k⟩ | ⟨j, hj, hf, _⟩ | ⟨j, hj, hf, _⟩⟩ := hp
      · exact ⟨e1, k⟩
      · have := seatN_free hj hf; omega
      · have := seatN_free hj hf; omega
    · by_cases h2 : 200 ≤ K.rds.length
      · refine kbegin_no w0 w pb n K D limit 6 h (by decide) (.inr (.inr ⟨rfl, hl0, hl1, by omega, h2⟩)) (by omega) (hB.mono fun e w' hp => ?_)
        obtain ⟨lo, _, ⟨ha, _⟩ | ⟨j, hj, hf, _, e1, k⟩ | ⟨j, hj, hf, hb, _⟩⟩ := hp
        · have := seatN_all ha; omega
        · exact ⟨e1, k⟩
        · omega
      · refine kbegin_yes w0 w pb n K D limit h hl0 hl1 (by omega) (by omega) (by omega) (hB.mono fun e w' hp => ?_)
        obtain ⟨lo, hf0, ⟨ha, _⟩ | ⟨j, hj, hf, hb, _⟩ | ⟨j, hj, hf, hb, e1, r1, r2⟩⟩ := hp
        · have := seatN_all ha; omega
        · omega
        · refine ⟨by rw [e1, hlen'], j, lo, _, hj, hf, hf0, ?_, h.core.prog ⟨r1, r2, fun x hx => .inl hx⟩⟩
          rfl

end Go.Proofs.Ytpfcacedpkaihab
