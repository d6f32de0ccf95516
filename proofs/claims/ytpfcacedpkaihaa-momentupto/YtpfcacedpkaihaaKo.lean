/- The keeping laws' own functions (package almanackeep): began, walked. -/
import Derived.Test.YtpfcacedpkaihaaKkKl
import Derived.Deep.RegionHeld3
namespace Go.Proofs.Ytpfcacedpkaihaa
open Go.RowKit

def frOf (w : World) : Fr := ⟨w, fun i => i < w.heap.size, fun _ h => h⟩
theorem frOf_is {w w' : World} (k : Kept (fun _ => False) w w') : (frOf w).Is w' := ⟨k.os, k.tape, k.output, k.size, fun i hi => k.block i hi id⟩

/-- a law's memory at its beginning: no state yet, no tick. -/
def k0 (xb : Nat) (m : Nat) (r : Int) (ok : Bool) : KS := ⟨xb, m, r, [], [], 0, [], 0, ok, nilV, nilV, nilV⟩
def p0 (m : Nat) (r : Int) : DP := ⟨0, [], 0, fun _ => ⟨false, 0, 0, 0⟩, [], List.replicate m (newP r)⟩

theorem newP_good {r : Int} (h1 : 1 ≤ r) (h2 : r ≤ 6) : (newP r).Good 0 0 :=
  ⟨h1, h2, Nat.le_refl _, by simp [newP], by simp [newP], by simp [newP], by simp [newP]; omega, by simp [newP], by simp [newP], by simp [newP], by simp [newP], by simp [newP]⟩
theorem p0_good {m : Nat} {r : Int} (h1 : 1 ≤ r) (h2 : r ≤ 6) (hm : 1 ≤ m) (hm3 : m ≤ 3) : (p0 m r).Good 0 :=
  ⟨by simp [p0], by simp [p0], by simp [p0], by simp [p0], by simp [p0], by simp [p0]; omega, by simp [p0]; omega, fun s hs => by
    have : s = newP r := List.eq_of_mem_replicate hs
    subst this
    exact newP_good h1 h2, by simp [p0]⟩
theorem k0_ki (xb m : Nat) (r : Int) (vs vt : Value) (h1 : 1 ≤ r) (h2 : r ≤ 6) (hm : 1 ≤ m) (hm3 : m ≤ 3) : KI ({ k0 xb m r true with states := [fun _ => 0], ticks := [0], vs := vs, vt := vt } : KS).q (p0 m r) 0 := by
  refine ⟨p0_good h1 h2 hm hm3, by simp [KS.q, k0, p0], rfl, rfl, rfl, [], ⟨rfl, ?_, ?_, ?_, ?_, ?_⟩, rfl⟩
  · intro i hi hr; simp [p0] at hr
  · intro j x hx; simp at hx
  · intro i k hi hk hr; simp [p0] at hr
  · simp [openN, seatN, p0]
  · intro x hx; simp at hx

theorem k0_core {w W w2 : World} {m : Nat} {r mi : Int} {vn : Value} (hmi : mi = (m : Int)) (hk : Kept (fun _ => False) w W) (hb : Blk W w.heap.size 46 #[.pointer none, .int .i64 mi, .int .i64 r, .slice none 0 0, .slice none 0 0, .int .i64 0, .slice none 0 0, .int .i64 0, .bool false]) (hN : NewDL W w2 r m vn) :
    KCore (frOf w) (w2.setCell ⟨w.heap.size, 0, none⟩ (.pointer (some ⟨W.heap.size, 0, none⟩))) w.heap.size (k0 W.heap.size m r false) (newD r m vn) := by
  subst hmi
  have hlt := hb.lt
  have hkk : Kept (fun _ => False) w w2 := hk.trans hN.kept (fun _ => id) (fun _ _ => id)
  have kfp : ∀ k, (k0 W.heap.size m r false).fp w.heap.size k → k = w.heap.size := by
    rintro k (e | ⟨a, ha, hx⟩)
    · exact e
    · simp only [KS.rows, k0, List.map_nil, List.mem_cons, List.not_mem_nil, or_false] at ha
      rcases ha with rfl | rfl | rfl <;> simp [nilV, Value.ownBlock] at hx
  have dfp : ∀ k, (newD r m vn).fp W.heap.size k → W.heap.size ≤ k := by
    intro k hk'
    rcases newD_fp hk' with e | e
    · omega
    · exact hN.own k e
  have k2 := Kept.setCell w2 ⟨w.heap.size, 0, none⟩ (.pointer (some ⟨W.heap.size, 0, none⟩))
  refine ⟨frOf_is (hkk.setNew _ _ _ (Nat.le_refl _)), ⟨?_, ?_⟩, hN.dev.kept k2 (fun j hj he => by have := dfp j hj; simp only at he; omega), fun k h1 h2 => by have := kfp k h1; have := dfp k h2; omega, fun k h1 => by have := kfp k h1; show ¬ k < w.heap.size; omega, fun k h2 => by have := dfp k h2; show ¬ k < w.heap.size; omega⟩
  · have := (hb.kept hN.kept id).set 0 (.pointer (some ⟨W.heap.size, 0, none⟩))
    exact this
  · refine rows_nil fun a ha => ?_
    simp only [KS.rows, k0, List.map_nil, List.mem_cons, List.not_mem_nil, or_false] at ha
    rcases ha with rfl | rfl | rfl <;> exact ⟨rfl, rfl, rfl⟩

def KBeganPost (w : World) (e : Ending) (w' : World) : Prop := ∃ (pb m : Nat) (r : Int) (K : KS) (D : DevS), e = .returned (.pointer (some ⟨pb, 0, none⟩)) ∧ KInv (frOf w) w' pb 0 K D ∧ D.pu = p0 m r ∧ K.q.rds = [] ∧ 1 ≤ r ∧ r ≤ 6 ∧ 1 ≤ m ∧ m ≤ 3 ∧ K.q.room = r

set_option maxRecDepth 100000 in
set_option maxHeartbeats 4000000 in
theorem kbegan (w : World) (a b : Int) (ha0 : -9223372036854775808 ≤ a) (ha1 : a ≤ 9223372036854775807) (hb0 : -9223372036854775808 ≤ b) (hb1 : b ≤ 9223372036854775807) :
    Calls Try.prog 15 #[.int .i64 a, .int .i64 b] w fun e w' => KBeganPost w e w' := by
  have P3 : Hid (∀ W, Calls Try.prog 14 #[.int .i64 a, .int .i64 3] W fun e w' => e = .returned (.int .i64 (pickK a 3 : Int)) ∧ W = w') := fun W => kpickI W a 3 3 rfl ha0 ha1 (by omega) (by omega)
  have P6 : Hid (∀ W, Calls Try.prog 14 #[.int .i64 b, .int .i64 6] W fun e w' => e = .returned (.int .i64 (pickK b 6 : Int)) ∧ W = w') := fun W => kpickI W b 6 6 rfl hb0 hb1 (by omega) (by omega)
  have l3 := pickK_lt a (n := 3) (by omega)
  have l6 := pickK_lt b (n := 6) (by omega)
  generalize pickK a 3 = p3 at *
  generalize pickK b 6 = p6 at *
  have HNW : Hid (∀ W, Calls Try.prog 29 #[.int .i64 (1 + (p3 : Int)), .int .i64 (1 + (p6 : Int))] W fun e w' => DNewPost W (1 + p3) (1 + (p6 : Int)) e w') := fun W => by
    have := dnew (1 + p3) (1 + (p6 : Int)) W (by omega) (by omega) (by omega) (by omega)
    simpa using this
  obtain ⟨i0, hi, hz0, hz1, hz2⟩ := info_parts Try.infoState8
  have HI : Hid (Try.prog.info? 29 = some i0 ∧ i0.zero = some (.agg #[.int .i32 0, .int .i32 0, .int .i32 0, .int .i32 0, .int .i32 0, .int .i32 0, .int .i32 0, .int .i32 0]) ∧ i0.size = 8 ∧ i0.bytes = 32) := ⟨hi, hz0, hz1, hz2⟩
  obtain ⟨i1, hi', hz0', hz1', hz2'⟩ := info_parts Try.infoTick1
  have HI1 : Hid (Try.prog.info? 3 = some i1 ∧ i1.zero = some (.int .i64 0) ∧ i1.size = 1 ∧ i1.bytes = 8) := ⟨hi', hz0', hz1', hz2'⟩
  clear hi hz0 hz1 hz2 hi' hz0' hz1' hz2' ha0 ha1 hb0 hb1
  have b1 : 0 + 1 ≤ maxLen := by unfold maxLen; omega
  go_enter Try.func15, Try.ntmps15
  go_wp2_with first
    | (go_at_call_of 14 (Value.int .i64 3); refine (P3.out _).mono ?_; rintro e w' ⟨rfl, rfl⟩)
    | (go_at_call_of 14 (Value.int .i64 6); refine (P6.out _).mono ?_; rintro e w' ⟨rfl, rfl⟩)
  have HB0 : Hid (Kept (fun _ => False) w (w.alloc (.cells #[.pointer none, .int .i64 (1 + (p3 : Int)), .int .i64 (1 + (p6 : Int)), .slice none 0 0, .slice none 0 0, .int .i64 0, .slice none 0 0, .int .i64 0, .bool false] 46)) ∧ Blk (w.alloc (.cells #[.pointer none, .int .i64 (1 + (p3 : Int)), .int .i64 (1 + (p6 : Int)), .slice none 0 0, .slice none 0 0, .int .i64 0, .slice none 0 0, .int .i64 0, .bool false] 46)) w.heap.size 46 #[.pointer none, .int .i64 (1 + (p3 : Int)), .int .i64 (1 + (p6 : Int)), .slice none 0 0, .slice none 0 0, .int .i64 0, .slice none 0 0, .int .i64 0, .bool false]) := ⟨Kept.alloc _ _ _, Blk.new _ _ _⟩
  generalize w.alloc (.cells #[.pointer none, .int .i64 (1 + (p3 : Int)), .int .i64 (1 + (p6 : Int)), .slice none 0 0, .slice none 0 0, .int .i64 0, .slice none 0 0, .int .i64 0, .bool false] 46) = W at HB0 ⊢
  have e1 : W.cell? ⟨w.heap.size, 1, none⟩ = some (.int .i64 (1 + (p3 : Int))) := HB0.out.2.cell 1
  have e2 : W.cell? ⟨w.heap.size, 2, none⟩ = some (.int .i64 (1 + (p6 : Int))) := HB0.out.2.cell 2
  have hlt : w.heap.size < W.heap.size := HB0.out.2.lt
  have HC0 : Hid (∀ w2 vn, NewDL W w2 (1 + (p6 : Int)) (1 + p3) vn → KCore (frOf w) ((w2.setCell ⟨w.heap.size, 0, none⟩ (.pointer (some ⟨W.heap.size, 0, none⟩))).setCell ⟨w.heap.size, 8, none⟩ (.bool true)) w.heap.size (k0 W.heap.size (1 + p3) (1 + (p6 : Int)) true) (newD (1 + (p6 : Int)) (1 + p3) vn)) := fun w2 vn hN => by
    have hC := k0_core (mi := 1 + (p3 : Int)) (m := 1 + p3) (by simp) HB0.out.1 HB0.out.2 hN
    exact hC.turn (hC.keep.setOwn (K' := k0 W.heap.size (1 + p3) (1 + (p6 : Int)) true) 8 (.bool true) rfl rfl) rfl
  have HX1 : Hid (∀ (WA W1 w' : World) (v' vn : Value), KCore (frOf w) WA w.heap.size (k0 W.heap.size (1 + p3) (1 + (p6 : Int)) true) (newD (1 + (p6 : Int)) (1 + p3) vn) → Kept (fun _ => False) WA W1 → Appended W1 w' 29 8 (.slice none 0 0) v' 0 1 [] (stL fun _ => 0) → (w'.cell? ⟨w.heap.size, 3, none⟩ = some (.slice none 0 0) ∧ w'.cell? ⟨w.heap.size, 4, none⟩ = some (.slice none 0 0) ∧ (∀ i, w'.frozen? ⟨w.heap.size, i, none⟩ = false)) ∧ KCore (frOf w) (w'.setCell ⟨w.heap.size, 3, none⟩ v') w.heap.size { k0 W.heap.size (1 + p3) (1 + (p6 : Int)) true with states := [fun _ => 0], vs := v' } (newD (1 + (p6 : Int)) (1 + p3) vn)) := by
    intro WA W1 w' v' vn hC hk hA
    obtain ⟨hblk, hA2⟩ := hC.keep.appIn 0 ⟨29, 8, nilV, 0, []⟩ rfl rfl hk hA
    exact ⟨⟨hblk.cell 3, hblk.cell 4, fun i => hblk.free i⟩, hC.turn (hC.keep.pushS (fun _ => 0) v' hA2) rfl⟩
  have HX2 : Hid (∀ (WA W1 w' : World) (v' u' vn : Value), KCore (frOf w) WA w.heap.size { k0 W.heap.size (1 + p3) (1 + (p6 : Int)) true with states := [fun _ => 0], vs := v' } (newD (1 + (p6 : Int)) (1 + p3) vn) → Kept (fun _ => False) WA W1 → Appended W1 w' 3 1 (.slice none 0 0) u' 0 1 [] (tickC 0) → (∀ i, w'.frozen? ⟨w.heap.size, i, none⟩ = false) ∧ w'.cell? ⟨w.heap.size, 4, none⟩ = some (.slice none 0 0) ∧ KBeganPost w (.returned (.pointer (some ⟨w.heap.size, 0, none⟩))) (w'.setCell ⟨w.heap.size, 4, none⟩ u')) := by
    intro WA W1 w' v' u' vn hC hk hA
    obtain ⟨hblk, hA2⟩ := hC.keep.appIn 1 ⟨3, 1, nilV, 0, []⟩ rfl rfl hk hA
    have hC2 := hC.turn (hC.keep.pushT 0 u' hA2) rfl
    have hpu : (newD (1 + (p6 : Int)) (1 + p3) vn).pu = p0 (1 + p3) (1 + (p6 : Int)) := by simp [DevS.pu, newD, p0, newDN]
    refine ⟨fun i => hblk.free i, hblk.cell 4, w.heap.size, 1 + p3, 1 + (p6 : Int), { k0 W.heap.size (1 + p3) (1 + (p6 : Int)) true with states := [fun _ => 0], vs := v', ticks := [0], vt := u' }, newD (1 + (p6 : Int)) (1 + p3) vn, rfl, ⟨hC2, ?_, rfl, rfl⟩, hpu, rfl, by omega, by omega, by omega, by omega, rfl⟩
    rw [hpu]
    exact k0_ki W.heap.size (1 + p3) (1 + (p6 : Int)) v' u' (by omega) (by omega) (by omega) (by omega)
  have v0 := drew_cell0 e1
  have v1 := drew_cell0 e2
  go_region_held3 (fun w' => w'.cell? ⟨w.heap.size, 1, none⟩ = some (.int .i64 (1 + (p3 : Int))) ∧ w'.cell? ⟨w.heap.size, 2, none⟩ = some (.int .i64 (1 + (p6 : Int)))) (first | with_reducible exact ⟨s0, s1⟩ | with_reducible exact ⟨v0, v1⟩ | fail) ((go_at_call 29; refine (HNW.out _).mono ?_; rintro e w2 ⟨rfl, vn, hN⟩; have s0 := hN.kept.hold v0; have s1 := hN.kept.hold v1; have HN2 : Hid (NewDL W w2 (1 + (p6 : Int)) (1 + p3) vn) := ⟨hN.dev, kdrew1 hN.kept, hN.own⟩; clear hN))
  all_goals
    have HBK : Hid (Blk w2 w.heap.size 46 #[.pointer none, .int .i64 (1 + (p3 : Int)), .int .i64 (1 + (p6 : Int)), .slice none 0 0, .slice none 0 0, .int .i64 0, .slice none 0 0, .int .i64 0, .bool false]) := HB0.out.2.kept HN2.out.kept id
    have g3 : w2.cell? ⟨w.heap.size, 3, none⟩ = some (.slice none 0 0) := HBK.out.cell 3
    have g0 : w2.cell? ⟨w.heap.size, 0, none⟩ = some (.pointer none) := HBK.out.cell 0
    have g8 : w2.cell? ⟨w.heap.size, 8, none⟩ = some (.bool false) := HBK.out.cell 8
    have gf : ∀ i, w2.frozen? ⟨w.heap.size, i, none⟩ = false := fun i => HBK.out.free i
    have HC1 := HC0.out w2 vn HN2.out
    have HC2 : Hid (KCore (frOf w) ((w2.setCell ⟨w.heap.size, 0, none⟩ (.pointer (some ⟨W.heap.size, 0, none⟩))).setCell ⟨w.heap.size, 8, none⟩ (.bool true)) w.heap.size (k0 W.heap.size (1 + p3) (1 + (p6 : Int)) true) (newD (1 + (p6 : Int)) (1 + p3) vn)) := HC1
    have HY1 : Hid (∀ (ob : Obj) (w' : World) (v' : Value), Appended ((((w2.setCell ⟨w.heap.size, 0, none⟩ (.pointer (some ⟨W.heap.size, 0, none⟩))).setCell ⟨w.heap.size, 8, none⟩ (.bool true))).alloc ob) w' 29 8 (.slice none 0 0) v' 0 1 [] (stL fun _ => 0) → (w'.cell? ⟨w.heap.size, 3, none⟩ = some (.slice none 0 0) ∧ w'.cell? ⟨w.heap.size, 4, none⟩ = some (.slice none 0 0) ∧ (∀ i, w'.frozen? ⟨w.heap.size, i, none⟩ = false)) ∧ Hid (KCore (frOf w) (w'.setCell ⟨w.heap.size, 3, none⟩ v') w.heap.size { k0 W.heap.size (1 + p3) (1 + (p6 : Int)) true with states := [fun _ => 0], vs := v' } (newD (1 + (p6 : Int)) (1 + p3) vn))) := fun ob w' v' hA => HX1.out _ _ w' v' vn HC2.out (Kept.alloc _ _ _) hA
    clear HC1 s0 s1 v0 v1 e1 e2
    go_wp2_with first
      | (at_builtin; refine wpList_append_mine _ rfl (.tmp 45) (.tmp 47) 43 rfl 29 i0 (.agg #[.int .i32 0, .int .i32 0, .int .i32 0, .int .i32 0, .int .i32 0, .int .i32 0, .int .i32 0, .int .i32 0]) 8 32 Try.underlying43 HI.out.1 HI.out.2.1 HI.out.2.2.1 HI.out.2.2.2 rfl (by decide) (.slice none 0 0) 0 [] rfl (Row.nil _ _ _) ⟨w2.heap.size, 0, none⟩ 1 1 (stL fun _ => 0) rfl rfl (fun i u hj => by simpa using news_st ((w2.setCell ⟨w.heap.size, 0, none⟩ (.pointer (some ⟨W.heap.size, 0, none⟩))).setCell ⟨w.heap.size, 8, none⟩ (.bool true)) (fun _ => 0) _ i u hj) (oneCell_st _) b1 (by omega) ?_; intro v' w3 hA; obtain ⟨⟨q3, q4, qf⟩, HK3⟩ := HY1.out _ _ _ hA; obtain ⟨ao', cap', hv', _⟩ := hA.row.form; clear hA; subst hv')
      | (at_builtin; refine wpList_append_mine _ rfl (.tmp 55) (.tmp 56) 36 rfl 3 i1 (.int .i64 0) 1 8 Try.underlying36 HI1.out.1 HI1.out.2.1 HI1.out.2.2.1 HI1.out.2.2.2 rfl (by decide) (.slice none 0 0) 0 [] rfl (Row.nil _ _ _) ⟨w3.heap.size, 0, none⟩ 1 1 (tickC 0) rfl rfl (fun i u hj => by simpa using news_tk (w3.setCell ⟨w.heap.size, 3, none⟩ (.slice ao' (0 + 1) cap')) 0 _ i u hj) (oneCell_tk _) b1 (by omega) ?_; intro u' w4 hA; obtain ⟨rf, r4, HFN⟩ := HX2.out _ _ w4 _ u' vn HK3.out (Kept.alloc _ _ _) hA; obtain ⟨ao2, cap2, hv2, _⟩ := hA.row.form; clear hA; subst hv2)
    go_ret
    exact HFN

end Go.Proofs.Ytpfcacedpkaihaa
