import Derived.Test.YtpfcacedpkaihabKm
import Derived.Test.YtpfcacedpkaihabKe
import Derived.Test.YtpfcacedpkaihabKh
import Derived.Test.YtpfcacedpkaihabKf
import Derived.Test.YtpfcacedpkaihabKkKl
import Derived.Deep.RegionHeld3
import Derived.Test.YtpfcacedpkaihabKb
import Derived.Test.YtpfcacedpkaihabRows
import Derived.ProofKit
import Derived.OpenShut
import Derived.ShutString
import Derived.ChangeOld
import Derived.Below
import Derived.JoinedCond
/- The keeping laws' own functions (package almanackeep): step, walked. -/
namespace Go.Proofs.Ytpfcacedpkaihab
open Go.RowKit

set_option maxRecDepth 100000 in
set_option maxHeartbeats 4000000 in
theorem kstep (w0 : Fr) (w : World) (pb n : Nat) (K : KS) (D : DevS) (o : StE) (h : KInv w0 w pb n K D) (ho : StOk w o) (hT : ∀ rd ∈ K.q.rds, rd.told.length ≤ n) (hn : n ≤ 1048576) :
    Calls Try.prog 6 #[.pointer (some ⟨pb, 0, none⟩), .agg #[.int .i64 o.kd, .int .i64 o.b, .int .i64 o.c, .string o.s, .slice o.ka o.kn o.kc, .slice o.va o.vn o.vc]] w fun e w' => e = .returned (.tuple #[]) ∧ KPost w0 pb n K D w' := by
  have hn' : n < 9223372036854775807 := by omega
  have H1 : Hid (∀ W, Kept (fun _ => False) w W → Calls Try.prog 22 #[.pointer (some ⟨pb, 0, none⟩), .agg #[.int .i64 o.kd, .int .i64 o.b, .int .i64 o.c, .string o.s, .slice o.ka o.kn o.kc, .slice o.va o.vn o.vc]] W fun e w' => e = .returned (.tuple #[]) ∧ KPost w0 pb n K D w') := fun W hW => kcommit w0 W pb n K D o (h.kept hW) (ho.kept hW) hn'
  have H2 : Hid (∀ W, Kept (fun _ => False) w W → Calls Try.prog 10 #[.pointer (some ⟨pb, 0, none⟩)] W fun e w' => e = .returned (.tuple #[]) ∧ KPost w0 pb n K D w') := fun W hW => ktick w0 W pb n K D (h.kept hW) hn'
  have H3 : Hid (∀ W, Kept (fun _ => False) w W → Calls Try.prog 23 #[.pointer (some ⟨pb, 0, none⟩), .int .i64 o.b] W fun e w' => e = .returned (.tuple #[]) ∧ KPost w0 pb n K D w') := fun W hW => kbegin w0 W pb n K D o.b (h.kept hW) hn'
  have H4 : Hid (∀ W, Kept (fun _ => False) w W → Calls Try.prog 24 #[.pointer (some ⟨pb, 0, none⟩), .agg #[.int .i64 o.kd, .int .i64 o.b, .int .i64 o.c, .string o.s, .slice o.ka o.kn o.kc, .slice o.va o.vn o.vc]] W fun e w' => e = .returned (.tuple #[]) ∧ KPost w0 pb n K D w') := fun W hW => kread w0 W pb n K D o (h.kept hW) (ho.kept hW) hT hn
  have H5 : Hid (∀ W, Kept (fun _ => False) w W → Calls Try.prog 25 #[.pointer (some ⟨pb, 0, none⟩), .agg #[.int .i64 o.kd, .int .i64 o.b, .int .i64 o.c, .string o.s, .slice o.ka o.kn o.kc, .slice o.va o.vn o.vc]] W fun e w' => e = .returned (.tuple #[]) ∧ KPost w0 pb n K D w') := fun W hW => krest w0 W pb n K D o (h.kept hW) (ho.kept hW) hn'
  clear h ho hT hn hn'
  by_cases k1 : o.kd = 1
  · have q1 : ((o.kd : Int) == 1) = true := beq_iff_eq.mpr k1
    clear k1 H2 H3 H4 H5
    go_enter Try.func6, Try.ntmps6
    go_wp2_with (go_at_call 22; refine (H1.out _ (Kept.alloc _ _ _)).mono ?_; rintro e w1 ⟨rfl, hp⟩)
    go_end0
    exact ⟨rfl, hp⟩
  · have q1 : ((o.kd : Int) == 1) = false := beq_eq_false_iff_ne.mpr k1
    by_cases k2 : o.kd = 2
    · have q2 : ((o.kd : Int) == 2) = true := beq_iff_eq.mpr k2
      clear k1 k2 H1 H3 H4 H5
      go_enter Try.func6, Try.ntmps6
      go_wp2_with (go_at_call 10; refine (H2.out _ (Kept.alloc _ _ _)).mono ?_; rintro e w1 ⟨rfl, hp⟩)
      go_end0
      exact ⟨rfl, hp⟩
    · have q2 : ((o.kd : Int) == 2) = false := beq_eq_false_iff_ne.mpr k2
      by_cases k3 : o.kd = 3
      · have q3 : ((o.kd : Int) == 3) = true := beq_iff_eq.mpr k3
        clear k1 k2 k3 H1 H2 H4 H5
        go_enter Try.func6, Try.ntmps6
        go_wp2_with (go_at_call 23; refine (H3.out _ (Kept.alloc _ _ _)).mono ?_; rintro e w1 ⟨rfl, hp⟩)
        go_end0
        exact ⟨rfl, hp⟩
      · have q3 : ((o.kd : Int) == 3) = false := beq_eq_false_iff_ne.mpr k3
        by_cases k4 : o.kd = 4
        · have q4 : ((o.kd : Int) == 4) = true := beq_iff_eq.mpr k4
          clear k1 k2 k3 k4 H1 H2 H3 H5
          go_enter Try.func6, Try.ntmps6
          go_wp2_with (go_at_call 24; refine (H4.out _ (Kept.alloc _ _ _)).mono ?_; rintro e w1 ⟨rfl, hp⟩)
          go_end0
          exact ⟨rfl, hp⟩
        · have q4 : ((o.kd : Int) == 4) = false := beq_eq_false_iff_ne.mpr k4
          clear k1 k2 k3 k4 H1 H2 H3 H4
          go_enter Try.func6, Try.ntmps6
          go_wp2_with (go_at_call 25; refine (H5.out _ (Kept.alloc _ _ _)).mono ?_; rintro e w1 ⟨rfl, hp⟩)
          go_end0
          exact ⟨rfl, hp⟩

/-- how long what a reader was told may be. -/
theorem KStep.told {Q Q' : KQ} {P P' : DP} {n : Nat} (h : KStep Q P Q' P') (hT : ∀ rd ∈ Q.rds, rd.told.length ≤ n) : ∀ rd ∈ Q'.rds, rd.told.length ≤ n + 1 := by
  have base : ∀ rd ∈ Q.rds, rd.told.length ≤ n + 1 := fun rd hr => Nat.le_succ_of_le (hT rd hr)
  have one : ∀ (l : List KR) (r : Nat) (x : KR), (∀ rd ∈ l, rd.told.length ≤ n + 1) → x.told.length ≤ n + 1 → ∀ rd ∈ l.set r x, rd.told.length ≤ n + 1 := fun l r x hl hx rd hrd => by
    rcases List.mem_or_eq_of_mem_set hrd with h' | rfl
    · exact hl rd h'
    · exact hx
  cases h with
  | start limit lo j h1 h2 h3 h4 h5 h6 =>
    intro rd hrd
    simp only [List.mem_append, List.mem_singleton] at hrd
    rcases hrd with hrd | rfl
    · exact base rd hrd
    · exact Nat.zero_le _
  | hit r j i q ts s x rd h1 h2 h3 h4 h5 h6 h7 h8 h9 => exact one _ _ _ base (by have := hT rd (List.mem_of_getElem? h1); simp; exact this)
  | miss r j q ts s rd h1 h2 h3 h4 h5 h6 h7 h8 => exact one _ _ _ base (by have := hT rd (List.mem_of_getElem? h1); simp; exact this)
  | stop r j rd h1 h2 h3 h4 h5 => exact one _ _ _ base (base rd (List.mem_of_getElem? h1))
  | _ => exact base

end Go.Proofs.Ytpfcacedpkaihab

/- The keeping laws' own functions (package almanackeep): began, walked. -/
namespace Go.Proofs.Ytpfcacedpkaihab
open Go.RowKit

def frOf (w : World) : Fr := ⟨w, fun i => i < w.heap.size, fun _ h => h⟩
theorem frOf_is {w w' : World} (k : Kept (fun _ => False) w w') : (frOf w).Is w' := ⟨k.os, k.tape, k.output, k.size, fun i hi => k.block i hi id⟩

/-- a law's memory at its beginning: no state yet, no tick. -/
def k0 (xb : Nat) (m : Nat) (r : Int) (ok : Bool) : KS := ⟨xb, m, r, [], [], 0, [], 0, ok, nilV, nilV, nilV⟩
def p0 (m : Nat) (r : Int) : DP := ⟨0, [], 0, fun _ => ⟨false, 0, 0, 0⟩, [], List.replicate m (newP r)⟩

theorem newP_good {r : Int} (h1 : 1 ≤ r) (h2 : r ≤ 6) : (newP r).Good 0 0 :=
  ⟨h1, h2, Nat.le_refl _, by simp [newP], by simp [newP], by simp [newP], by simp [newP]; omega, by simp [newP], by simp [newP], by simp [newP], by simp [newP], by simp [newP]⟩
theorem p0_good {m : Nat} {r : Int} (h1 : 1 ≤ r) (h2 : r ≤ 6) (hm : 1 ≤ m) (hm3 : m ≤ 3) : (p0 m r).Good 0 :=
  ⟨by simp [p0], by simp [p0], by simp [p0], by simp [p0], by simp [p0], by simp [p0]; omega, by simp [p0]; omega, fun s hs => by
    have : s = newP r := List.eq_of_mem_replicate hs
    subst this
    exact newP_good h1 h2, by simp [p0]⟩
theorem k0_ki (xb m : Nat) (r : Int) (vs vt : Value) (h1 : 1 ≤ r) (h2 : r ≤ 6) (hm : 1 ≤ m) (hm3 : m ≤ 3) : KI ({ k0 xb m r true with states := [fun _ => 0], ticks := [0], vs := vs, vt := vt } : KS).q (p0 m r) 0 := by
  refine ⟨p0_good h1 h2 hm hm3, by simp [KS.q, k0, p0], rfl, rfl, rfl, [], ⟨rfl, ?_, ?_, ?_, ?_, ?_⟩, rfl⟩
  · intro i hi hr; simp [p0] at hr
  · intro j x hx; simp at hx
  · intro i k hi hk hr; simp [p0] at hr
  · simp [openN, seatN, p0]
  · intro x hx; simp at hx

theorem k0_core {w W w2 : World} {m : Nat} {r mi : Int} {vn : Value} (hmi : mi = (m : Int)) (hk : Kept (fun _ => False) w W) (hb : Blk W w.heap.size 30 #[.pointer none, .int .i64 mi, .int .i64 r, .slice none 0 0, .slice none 0 0, .int .i64 0, .slice none 0 0, .int .i64 0, .bool false]) (hN : NewDL W w2 r m vn) :
    KCore (frOf w) (w2.setCell ⟨w.heap.size, 0, none⟩ (.pointer (some ⟨W.heap.size, 0, none⟩))) w.heap.size (k0 W.heap.size m r false) (newD r m vn) := by
  subst hmi
  have hlt := hb.lt
  have hkk : Kept (fun _ => False) w w2 := hk.trans hN.kept (fun _ => id) (fun _ _ => id)
  have kfp : ∀ k, (k0 W.heap.size m r false).fp w.heap.size k → k = w.heap.size := by
    rintro k (e | ⟨a, ha, hx⟩)
    · exact e
    · simp only [KS.rows, k0, List.map_nil, List.mem_cons, List.not_mem_nil, or_false] at ha
      rcases ha with rfl | rfl | rfl <;> simp [nilV, Value.ownBlock] at hx
  have dfp : ∀ k, (newD r m vn).fp W.heap.size k → W.heap.size ≤ k := by
    intro k hk'
    rcases newD_fp hk' with e | e
    · omega
    · exact hN.own k e
  have k2 := Kept.setCell w2 ⟨w.heap.size, 0, none⟩ (.pointer (some ⟨W.heap.size, 0, none⟩))
  refine ⟨frOf_is (hkk.setNew _ _ _ (Nat.le_refl _)), ⟨?_, ?_⟩, hN.dev.kept k2 (fun j hj he => by have := dfp j hj; simp only at he; omega), fun k h1 h2 => by have := kfp k h1; have := dfp k h2; omega, fun k h1 => by have := kfp k h1; show ¬ k < w.heap.size; omega, fun k h2 => by have := dfp k h2; show ¬ k < w.heap.size; omega⟩
  · have := (hb.kept hN.kept id).set 0 (.pointer (some ⟨W.heap.size, 0, none⟩))
    exact this
  · refine rows_nil fun a ha => ?_
    simp only [KS.rows, k0, List.map_nil, List.mem_cons, List.not_mem_nil, or_false] at ha
    rcases ha with rfl | rfl | rfl <;> exact ⟨rfl, rfl, rfl⟩

def KBeganPost (w : World) (e : Ending) (w' : World) : Prop := ∃ (pb m : Nat) (r : Int) (K : KS) (D : DevS), e = .returned (.pointer (some ⟨pb, 0, none⟩)) ∧ KInv (frOf w) w' pb 0 K D ∧ D.pu = p0 m r ∧ K.q.rds = [] ∧ 1 ≤ r ∧ r ≤ 6 ∧ 1 ≤ m ∧ m ≤ 3 ∧ K.q.room = r

set_option maxRecDepth 100000 in
set_option maxHeartbeats 4000000 in
theorem kbegan (w : World) (a b : Int) (ha0 : -9223372036854775808 ≤ a) (ha1 : a ≤ 9223372036854775807) (hb0 : -9223372036854775808 ≤ b) (hb1 : b ≤ 9223372036854775807) :
    Calls Try.prog 4 #[.int .i64 a, .int .i64 b] w fun e w' => KBeganPost w e w' := by
  have P3 : Hid (∀ W, Calls Try.prog 18 #[.int .i64 a, .int .i64 3] W fun e w' => e = .returned (.int .i64 (pickK a 3 : Int)) ∧ W = w') := fun W => kpickI W a 3 3 rfl ha0 ha1 (by omega) (by omega)
  have P6 : Hid (∀ W, Calls Try.prog 18 #[.int .i64 b, .int .i64 6] W fun e w' => e = .returned (.int .i64 (pickK b 6 : Int)) ∧ W = w') := fun W => kpickI W b 6 6 rfl hb0 hb1 (by omega) (by omega)
  have l3 := pickK_lt a (n := 3) (by omega)
  have l6 := pickK_lt b (n := 6) (by omega)
  generalize pickK a 3 = p3 at *
  generalize pickK b 6 = p6 at *
  have HNW : Hid (∀ W, Calls Try.prog 19 #[.int .i64 (1 + (p3 : Int)), .int .i64 (1 + (p6 : Int))] W fun e w' => DNewPost W (1 + p3) (1 + (p6 : Int)) e w') := fun W => by
    have := dnew (1 + p3) (1 + (p6 : Int)) W (by omega) (by omega) (by omega) (by omega)
    simpa using this
  obtain ⟨i0, hi, hz0, hz1, hz2⟩ := info_parts Try.infoState8
  have HI : Hid (Try.prog.info? 64 = some i0 ∧ i0.zero = some (.agg #[.int .i32 0, .int .i32 0, .int .i32 0, .int .i32 0, .int .i32 0, .int .i32 0, .int .i32 0, .int .i32 0]) ∧ i0.size = 8 ∧ i0.bytes = 32) := ⟨hi, hz0, hz1, hz2⟩
  obtain ⟨i1, hi', hz0', hz1', hz2'⟩ := info_parts Try.infoTick1
  have HI1 : Hid (Try.prog.info? 3 = some i1 ∧ i1.zero = some (.int .i64 0) ∧ i1.size = 1 ∧ i1.bytes = 8) := ⟨hi', hz0', hz1', hz2'⟩
  clear hi hz0 hz1 hz2 hi' hz0' hz1' hz2' ha0 ha1 hb0 hb1
  have b1 : 0 + 1 ≤ maxLen := by unfold maxLen; omega
  go_enter Try.func4, Try.ntmps4
  go_wp2_with first
    | (go_at_call_of 18 (Value.int .i64 3); refine (P3.out _).mono ?_; rintro e w' ⟨rfl, rfl⟩)
    | (go_at_call_of 18 (Value.int .i64 6); refine (P6.out _).mono ?_; rintro e w' ⟨rfl, rfl⟩)
  have HB0 : Hid (Kept (fun _ => False) w (w.alloc (.cells #[.pointer none, .int .i64 (1 + (p3 : Int)), .int .i64 (1 + (p6 : Int)), .slice none 0 0, .slice none 0 0, .int .i64 0, .slice none 0 0, .int .i64 0, .bool false] 30)) ∧ Blk (w.alloc (.cells #[.pointer none, .int .i64 (1 + (p3 : Int)), .int .i64 (1 + (p6 : Int)), .slice none 0 0, .slice none 0 0, .int .i64 0, .slice none 0 0, .int .i64 0, .bool false] 30)) w.heap.size 30 #[.pointer none, .int .i64 (1 + (p3 : Int)), .int .i64 (1 + (p6 : Int)), .slice none 0 0, .slice none 0 0, .int .i64 0, .slice none 0 0, .int .i64 0, .bool false]) := ⟨Kept.alloc _ _ _, Blk.new _ _ _⟩
  generalize w.alloc (.cells #[.pointer none, .int .i64 (1 + (p3 : Int)), .int .i64 (1 + (p6 : Int)), .slice none 0 0, .slice none 0 0, .int .i64 0, .slice none 0 0, .int .i64 0, .bool false] 30) = W at HB0 ⊢
  have e1 : W.cell? ⟨w.heap.size, 1, none⟩ = some (.int .i64 (1 + (p3 : Int))) := HB0.out.2.cell 1
  have e2 : W.cell? ⟨w.heap.size, 2, none⟩ = some (.int .i64 (1 + (p6 : Int))) := HB0.out.2.cell 2
  have hlt : w.heap.size < W.heap.size := HB0.out.2.lt
  have HC0 : Hid (∀ w2 vn, NewDL W w2 (1 + (p6 : Int)) (1 + p3) vn → KCore (frOf w) ((w2.setCell ⟨w.heap.size, 0, none⟩ (.pointer (some ⟨W.heap.size, 0, none⟩))).setCell ⟨w.heap.size, 8, none⟩ (.bool true)) w.heap.size (k0 W.heap.size (1 + p3) (1 + (p6 : Int)) true) (newD (1 + (p6 : Int)) (1 + p3) vn)) := fun w2 vn hN => by
    have hC := k0_core (mi := 1 + (p3 : Int)) (m := 1 + p3) (by simp) HB0.out.1 HB0.out.2 hN
    exact hC.turn (hC.keep.setOwn (K' := k0 W.heap.size (1 + p3) (1 + (p6 : Int)) true) 8 (.bool true) rfl rfl) rfl
  have HX1 : Hid (∀ (WA W1 w' : World) (v' vn : Value), KCore (frOf w) WA w.heap.size (k0 W.heap.size (1 + p3) (1 + (p6 : Int)) true) (newD (1 + (p6 : Int)) (1 + p3) vn) → Kept (fun _ => False) WA W1 → Appended W1 w' 64 8 (.slice none 0 0) v' 0 1 [] (stL fun _ => 0) → (w'.cell? ⟨w.heap.size, 3, none⟩ = some (.slice none 0 0) ∧ w'.cell? ⟨w.heap.size, 4, none⟩ = some (.slice none 0 0) ∧ (∀ i, w'.frozen? ⟨w.heap.size, i, none⟩ = false)) ∧ KCore (frOf w) (w'.setCell ⟨w.heap.size, 3, none⟩ v') w.heap.size { k0 W.heap.size (1 + p3) (1 + (p6 : Int)) true with states := [fun _ => 0], vs := v' } (newD (1 + (p6 : Int)) (1 + p3) vn)) := by
    intro WA W1 w' v' vn hC hk hA
    obtain ⟨hblk, hA2⟩ := hC.keep.appIn 0 ⟨64, 8, nilV, 0, []⟩ rfl rfl hk hA
    exact ⟨⟨hblk.cell 3, hblk.cell 4, fun i => hblk.free i⟩, hC.turn (hC.keep.pushS (fun _ => 0) v' hA2) rfl⟩
  have HX2 : Hid (∀ (WA W1 w' : World) (v' u' vn : Value), KCore (frOf w) WA w.heap.size { k0 W.heap.size (1 + p3) (1 + (p6 : Int)) true with states := [fun _ => 0], vs := v' } (newD (1 + (p6 : Int)) (1 + p3) vn) → Kept (fun _ => False) WA W1 → Appended W1 w' 3 1 (.slice none 0 0) u' 0 1 [] (tickC 0) → (∀ i, w'.frozen? ⟨w.heap.size, i, none⟩ = false) ∧ w'.cell? ⟨w.heap.size, 4, none⟩ = some (.slice none 0 0) ∧ KBeganPost w (.returned (.pointer (some ⟨w.heap.size, 0, none⟩))) (w'.setCell ⟨w.heap.size, 4, none⟩ u')) := by
    intro WA W1 w' v' u' vn hC hk hA
    obtain ⟨hblk, hA2⟩ := hC.keep.appIn 1 ⟨3, 1, nilV, 0, []⟩ rfl rfl hk hA
    have hC2 := hC.turn (hC.keep.pushT 0 u' hA2) rfl
    have hpu : (newD (1 + (p6 : Int)) (1 + p3) vn).pu = p0 (1 + p3) (1 + (p6 : Int)) := by simp [DevS.pu, newD, p0, newDN]
    refine ⟨fun i => hblk.free i, hblk.cell 4, w.heap.size, 1 + p3, 1 + (p6 : Int), { k0 W.heap.size (1 + p3) (1 + (p6 : Int)) true with states := [fun _ => 0], vs := v', ticks := [0], vt := u' }, newD (1 + (p6 : Int)) (1 + p3) vn, rfl, ⟨hC2, ?_, rfl, rfl⟩, hpu, rfl, by omega, by omega, by omega, by omega, rfl⟩
    rw [hpu]
    exact k0_ki W.heap.size (1 + p3) (1 + (p6 : Int)) v' u' (by omega) (by omega) (by omega) (by omega)
  have v0 := drew_cell0 e1
  have v1 := drew_cell0 e2
  go_region_held3 (fun w' => w'.cell? ⟨w.heap.size, 1, none⟩ = some (.int .i64 (1 + (p3 : Int))) ∧ w'.cell? ⟨w.heap.size, 2, none⟩ = some (.int .i64 (1 + (p6 : Int)))) (first | with_reducible exact ⟨s0, s1⟩ | with_reducible exact ⟨v0, v1⟩ | fail) ((go_at_call 19; refine (HNW.out _).mono ?_; rintro e w2 ⟨rfl, vn, hN⟩; have s0 := hN.kept.hold v0; have s1 := hN.kept.hold v1; have HN2 : Hid (NewDL W w2 (1 + (p6 : Int)) (1 + p3) vn) := ⟨hN.dev, kdrew1 hN.kept, hN.own⟩; clear hN))
  all_goals
    have HBK : Hid (Blk w2 w.heap.size 30 #[.pointer none, .int .i64 (1 + (p3 : Int)), .int .i64 (1 + (p6 : Int)), .slice none 0 0, .slice none 0 0, .int .i64 0, .slice none 0 0, .int .i64 0, .bool false]) := HB0.out.2.kept HN2.out.kept id
    have g3 : w2.cell? ⟨w.heap.size, 3, none⟩ = some (.slice none 0 0) := HBK.out.cell 3
    have g0 : w2.cell? ⟨w.heap.size, 0, none⟩ = some (.pointer none) := HBK.out.cell 0
    have g8 : w2.cell? ⟨w.heap.size, 8, none⟩ = some (.bool false) := HBK.out.cell 8
    have gf : ∀ i, w2.frozen? ⟨w.heap.size, i, none⟩ = false := fun i => HBK.out.free i
    have HC1 := HC0.out w2 vn HN2.out
    have HC2 : Hid (KCore (frOf w) ((w2.setCell ⟨w.heap.size, 0, none⟩ (.pointer (some ⟨W.heap.size, 0, none⟩))).setCell ⟨w.heap.size, 8, none⟩ (.bool true)) w.heap.size (k0 W.heap.size (1 + p3) (1 + (p6 : Int)) true) (newD (1 + (p6 : Int)) (1 + p3) vn)) := HC1
    have HY1 : Hid (∀ (ob : Obj) (w' : World) (v' : Value), Appended ((((w2.setCell ⟨w.heap.size, 0, none⟩ (.pointer (some ⟨W.heap.size, 0, none⟩))).setCell ⟨w.heap.size, 8, none⟩ (.bool true))).alloc ob) w' 64 8 (.slice none 0 0) v' 0 1 [] (stL fun _ => 0) → (w'.cell? ⟨w.heap.size, 3, none⟩ = some (.slice none 0 0) ∧ w'.cell? ⟨w.heap.size, 4, none⟩ = some (.slice none 0 0) ∧ (∀ i, w'.frozen? ⟨w.heap.size, i, none⟩ = false)) ∧ Hid (KCore (frOf w) (w'.setCell ⟨w.heap.size, 3, none⟩ v') w.heap.size { k0 W.heap.size (1 + p3) (1 + (p6 : Int)) true with states := [fun _ => 0], vs := v' } (newD (1 + (p6 : Int)) (1 + p3) vn))) := fun ob w' v' hA => HX1.out _ _ w' v' vn HC2.out (Kept.alloc _ _ _) hA
    clear HC1 s0 s1 v0 v1 e1 e2
    go_wp2_with first
      | (at_builtin; refine wpList_append_mine _ rfl (.tmp 45) (.tmp 47) 26 rfl 64 i0 (.agg #[.int .i32 0, .int .i32 0, .int .i32 0, .int .i32 0, .int .i32 0, .int .i32 0, .int .i32 0, .int .i32 0]) 8 32 Try.underlying26 HI.out.1 HI.out.2.1 HI.out.2.2.1 HI.out.2.2.2 rfl (by decide) (.slice none 0 0) 0 [] rfl (Row.nil _ _ _) ⟨w2.heap.size, 0, none⟩ 1 1 (stL fun _ => 0) rfl rfl (fun i u hj => by simpa using news_st ((w2.setCell ⟨w.heap.size, 0, none⟩ (.pointer (some ⟨W.heap.size, 0, none⟩))).setCell ⟨w.heap.size, 8, none⟩ (.bool true)) (fun _ => 0) _ i u hj) (oneCell_st _) b1 (by omega) ?_; intro v' w3 hA; obtain ⟨⟨q3, q4, qf⟩, HK3⟩ := HY1.out _ _ _ hA; obtain ⟨ao', cap', hv', _⟩ := hA.row.form; clear hA; subst hv')
      | (at_builtin; refine wpList_append_mine _ rfl (.tmp 55) (.tmp 56) 27 rfl 3 i1 (.int .i64 0) 1 8 Try.underlying27 HI1.out.1 HI1.out.2.1 HI1.out.2.2.1 HI1.out.2.2.2 rfl (by decide) (.slice none 0 0) 0 [] rfl (Row.nil _ _ _) ⟨w3.heap.size, 0, none⟩ 1 1 (tickC 0) rfl rfl (fun i u hj => by simpa using news_tk (w3.setCell ⟨w.heap.size, 3, none⟩ (.slice ao' (0 + 1) cap')) 0 _ i u hj) (oneCell_tk _) b1 (by omega) ?_; intro u' w4 hA; obtain ⟨rf, r4, HFN⟩ := HX2.out _ _ w4 _ u' vn HK3.out (Kept.alloc _ _ _) hA; obtain ⟨ao2, cap2, hv2, _⟩ := hA.row.form; clear hA; subst hv2)
    go_ret
    exact HFN

end Go.Proofs.Ytpfcacedpkaihab

/- Opening a script (a list of steps of the keeping laws: three numbers, a text, two lists of numbers) that comes in as an argument. -/
namespace Go.Proofs.Ytpfcacedpkaihab
open Go.ChangeShapes Go.WideShapes Go.ChangeAt Go.RowKit

theorem Try.own : ownKnob Try.prog.godebug = none := by kernel_rfl
theorem Try.laidOut : laidOutB Try.prog = true := by kernel_rfl
theorem Try.cellsStep : Try.prog.cellsOf 33 = 6 := by kernel_rfl
theorem Try.cellsInt : Try.prog.cellsOf 3 = 1 := by kernel_rfl
theorem Try.cellsI32 : Try.prog.cellsOf 21 = 1 := by kernel_rfl
theorem Try.cellsStr : Try.prog.cellsOf 9 = 1 := by kernel_rfl
theorem Try.cellsIs : Try.prog.cellsOf 27 = 1 := by kernel_rfl
theorem Try.cellsI32s : Try.prog.cellsOf 31 = 1 := by kernel_rfl

theorem bulk_one {H : Type} (d : DataW H) : 1 ≤ Rows.uptoBulk d := by
  cases d with
  | lit l => cases l <;> simp [Rows.uptoBulk]
  | nil => simp [Rows.uptoBulk]
  | ptr d => simp [Rows.uptoBulk]
  | slice elems spare => simp [Rows.uptoBulk]
  | agg parts => simp [Rows.uptoBulk]
  | iface t d => simp [Rows.uptoBulk]
  | map entries => simp [Rows.uptoBulk]
  | held h => simp [Rows.uptoBulk]
theorem bulk_part {H : Type} {d : DataW H} {l : List (DataW H)} (h : d ∈ l) : Rows.uptoBulk d ≤ Rows.uptoBulkAll l := by
  induction l with
  | nil => cases h
  | cons x r ih =>
    simp only [Rows.uptoBulkAll]
    cases List.mem_cons.1 h with
    | inl e => subst e; omega
    | inr e => have := ih e; omega
theorem bulk_len {H : Type} (l : List (DataW H)) : l.length ≤ Rows.uptoBulkAll l := by
  induction l with
  | nil => simp [Rows.uptoBulkAll]
  | cons x r ih => have := bulk_one x; simp only [Rows.uptoBulkAll, List.length_cons]; omega

theorem choose_list {α : Type} (P : Nat → α → Prop) : ∀ n : Nat, (∀ i, i < n → ∃ x, P i x) → ∃ l : List α, l.length = n ∧ ∀ i (h : i < l.length), P i l[i]
  | 0, _ => ⟨[], rfl, fun i h => absurd h (Nat.not_lt_zero _)⟩
  | n + 1, h => by
    obtain ⟨l, hl, hp⟩ := choose_list P n fun i hi => h i (by omega)
    obtain ⟨x, hx⟩ := h n (by omega)
    refine ⟨l ++ [x], by simp [hl], fun i hi => ?_⟩
    by_cases e : i < l.length
    · rw [List.getElem_append_left e]; exact hp i e
    · have : i = n := by simp at hi; omega
      subst this
      rw [List.getElem_append_right (by omega)]
      simpa [hl] using hx

/-- a script in memory. -/
structure Sk (w : World) (ao : Option Addr) (n : Nat) (os : List StE) : Prop where
  len : os.length = n
  cell : ∀ j (h : j < os.length), ∃ bl off, ao = some ⟨bl, off, none⟩ ∧ bl < w.heap.size ∧ ∀ f, f < 6 → w.cell? ⟨bl, off + j * 6 + f, none⟩ = (stepC os[j])[f]?

section
variable {H : Type} {enc : TypeId × Value → H} {w : World} {fuel : Nat} {cs : List Value} {x : DataW H × List MemPlace}

theorem len6' {l : List Value} (h : l.length = 6) : ∃ a b c d e f, l = [a, b, c, d, e, f] := by
  match l, h with
  | [a, b, c, d, e, f], _ => exact ⟨a, b, c, d, e, f, rfl⟩
theorem add_off' (bl off j : Nat) : (⟨bl, off, none⟩ : Addr).add j = ⟨bl, off + j, none⟩ := by cases j <;> simp [Addr.add]
theorem addr_none' {a : Addr} {m : Nat} {c : List Value} (h : w.cells? 0 (a.add 0) (m + 1) = some c) : ∃ bl off, a = ⟨bl, off, none⟩ ∧ bl < w.heap.size := by
  obtain ⟨_, hl, hc⟩ := World.cells?_some h
  have h0 := hc 0 (by omega)
  rw [List.getElem?_eq_getElem (by omega)] at h0
  obtain ⟨bl, off, spot⟩ := a
  have hs : spot = none := by simpa [Addr.add] using World.cell?_spot h0
  subst hs
  refine ⟨bl, off, rfl, ?_⟩
  rw [add_off', add_off'] at h0
  exact World.block_lt_of_cell? w _ h0

/-- a list of numbers. -/
theorem open_ints {e T : TypeId} {k : IntKind} (hT : Try.prog.underlying T = some (.slice e)) (he : Try.prog.underlying e = some (.int k)) (hc : Try.prog.cellsOf e = 1) (h : DataW.trod enc Try.prog w 0 (fun _ => true) true fuel T cs = some x) (hs : Rows.uptoBulk x.1 ≤ 1048576) :
    ∃ (ao : Option Addr) (n cap : Nat), cs = [.slice ao n cap] ∧ n ≤ 1048576 ∧ ∀ j, j < n → ∃ (bl off : Nat) (v : Int), ao = some ⟨bl, off, none⟩ ∧ w.cell? ⟨bl, off + j, none⟩ = some (.int k v) ∧ (Lit.int k v).wf = true := by
  rcases DataW.trod_slice hT h with ⟨rfl, _⟩ | ⟨a, len, cap, elems, rest, n, _, rfl, rfl, _, hl, hm, hlen, hel, hsp, _⟩
  · exact ⟨none, 0, 0, rfl, by omega, fun j hj => absurd hj (Nat.not_lt_zero _)⟩
  · refine ⟨some a, len, cap, rfl, ?_, fun j hj => ?_⟩
    · have h1 := bulk_len (elems.map (·.1))
      simp only [Rows.uptoBulk] at hs
      rw [List.length_map, hlen] at h1
      omega
    · have row : ∀ i, i < len → ∃ ci y, w.cells? 0 (a.add i) 1 = some ci ∧ DataW.trod enc Try.prog w 0 (fun _ => true) true n e ci = some y := by
        intro i hi
        have h1 := hel i hi
        rw [List.getElem?_eq_getElem (by omega), hc, Nat.mul_one] at h1
        obtain ⟨ci, hci, htr⟩ := Option.bind_eq_some_iff.mp h1
        exact ⟨ci, _, hci, htr⟩
      obtain ⟨c0, _, hc0, _⟩ := row 0 (by omega)
      obtain ⟨bl, off, rfl, hb⟩ := addr_none' hc0
      obtain ⟨ci, y, hci, htr⟩ := row j hj
      obtain ⟨v, e1, _, bv⟩ := DataW.trod_int he htr
      obtain ⟨_, _, hcc⟩ := World.cells?_some hci
      have := hcc 0 (by omega)
      rw [add_off', add_off', e1] at this
      exact ⟨bl, off, v, rfl, this, bv⟩

set_option maxRecDepth 100000 in
/-- a step. -/
theorem open_step (h : DataW.trod enc Try.prog w 0 (fun _ => true) true fuel 33 cs = some x) (hs : Rows.uptoBulk x.1 ≤ 1048576) : ∃ o : StE, cs = stepC o ∧ StOk w o := by
  obtain ⟨xs, n, _, rfl, hl, hlen, hf⟩ := DataW.trod_struct Try.underlying33 h
  rw [Try.cellsStep] at hl
  clear h
  obtain ⟨c0, c1, c2, c3, c4, c5, rfl⟩ := len6' hl
  have hlen6 : xs.length = 6 := hlen
  have g0 := hf 0 _ rfl
  have g1 := hf 1 _ rfl
  have g2 := hf 2 _ rfl
  have g3 := hf 3 _ rfl
  have g4 := hf 4 _ rfl
  have g5 := hf 5 _ rfl
  have hpart : ∀ i (hi : i < xs.length), Rows.uptoBulk (xs[i]).1 ≤ 1048576 := fun i hi => by
    have h1 := bulk_part (d := (xs[i]).1) (l := xs.map (·.1)) (List.mem_map_of_mem (List.getElem_mem hi))
    simp only [Rows.uptoBulk] at hs
    omega
  rw [List.getElem?_eq_getElem (by omega)] at g0 g1 g2 g3 g4 g5
  obtain ⟨k0, e0, _, b0⟩ := DataW.trod_int Try.underlying3 g0
  obtain ⟨k1, e1, _, b1⟩ := DataW.trod_int Try.underlying3 g1
  obtain ⟨k2, e2, _, b2⟩ := DataW.trod_int Try.underlying3 g2
  obtain ⟨s, e3, hx3, hsz⟩ := DataW.trod_string Try.underlying9 g3
  obtain ⟨ka, kn, kc, e4, hk1, hk2⟩ := open_ints Try.underlying27 Try.underlying3 Try.cellsInt g4 (hpart 4 (by omega))
  obtain ⟨va, vn, vc, e5, hv1, hv2⟩ := open_ints Try.underlying31 Try.underlying21 Try.cellsI32 g5 (hpart 5 (by omega))
  have e0 : List.take (Try.prog.cellsOf 3) (List.drop 0 [c0, c1, c2, c3, c4, c5]) = [Value.int .i64 k0] := e0
  have e1 : List.take (Try.prog.cellsOf 3) (List.drop 1 [c0, c1, c2, c3, c4, c5]) = [Value.int .i64 k1] := e1
  have e2 : List.take (Try.prog.cellsOf 3) (List.drop 2 [c0, c1, c2, c3, c4, c5]) = [Value.int .i64 k2] := e2
  have e3 : List.take (Try.prog.cellsOf 9) (List.drop 3 [c0, c1, c2, c3, c4, c5]) = [Value.string s] := e3
  have e4 : List.take (Try.prog.cellsOf 27) (List.drop 4 [c0, c1, c2, c3, c4, c5]) = [Value.slice ka kn kc] := e4
  have e5 : List.take (Try.prog.cellsOf 31) (List.drop 5 [c0, c1, c2, c3, c4, c5]) = [Value.slice va vn vc] := e5
  rw [Try.cellsInt] at e0 e1 e2
  rw [Try.cellsStr] at e3
  rw [Try.cellsIs] at e4
  rw [Try.cellsI32s] at e5
  simp at e0 e1 e2 e3 e4 e5
  have bd1 := bounds_i64 b1
  have bd2 := bounds_i64 b2
  have hs3 : s.size ≤ 1048576 := by
    have h3 := hpart 3 (by omega)
    rw [hx3] at h3
    simp only [Rows.uptoBulk] at h3
    have e : s.data.toList.length = s.size := by rw [Array.length_toList]; rfl
    omega
  refine ⟨⟨k0, k1, k2, s, ka, kn, kc, va, vn, vc⟩, by simp [stepC, e0, e1, e2, e3, e4, e5], ⟨fun j hj => ?_, fun j hj => ?_, hk1, hv1, hs3, by dsimp only; omega, by dsimp only; omega, by dsimp only; omega, by dsimp only; omega⟩⟩
  · obtain ⟨bl, off, v, r1, r2, r3⟩ := hk2 j hj
    have bd := bounds_i64 r3
    exact ⟨bl, off, v, r1, r2, by omega, by omega⟩
  · obtain ⟨bl, off, v, r1, r2, r3⟩ := hv2 j hj
    exact ⟨bl, off, v, r1, r2⟩

/-- a script. -/
theorem open_steps (h : DataW.trod enc Try.prog w 0 (fun _ => true) true fuel 22 cs = some x) (hs : Rows.uptoBulk x.1 ≤ 1048576) :
    ∃ (ao : Option Addr) (n cap : Nat) (os : List StE), cs = [.slice ao n cap] ∧ Sk w ao n os ∧ n ≤ 1048576 ∧ ∀ o ∈ os, StOk w o := by
  rcases DataW.trod_slice Try.underlying22 h with ⟨rfl, _⟩ | ⟨a, len, cap, elems, rest, n, _, rfl, rfl, _, hl, hm, hlen, hel, hsp, _⟩
  · exact ⟨none, 0, 0, [], rfl, ⟨rfl, fun j hj => absurd hj (Nat.not_lt_zero _)⟩, by omega, fun o ho => by cases ho⟩
  · simp only [Rows.uptoBulk] at hs
    have hw : len ≤ 1048576 := by
      have h1 := bulk_len (elems.map (·.1))
      rw [List.length_map, hlen] at h1
      omega
    clear h
    by_cases h0 : 0 < len
    · have row : ∀ i, i < len → ∃ ci y, w.cells? 0 (a.add (i * 6)) 6 = some ci ∧ DataW.trod enc Try.prog w 0 (fun _ => true) true n 33 ci = some y ∧ elems[i]? = some y := by
        intro i hi
        have h1 := hel i hi
        rw [List.getElem?_eq_getElem (by omega), Try.cellsStep] at h1
        obtain ⟨ci, hci, htr⟩ := Option.bind_eq_some_iff.mp h1
        exact ⟨ci, _, hci, htr, List.getElem?_eq_getElem (by omega)⟩
      obtain ⟨c0, _, hc0, _⟩ := row 0 h0
      rw [Nat.zero_mul] at hc0
      obtain ⟨bl, off, rfl, hb⟩ := addr_none' hc0
      have each : ∀ i, i < len → ∃ o : StE, (∀ f, f < 6 → w.cell? ⟨bl, off + i * 6 + f, none⟩ = (stepC o)[f]?) ∧ StOk w o := by
        intro i hi
        obtain ⟨ci, y, hci, htr, hy⟩ := row i hi
        have hsy : Rows.uptoBulk y.1 ≤ 1048576 := by
          have h1 := bulk_part (d := y.1) (l := elems.map (·.1)) (List.mem_map_of_mem (List.mem_of_getElem? hy))
          omega
        obtain ⟨o, rfl, hok⟩ := open_step htr hsy
        obtain ⟨_, _, hc⟩ := World.cells?_some hci
        refine ⟨o, fun f hf => ?_, hok⟩
        have := hc f hf
        rwa [add_off', add_off'] at this
      obtain ⟨os, hol, hos⟩ := choose_list _ len each
      refine ⟨some ⟨bl, off, none⟩, len, cap, os, rfl, ⟨hol, fun j hj => ⟨bl, off, rfl, hb, (hos j hj).1⟩⟩, hw, fun o ho => ?_⟩
      obtain ⟨j, hj, rfl⟩ := List.getElem_of_mem ho
      exact (hos j hj).2
    · have e0 : len = 0 := by omega
      subst e0
      exact ⟨some a, 0, cap, [], rfl, ⟨rfl, fun j hj => absurd hj (Nat.not_lt_zero _)⟩, hw, fun o ho => by cases ho⟩

end

end Go.Proofs.Ytpfcacedpkaihab
