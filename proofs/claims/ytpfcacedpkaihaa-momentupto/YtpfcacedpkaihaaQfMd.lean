import Derived.Test.YtpfcacedpkaihaaQe
import Derived.Test.YtpfcacedpkaihaaVaVcMaMbMc
import Derived.Test.YtpfcacedpkaihaaKa
/- What almanac.Eval answers at every text in every state. -/
namespace Go.Proofs.Ytpfcacedpkaihaa
open Go.RowKit

theorem qEval_any (s : ByteArray) (x : Nat → Int) (w : World) (hs : s.size ≤ maxLen) :
    Calls Try.prog 27 #[.string s, .agg #[.int .i32 (x 0), .int .i32 (x 1), .int .i32 (x 2), .int .i32 (x 3), .int .i32 (x 4), .int .i32 (x 5), .int .i32 (x 6), .int .i32 (x 7)]] w fun e w' =>
      e = .returned (.tuple #[.int .i32 (evalL x (Q.readL s.data.toList).2), .int .i64 (Q.readL s.data.toList).1]) ∧ Below w.heap.size w w' := by
  rcases Q.readL_cases s.data.toList with h | h | ⟨us, h, r⟩
  · rw [h]; exact qEval_bad s x w 3 hs h
  · rw [h]; exact qEval_bad s x w 4 hs h
  · rw [h]; exact qEval_good s x w us h

set_option maxHeartbeats 400000 in
theorem aEval_any (s : ByteArray) (x : Nat → Int) (w : World) (hs : s.size ≤ maxLen) :
    Calls Try.prog 12 #[.string s, .agg #[.int .i32 (x 0), .int .i32 (x 1), .int .i32 (x 2), .int .i32 (x 3), .int .i32 (x 4), .int .i32 (x 5), .int .i32 (x 6), .int .i32 (x 7)]] w fun e w' =>
      e = .returned (.tuple #[.int .i32 (evalL x (Q.readL s.data.toList).2), .int .i64 (Q.readL s.data.toList).1]) ∧ Below w.heap.size w w' := by
  go_enter Try.func12, Try.ntmps12
  go_wp2_with (go_at_call 27; refine (qEval_any s x _ hs).mono ?_; rintro e w1 ⟨rfl, hb⟩)
  go_ret2
  exact ⟨rfl, (((Below.refl _ _).alloc (Nat.le_refl _) _).trans (hb.mono (by simp)))⟩

end Go.Proofs.Ytpfcacedpkaihaa

/- The law Moment (package almanackeep): 'one', walked. -/
namespace Go.Proofs.Ytpfcacedpkaihaa
open Go.RowKit

theorem said_at (l : List (ByteArray × Int)) (j : Nat) (hj : j < l.length) (f : Nat) (hf : f < 2) : (l.flatMap saidC)[j * 2 + f]? = (saidC l[j])[f]? := flat_at saidC 2 (fun _ => rfl) l j hj f hf
theorem st_at {K : KS} {l : List PastE} (h : K.states = (fun _ => 0) :: l.map PastE.st) (t : Nat) (ht : t ≤ l.length) : ∃ hlt : t < K.states.length, K.states[t] = stAt l t := by
  have hlt : t < K.states.length := by rw [h]; simp; omega
  refine ⟨hlt, ?_⟩
  have e : K.states[t]? = some (stAt l t) := by
    rw [h]
    cases t with
    | zero => rfl
    | succ t =>
      have hl : t < l.length := by omega
      rw [List.getElem?_cons_succ, List.getElem?_map, List.getElem?_eq_getElem hl, stAt_succ (List.getElem?_eq_getElem hl)]
      rfl
  rw [List.getElem?_eq_getElem hlt] at e
  injection e

set_option maxRecDepth 100000 in
set_option maxHeartbeats 2000000 in
theorem kone (w : World) (pb lo hi : Nat) (K : KS) (l : List PastE) (told : List (ByteArray × Int)) (tick limit : Int) (ta : Option Addr) (tc : Nat) (en : Bool) (h : Keep w pb K) (hrow : Row w 78 2 (.slice ta told.length tc) told.length (told.flatMap saidC)) (hst : K.states = (fun _ => 0) :: l.map PastE.st) (hlo : lo ≤ hi) (hhi : hi ≤ l.length) (hm : l.length ≤ 700) (hT : told.length ≤ 2000000) (hR : ∀ a ∈ told, RightS l a.1 a.2 lo hi) :
    Calls Try.prog 18 #[.pointer (some ⟨pb, 0, none⟩), .agg #[.int .i64 tick, .int .i64 limit, .slice ta told.length tc, .bool en], .agg #[.int .u64 (lo : Int), .int .u64 (hi : Int)]] w fun e w' => e = .returned (.bool true) ∧ Kept (fun _ => False) w w' := by
  have hsl : K.states.length = l.length + 1 := by rw [hst]; simp
  obtain ⟨g, cs, hvs, hog, _⟩ := h.states.block (by omega)
  rw [hsl] at hvs
  have HC : Hid (∀ W, Kept (fun _ => False) w W → W.cell? ⟨pb, 3, none⟩ = some (.slice (some ⟨g, 0, none⟩) (l.length + 1) cs) ∧ ∀ t, t ≤ l.length → ∀ f u, (stL (stAt l t))[f]? = some u → W.cell? ⟨g, t * 8 + f, none⟩ = some u) := fun W hW => by
    have hK := h.kept hW (fun _ _ => id)
    refine ⟨by rw [← hvs]; exact hK.c3, fun t ht f u hu => hK.states.cell hog _ u ?_⟩
    obtain ⟨hlt, e⟩ := st_at hst t ht
    have hf : f < 8 := (List.getElem?_eq_some_iff.mp hu).1
    rw [state_at K.states t hlt f hf, e]
    exact hu
  have HTD : Hid (∀ W, Kept (fun _ => False) w W → ∀ i (hi : i < told.length), ∃ gt, ta = some ⟨gt, 0, none⟩ ∧ W.cell? ⟨gt, i * 2, none⟩ = some (.string told[i].1) ∧ W.cell? ⟨gt, i * 2 + 1, none⟩ = some (.int .i32 told[i].2)) := fun W hW i hi => by
    have hr := hrow.kept hW (fun _ _ => id)
    obtain ⟨gt, c', e1, e2, _⟩ := hr.block (by omega)
    injection e1 with e1 _ _
    exact ⟨gt, e1, hr.cell e2 _ _ (by have := said_at told i hi 0 (by omega); rw [Nat.add_zero] at this; rw [this]; rfl), hr.cell e2 _ _ (by rw [said_at told i hi 1 (by omega)]; rfl)⟩
  have HNW : Hid (∀ W, Kept (fun _ => False) w W → Calls Try.prog 20 #[.pointer (some ⟨pb, 0, none⟩)] W fun e w' => e = .returned (.int .i64 (l.length : Int)) ∧ w' = W) := fun W hW => (knewest_c W pb _ l.length cs (HC.out W hW).1 (by omega)).mono fun e w' hp => ⟨hp.1, hp.2.symm⟩
  have HEV : Hid (∀ i (hi' : i < told.length) t, lo ≤ t → t ≤ hi → ∀ W, Calls Try.prog 12 #[.string told[i].1, .agg #[.int .i32 (stAt l t 0), .int .i32 (stAt l t 1), .int .i32 (stAt l t 2), .int .i32 (stAt l t 3), .int .i32 (stAt l t 4), .int .i32 (stAt l t 5), .int .i32 (stAt l t 6), .int .i32 (stAt l t 7)]] W fun e w' => e = .returned (.tuple #[.int .i32 told[i].2, .int .i64 0]) ∧ Kept (fun _ => False) W w') := fun i hi' t h1 h2 W => by
    obtain ⟨ts, hr, hv⟩ := hR told[i] (List.getElem_mem hi')
    have hl40 := readL_len hr
    have hql : told[i].1.data.toList.length = told[i].1.size := by rw [Array.length_toList]; rfl
    refine (aEval_any told[i].1 (stAt l t) W (by unfold maxLen; omega)).mono fun e w' hp => ⟨?_, Kept.of_below hp.2 _⟩
    rw [hp.1, hr]
    rw [← hv t h1 h2]
  have hlo' : decide ((hi : Int) < (lo : Int)) = false := decide_eq_false (by omega)
  have hhi' : decide ((l.length : Int) < (hi : Int)) = false := decide_eq_false (by omega)
  have hwh : IntKind.i64.wrap (hi : Int) = hi := by simp [IntKind.wrap, IntKind.bits, IntKind.signed]; omega
  have hwl : IntKind.i64.wrap (lo : Int) = lo := by simp [IntKind.wrap, IntKind.bits, IntKind.signed]; omega
  have hlo2 : decide (hi < lo) = false := decide_eq_false (by omega)
  have hhi2 : decide (l.length < hi) = false := decide_eq_false (by omega)
  have HB : Hid (∀ o o' W, Kept (fun _ => False) ((w.alloc (.cells #[.int .i64 tick, .int .i64 limit, .slice ta told.length tc, .bool en] o)).alloc (.cells #[.int .u64 (lo : Int), .int .u64 (hi : Int)] o')) W → Kept (fun _ => False) w W ∧ Blk W w.heap.size o #[.int .i64 tick, .int .i64 limit, .slice ta told.length tc, .bool en] ∧ Blk W (w.heap.size + 1) o' #[.int .u64 (lo : Int), .int .u64 (hi : Int)]) := fun o o' W hW => by
    refine ⟨((Kept.alloc _ _ _).allocNew _).trans hW (fun _ => id) (fun _ _ => id), ((Blk.new w _ _).kept (Kept.alloc _ _ (fun _ => False)) id).kept hW id, ?_⟩
    have := (Blk.new (w.alloc (.cells #[.int .i64 tick, .int .i64 limit, .slice ta told.length tc, .bool en] o)) o' #[.int .u64 (lo : Int), .int .u64 (hi : Int)]).kept hW id
    simpa using this
  clear h hrow hst hR hvs hog hsl
  go_enter Try.func18, Try.ntmps18
  go_wp2
  obtain ⟨kW, bA, bB⟩ := HB.out 52 56 _ (Kept.refl _ _)
  generalize ((w.alloc (.cells #[.int .i64 tick, .int .i64 limit, .slice ta told.length tc, .bool en] 52)).alloc (.cells #[.int .u64 (lo : Int), .int .u64 (hi : Int)] 56)) = W at kW bA bB ⊢
  have HW : Hid (Kept (fun _ => False) w W ∧ Blk W w.heap.size 52 #[.int .i64 tick, .int .i64 limit, .slice ta told.length tc, .bool en] ∧ Blk W (w.heap.size + 1) 56 #[.int .u64 (lo : Int), .int .u64 (hi : Int)]) := ⟨kW, bA, bB⟩
  have b0 : W.cell? ⟨w.heap.size + 1, 0, none⟩ = some (.int .u64 (lo : Int)) := bB.cell 0
  have b1 : W.cell? ⟨w.heap.size + 1, 1, none⟩ = some (.int .u64 (hi : Int)) := bB.cell 1
  have hhm : hi ≤ 700 := by omega
  clear kW bA bB HB
  generalize w.heap.size = B at *
  go_quiet ((go_at_call 20; exact Calls.quiet_of_same (HNW.out _ (HW.out.1.drewN _))))
  go_wp2
  go_loopw [7] (fun tv wx => ∃ t : Nat, lo ≤ t ∧ t ≤ hi + 1 ∧ tv = .int .i64 t ∧ Hid (Kept (fun _ => False) W wx)) (fun tv _ => hi + 1 - (intOf tv).toNat)
  case atStart => exact ⟨lo, Nat.le_refl _, by omega, rfl, (Kept.refl _ _).drewN _⟩
  case round =>
    obtain ⟨t, ht1, ht2, rfl, HKR⟩ := hrel
    have d1 : wr.cell? ⟨B + 1, 1, none⟩ = some (.int .u64 (hi : Int)) := (HW.out.2.2.kept HKR.out id).cell 1
    by_cases hlt : t ≤ hi
    · have ht3 : (t : Int) ≤ (hi : Int) := by omega
      have ht4 : t ≤ l.length := by omega
      go_wp2
      clear d1
      go_loopw [8] (fun iv wx => ∃ i : Nat, i ≤ told.length ∧ iv = .int .i64 i ∧ Hid (Kept (fun _ => False) W wx)) (fun iv _ => told.length - (intOf iv).toNat)
      case atStart => exact ⟨0, Nat.zero_le _, rfl, HKR.out⟩
      case round =>
        obtain ⟨i, hi1, rfl, HKI⟩ := hrel
        have e2 : wr.cell? ⟨B, 2, none⟩ = some (.slice ta told.length tc) := (HW.out.2.1.kept HKI.out id).cell 2
        by_cases hil : i < told.length
        · have hkw : Kept (fun _ => False) w wr := HW.out.1.trans HKI.out (fun _ => id) (fun _ _ => id)
          obtain ⟨gt, hta, t0, t1⟩ := HTD.out wr hkw i hil
          obtain ⟨c3, cst⟩ := HC.out wr hkw
          obtain ⟨q, hq⟩ : ∃ q, q = told[i].1 := ⟨_, rfl⟩
          obtain ⟨v, hv⟩ : ∃ v, v = told[i].2 := ⟨_, rfl⟩
          obtain ⟨s, hs⟩ : ∃ s, s = stAt l t := ⟨_, rfl⟩
          have HEI : Hid (∀ W, Calls Try.prog 12 #[.string q, .agg #[.int .i32 (s 0), .int .i32 (s 1), .int .i32 (s 2), .int .i32 (s 3), .int .i32 (s 4), .int .i32 (s 5), .int .i32 (s 6), .int .i32 (s 7)]] W fun e w' => e = .returned (.tuple #[.int .i32 v, .int .i64 0]) ∧ Kept (fun _ => False) W w') := fun W => by rw [hq, hv, hs]; exact HEV.out i hil t ht1 hlt W
          have cst' := cst t ht4
          rw [← hs] at cst'
          rw [← hq] at t0
          rw [← hv] at t1
          have s0 : wr.cell? ⟨g, t * 8, none⟩ = some (.int .i32 (s 0)) := cst' 0 _ rfl
          have s1 : wr.cell? ⟨g, t * 8 + 1, none⟩ = some (.int .i32 (s 1)) := cst' 1 _ rfl
          have s2 : wr.cell? ⟨g, t * 8 + 2, none⟩ = some (.int .i32 (s 2)) := cst' 2 _ rfl
          have s3 : wr.cell? ⟨g, t * 8 + 3, none⟩ = some (.int .i32 (s 3)) := cst' 3 _ rfl
          have s4 : wr.cell? ⟨g, t * 8 + 4, none⟩ = some (.int .i32 (s 4)) := cst' 4 _ rfl
          have s5 : wr.cell? ⟨g, t * 8 + 5, none⟩ = some (.int .i32 (s 5)) := cst' 5 _ rfl
          have s6 : wr.cell? ⟨g, t * 8 + 6, none⟩ = some (.int .i32 (s 6)) := cst' 6 _ rfl
          have s7 : wr.cell? ⟨g, t * 8 + 7, none⟩ = some (.int .i32 (s 7)) := cst' 7 _ rfl
          subst hta
          have hi0 : (0 : Int) ≤ (i : Int) := by omega
          have hi2 : (i : Int) < (told.length : Int) := by omega
          have ht0 : (0 : Int) ≤ (t : Int) := by omega
          have ht5 : (t : Int) < (l.length : Int) + 1 := by omega
          clear hq hv hs cst cst' hkw
          have xe2 := drew_cell0 e2
          have xt0 := drew_cell0 t0
          have xc3 := drew_cell0 c3
          have xs0 := drew_cell0 s0
          have xs1 := drew_cell0 s1
          have xs2 := drew_cell0 s2
          have xs3 := drew_cell0 s3
          have xs4 := drew_cell0 s4
          have xs5 := drew_cell0 s5
          have xs6 := drew_cell0 s6
          have xs7 := drew_cell0 s7
          go_wp2
          go_region_held3 (fun w' => w'.cell? ⟨B, 2, none⟩ = some (.slice (some ⟨gt, 0, none⟩) told.length tc) ∧ w'.cell? ⟨gt, i * 2, none⟩ = some (.string q) ∧ w'.cell? ⟨pb, 3, none⟩ = some (.slice (some ⟨g, 0, none⟩) (l.length + 1) cs) ∧ w'.cell? ⟨g, t * 8, none⟩ = some (.int .i32 (s 0)) ∧ w'.cell? ⟨g, t * 8 + 1, none⟩ = some (.int .i32 (s 1)) ∧ w'.cell? ⟨g, t * 8 + 2, none⟩ = some (.int .i32 (s 2)) ∧ w'.cell? ⟨g, t * 8 + 3, none⟩ = some (.int .i32 (s 3)) ∧ w'.cell? ⟨g, t * 8 + 4, none⟩ = some (.int .i32 (s 4)) ∧ w'.cell? ⟨g, t * 8 + 5, none⟩ = some (.int .i32 (s 5)) ∧ w'.cell? ⟨g, t * 8 + 6, none⟩ = some (.int .i32 (s 6)) ∧ w'.cell? ⟨g, t * 8 + 7, none⟩ = some (.int .i32 (s 7))) (first | with_reducible exact ⟨ye2, yt0, yc3, ys0, ys1, ys2, ys3, ys4, ys5, ys6, ys7⟩ | with_reducible exact ⟨xe2, xt0, xc3, xs0, xs1, xs2, xs3, xs4, xs5, xs6, xs7⟩ | fail) ((go_at_call 12; refine (HEI.out _).mono ?_; rintro e w3 ⟨rfl, hk3⟩; have ye2 := hk3.hold xe2; have yt0 := hk3.hold xt0; have yc3 := hk3.hold xc3; have ys0 := hk3.hold xs0; have ys1 := hk3.hold xs1; have ys2 := hk3.hold xs2; have ys3 := hk3.hold xs3; have ys4 := hk3.hold xs4; have ys5 := hk3.hold xs5; have ys6 := hk3.hold xs6; have ys7 := hk3.hold xs7; have yt1 := hk3.hold (drew_cell0 t1); have HK3 : Hid (Kept (fun _ => False) W w3) := HKI.out.drew.trans hk3 (fun _ => id) (fun _ _ => id); clear hk3))
          all_goals
            clear xe2 xt0 xc3 xs0 xs1 xs2 xs3 xs4 xs5 xs6 xs7 yt0 yc3 ys0 ys1 ys2 ys3 ys4 ys5 ys6 ys7
            go_wp2
            go_roundw
            case rel => exact ⟨i + 1, by omega, by go_num, HK3.out⟩
            case measure => simp [intOf]; omega
        · have hie : i = told.length := by omega
          subst hie
          go_wp2
          go_roundw
          case rel => exact ⟨t + 1, by omega, by omega, by go_num, HKI.out⟩
          case measure => simp [intOf]; omega
    · have hte : t = hi + 1 := by omega
      have ht3 : ¬ (t : Int) ≤ (hi : Int) := by omega
      go_wp2
      go_ret
      exact ⟨rfl, HW.out.1.trans HKR.out (fun _ => id) (fun _ _ => id)⟩

end Go.Proofs.Ytpfcacedpkaihaa
