/- The keeping laws' own functions (package almanackeep): rest, walked. -/
import Derived.Test.YtpfcacedpkaihabKdKg
namespace Go.Proofs.Ytpfcacedpkaihab
open Go.RowKit

theorem kStore {w0 : Fr} {w W : World} {pb n : Nat} {K : KS} {D : DevS} (h : KInv w0 w pb n K D) (hn : n < 9223372036854775807) (hk : Kept (fun _ => False) w W) (i : Int) :
    Calls Try.prog 15 #[.pointer (some ⟨K.xb, 0, none⟩), .int .i64 i] W fun e w' => ∃ (x : Bool) (y : Int), e = .returned (.tuple #[.bool x, .int .i64 y]) ∧ Hid (KPost w0 pb n K D w') := by
  have hW := h.walk hn
  have hd := h.core.dev.kept hk (fun _ _ => id)
  exact (dStore W K.xb D i hd hW).mono fun e w' hp => ⟨_, _, hp.1, h.goes hk hp.2 (.store _ _ i)⟩
theorem kDrop {w0 : Fr} {w W : World} {pb n : Nat} {K : KS} {D : DevS} (h : KInv w0 w pb n K D) (hn : n < 9223372036854775807) (hk : Kept (fun _ => False) w W) (i : Int) :
    Calls Try.prog 9 #[.pointer (some ⟨K.xb, 0, none⟩), .int .i64 i] W fun e w' => ∃ y : Int, e = .returned (.int .i64 y) ∧ Hid (KPost w0 pb n K D w') := by
  have hW := h.walk hn
  have hd := h.core.dev.kept hk (fun _ _ => id)
  exact (dDrop W K.xb D i hd hW.fit).mono fun e w' hp => ⟨_, hp.1, h.goes hk hp.2 (.drop _ _ i)⟩
theorem kEvict {w0 : Fr} {w W : World} {pb n : Nat} {K : KS} {D : DevS} (h : KInv w0 w pb n K D) (hn : n < 9223372036854775807) (hk : Kept (fun _ => False) w W) (k i : Int) :
    Calls Try.prog 47 #[.pointer (some ⟨K.xb, 0, none⟩), .int .i64 k, .int .i64 i] W fun e w' => ∃ y : Int, e = .returned (.int .i64 y) ∧ Hid (KPost w0 pb n K D w') := by
  have hW := h.walk hn
  have hd := h.core.dev.kept hk (fun _ _ => id)
  exact (dEvict W K.xb D k i hd hW).mono fun e w' hp => ⟨_, hp.1, h.goes hk hp.2 (.evict _ _ k i)⟩
theorem kDeliver {w0 : Fr} {w W : World} {pb n : Nat} {K : KS} {D : DevS} (h : KInv w0 w pb n K D) (hn : n < 9223372036854775807) (hk : Kept (fun _ => False) w W) (k i : Int) :
    Calls Try.prog 48 #[.pointer (some ⟨K.xb, 0, none⟩), .int .i64 k, .int .i64 i] W fun e w' => ∃ y : Int, e = .returned (.int .i64 y) ∧ Hid (KPost w0 pb n K D w') := by
  have hW := h.walk hn
  have hd := h.core.dev.kept hk (fun _ _ => id)
  exact (dDeliver W K.xb D k i hd hW).mono fun e w' hp => ⟨_, hp.1, h.goes hk hp.2 (.deliver _ _ k i)⟩
theorem kLose {w0 : Fr} {w W : World} {pb n : Nat} {K : KS} {D : DevS} (h : KInv w0 w pb n K D) (hn : n < 9223372036854775807) (hk : Kept (fun _ => False) w W) (k i : Int) :
    Calls Try.prog 49 #[.pointer (some ⟨K.xb, 0, none⟩), .int .i64 k, .int .i64 i] W fun e w' => ∃ y : Int, e = .returned (.int .i64 y) ∧ Hid (KPost w0 pb n K D w') := by
  have hW := h.walk hn
  have hd := h.core.dev.kept hk (fun _ _ => id)
  exact (dLose W K.xb D k i hd hW).mono fun e w' hp => ⟨_, hp.1, h.goes hk hp.2 (.lose _ _ k i)⟩
theorem kCopy {w0 : Fr} {w W : World} {pb n : Nat} {K : KS} {D : DevS} (h : KInv w0 w pb n K D) (hn : n < 9223372036854775807) (hk : Kept (fun _ => False) w W) (k i : Int) :
    Calls Try.prog 50 #[.pointer (some ⟨K.xb, 0, none⟩), .int .i64 k, .int .i64 i] W fun e w' => ∃ y : Int, e = .returned (.int .i64 y) ∧ Hid (KPost w0 pb n K D w') := by
  have hW := h.walk hn
  have hd := h.core.dev.kept hk (fun _ _ => id)
  exact (dCopy W K.xb D k i hd hW).mono fun e w' hp => ⟨_, hp.1, h.goes hk hp.2 (.copy _ _ k i)⟩
theorem kAsk {w0 : Fr} {w W : World} {pb n : Nat} {K : KS} {D : DevS} (h : KInv w0 w pb n K D) (hn : n < 9223372036854775807) (hk : Kept (fun _ => False) w W) (k : Int) :
    Calls Try.prog 26 #[.pointer (some ⟨K.xb, 0, none⟩), .int .i64 k] W fun e w' => ∃ x y : Int, e = .returned (.tuple #[.int .u64 x, .int .i64 y]) ∧ Hid (KPost w0 pb n K D w') := by
  have hW := h.walk hn
  have hd := h.core.dev.kept hk (fun _ _ => id)
  exact (dAsk W K.xb D k hd hW).mono fun e w' hp => ⟨_, _, hp.1, h.goes hk hp.2 (.ask _ _ k)⟩
theorem kRestart {w0 : Fr} {w W : World} {pb n : Nat} {K : KS} {D : DevS} (h : KInv w0 w pb n K D) (hn : n < 9223372036854775807) (hk : Kept (fun _ => False) w W) (k : Int) :
    Calls Try.prog 51 #[.pointer (some ⟨K.xb, 0, none⟩), .int .i64 k] W fun e w' => ∃ y : Int, e = .returned (.int .i64 y) ∧ Hid (KPost w0 pb n K D w') := by
  have hW := h.walk hn
  have hd := h.core.dev.kept hk (fun _ _ => id)
  exact (dRestart W K.xb D k hd hW).mono fun e w' hp => ⟨_, hp.1, h.goes hk hp.2 (.restart _ _ k)⟩

theorem ktwo {w W : World} {a b : Nat} (h : Kept (fun _ => False) w W) : Kept (fun _ => False) w ((W.drewN a).drewN b) := (h.drewN a).drewN b

set_option maxRecDepth 100000 in
set_option maxHeartbeats 8000000 in
theorem krest (w0 : Fr) (w : World) (pb n : Nat) (K : KS) (D : DevS) (o : StE) (h : KInv w0 w pb n K D) (ho : StOk w o) (hn : n < 9223372036854775807) :
    Calls Try.prog 25 #[.pointer (some ⟨pb, 0, none⟩), .agg #[.int .i64 o.kd, .int .i64 o.b, .int .i64 o.c, .string o.s, .slice o.ka o.kn o.kc, .slice o.va o.vn o.vc]] w fun e w' => e = .returned (.tuple #[]) ∧ KPost w0 pb n K D w' := by
  have hb0 := ho.b0
  have hb1 := ho.b1
  have hc0 := ho.c0
  have hc1 := ho.c1
  have c0 := h.core.keep.c0
  have c1 := h.core.keep.c1
  have hnd : K.nodes = (D.pu.sites.length : Int) := h.ki.nodes
  have hs1 := h.ki.good.s1
  have hs3 := h.ki.good.s3
  obtain ⟨m, hm⟩ : ∃ m, m = D.pu.sites.length := ⟨_, rfl⟩
  rw [hnd, ← hm] at c1
  rw [← hm] at hs1 hs3
  have hpl : pb < w.heap.size := h.core.keep.blk.lt
  have HPB : Hid (∀ W, Calls Try.prog 18 #[.int .i64 o.b, .int .i64 (m : Int)] W fun e w' => e = .returned (.int .i64 (pickK o.b m : Int)) ∧ w' = W) := fun W => (kpick W o.b m hb0 hb1 hs1 (by omega)).mono fun e w' hp => ⟨hp.1, hp.2.symm⟩
  have P10 : Hid (∀ W, Calls Try.prog 18 #[.int .i64 o.b, .int .i64 10] W fun e w' => e = .returned (.int .i64 (pickK o.b 10 : Int)) ∧ W = w') := fun W => kpickI W o.b 10 10 rfl hb0 hb1 (by omega) (by omega)
  have P6 : Hid (∀ W, Calls Try.prog 18 #[.int .i64 o.c, .int .i64 6] W fun e w' => e = .returned (.int .i64 (pickK o.c 6 : Int)) ∧ W = w') := fun W => kpickI W o.c 6 6 rfl hc0 hc1 (by omega) (by omega)
  have P12 : Hid (∀ W, Calls Try.prog 18 #[.int .i64 o.c, .int .i64 12] W fun e w' => e = .returned (.int .i64 (pickK o.c 12 : Int)) ∧ W = w') := fun W => kpickI W o.c 12 12 rfl hc0 hc1 (by omega) (by omega)
  have HSAME : Hid (∀ W, Kept (fun _ => False) w W → KPost w0 pb n K D W) := fun W hW => h.same hW
  have HC6 : Hid (∀ W i, Kept (fun _ => False) w W → Calls Try.prog 15 #[.pointer (some ⟨K.xb, 0, none⟩), .int .i64 i] W fun e w' => ∃ (x : Bool) (y : Int), e = .returned (.tuple #[.bool x, .int .i64 y]) ∧ Hid (KPost w0 pb n K D w')) := fun W i hk => kStore h hn hk i
  have HC7 : Hid (∀ W i, Kept (fun _ => False) w W → Calls Try.prog 9 #[.pointer (some ⟨K.xb, 0, none⟩), .int .i64 i] W fun e w' => ∃ y : Int, e = .returned (.int .i64 y) ∧ Hid (KPost w0 pb n K D w')) := fun W i hk => kDrop h hn hk i
  have HC8 : Hid (∀ W k i, Kept (fun _ => False) w W → Calls Try.prog 47 #[.pointer (some ⟨K.xb, 0, none⟩), .int .i64 k, .int .i64 i] W fun e w' => ∃ y : Int, e = .returned (.int .i64 y) ∧ Hid (KPost w0 pb n K D w')) := fun W k i hk => kEvict h hn hk k i
  have HC9 : Hid (∀ W k i, Kept (fun _ => False) w W → Calls Try.prog 48 #[.pointer (some ⟨K.xb, 0, none⟩), .int .i64 k, .int .i64 i] W fun e w' => ∃ y : Int, e = .returned (.int .i64 y) ∧ Hid (KPost w0 pb n K D w')) := fun W k i hk => kDeliver h hn hk k i
  have HC10 : Hid (∀ W k i, Kept (fun _ => False) w W → Calls Try.prog 49 #[.pointer (some ⟨K.xb, 0, none⟩), .int .i64 k, .int .i64 i] W fun e w' => ∃ y : Int, e = .returned (.int .i64 y) ∧ Hid (KPost w0 pb n K D w')) := fun W k i hk => kLose h hn hk k i
  have HC11 : Hid (∀ W k i, Kept (fun _ => False) w W → Calls Try.prog 50 #[.pointer (some ⟨K.xb, 0, none⟩), .int .i64 k, .int .i64 i] W fun e w' => ∃ y : Int, e = .returned (.int .i64 y) ∧ Hid (KPost w0 pb n K D w')) := fun W k i hk => kCopy h hn hk k i
  have HC12 : Hid (∀ W k, Kept (fun _ => False) w W → Calls Try.prog 26 #[.pointer (some ⟨K.xb, 0, none⟩), .int .i64 k] W fun e w' => ∃ x y : Int, e = .returned (.tuple #[.int .u64 x, .int .i64 y]) ∧ Hid (KPost w0 pb n K D w')) := fun W k hk => kAsk h hn hk k
  have HC13 : Hid (∀ W k, Kept (fun _ => False) w W → Calls Try.prog 51 #[.pointer (some ⟨K.xb, 0, none⟩), .int .i64 k] W fun e w' => ∃ y : Int, e = .returned (.int .i64 y) ∧ Hid (KPost w0 pb n K D w')) := fun W k hk => kRestart h hn hk k
  generalize pickK o.b m = pk at *
  generalize pickK o.b 10 = p10 at *
  generalize pickK o.c 6 = p6 at *
  generalize pickK o.c 12 = p12 at *
  clear h ho hnd hm
  by_cases hk : o.kd = 6 ∨ o.kd = 7 ∨ o.kd = 8 ∨ o.kd = 9 ∨ o.kd = 10 ∨ o.kd = 11 ∨ o.kd = 12 ∨ o.kd = 13
  · rcases hk with hk | hk | hk | hk | hk | hk | hk | hk
    · have q6 : ((o.kd : Int) == 6) = true := beq_iff_eq.mpr hk
      clear hk
      go_enter Try.func25, Try.ntmps25
      go_wp2_with fail
      have HB0 : Hid (Kept (fun _ => False) w (w.alloc (.cells #[.int .i64 o.kd, .int .i64 o.b, .int .i64 o.c, .string o.s, .slice o.ka o.kn o.kc, .slice o.va o.vn o.vc] 33)) ∧ Blk (w.alloc (.cells #[.int .i64 o.kd, .int .i64 o.b, .int .i64 o.c, .string o.s, .slice o.ka o.kn o.kc, .slice o.va o.vn o.vc] 33)) w.heap.size 33 #[.int .i64 o.kd, .int .i64 o.b, .int .i64 o.c, .string o.s, .slice o.ka o.kn o.kc, .slice o.va o.vn o.vc]) := ⟨Kept.alloc _ _ _, Blk.new _ _ _⟩
      generalize w.alloc (.cells #[.int .i64 o.kd, .int .i64 o.b, .int .i64 o.c, .string o.s, .slice o.ka o.kn o.kc, .slice o.va o.vn o.vc] 33) = W at HB0 ⊢
      have d0 := HB0.out.1.hold c0
      have d1 := HB0.out.1.hold c1
      have b0 : W.cell? ⟨w.heap.size, 0, none⟩ = some (.int .i64 o.kd) := HB0.out.2.cell 0
      have b1 : W.cell? ⟨w.heap.size, 1, none⟩ = some (.int .i64 o.b) := HB0.out.2.cell 1
      have b2 : W.cell? ⟨w.heap.size, 2, none⟩ = some (.int .i64 o.c) := HB0.out.2.cell 2
      go_quiet ((go_at_call 18; exact Calls.quiet_of_same (HPB.out _)))
      go_wp2_with fail
      go_region_with first
        | ((go_at_call 18; refine (P10.out _).mono ?_; rintro e w2 ⟨rfl, rfl⟩))
        | ((go_at_call 15; refine (HC6.out _ _ (HB0.out.1.drewN _)).mono ?_; rintro e w3 ⟨x, y, rfl, hr⟩))
      all_goals
        go_wp2
        go_end0
        exact ⟨rfl, hr.out⟩
    · have q6 : ((o.kd : Int) == 6) = false := beq_eq_false_iff_ne.mpr (by omega)
      have q7 : ((o.kd : Int) == 7) = true := beq_iff_eq.mpr hk
      clear hk
      go_enter Try.func25, Try.ntmps25
      go_wp2_with fail
      have HB0 : Hid (Kept (fun _ => False) w (w.alloc (.cells #[.int .i64 o.kd, .int .i64 o.b, .int .i64 o.c, .string o.s, .slice o.ka o.kn o.kc, .slice o.va o.vn o.vc] 33)) ∧ Blk (w.alloc (.cells #[.int .i64 o.kd, .int .i64 o.b, .int .i64 o.c, .string o.s, .slice o.ka o.kn o.kc, .slice o.va o.vn o.vc] 33)) w.heap.size 33 #[.int .i64 o.kd, .int .i64 o.b, .int .i64 o.c, .string o.s, .slice o.ka o.kn o.kc, .slice o.va o.vn o.vc]) := ⟨Kept.alloc _ _ _, Blk.new _ _ _⟩
      generalize w.alloc (.cells #[.int .i64 o.kd, .int .i64 o.b, .int .i64 o.c, .string o.s, .slice o.ka o.kn o.kc, .slice o.va o.vn o.vc] 33) = W at HB0 ⊢
      have d0 := HB0.out.1.hold c0
      have d1 := HB0.out.1.hold c1
      have b0 : W.cell? ⟨w.heap.size, 0, none⟩ = some (.int .i64 o.kd) := HB0.out.2.cell 0
      have b1 : W.cell? ⟨w.heap.size, 1, none⟩ = some (.int .i64 o.b) := HB0.out.2.cell 1
      have b2 : W.cell? ⟨w.heap.size, 2, none⟩ = some (.int .i64 o.c) := HB0.out.2.cell 2
      go_quiet ((go_at_call 18; exact Calls.quiet_of_same (HPB.out _)))
      go_wp2_with fail
      go_region_with first
        | ((go_at_call 18; refine (P10.out _).mono ?_; rintro e w2 ⟨rfl, rfl⟩))
        | ((go_at_call 9; refine (HC7.out _ _ (HB0.out.1.drewN _)).mono ?_; rintro e w3 ⟨y, rfl, hr⟩))
      all_goals
        go_wp2
        go_end0
        exact ⟨rfl, hr.out⟩
    · have q6 : ((o.kd : Int) == 6) = false := beq_eq_false_iff_ne.mpr (by omega)
      have q7 : ((o.kd : Int) == 7) = false := beq_eq_false_iff_ne.mpr (by omega)
      have q8 : ((o.kd : Int) == 8) = true := beq_iff_eq.mpr hk
      clear hk
      go_enter Try.func25, Try.ntmps25
      go_wp2_with fail
      have HB0 : Hid (Kept (fun _ => False) w (w.alloc (.cells #[.int .i64 o.kd, .int .i64 o.b, .int .i64 o.c, .string o.s, .slice o.ka o.kn o.kc, .slice o.va o.vn o.vc] 33)) ∧ Blk (w.alloc (.cells #[.int .i64 o.kd, .int .i64 o.b, .int .i64 o.c, .string o.s, .slice o.ka o.kn o.kc, .slice o.va o.vn o.vc] 33)) w.heap.size 33 #[.int .i64 o.kd, .int .i64 o.b, .int .i64 o.c, .string o.s, .slice o.ka o.kn o.kc, .slice o.va o.vn o.vc]) := ⟨Kept.alloc _ _ _, Blk.new _ _ _⟩
      generalize w.alloc (.cells #[.int .i64 o.kd, .int .i64 o.b, .int .i64 o.c, .string o.s, .slice o.ka o.kn o.kc, .slice o.va o.vn o.vc] 33) = W at HB0 ⊢
      have d0 := HB0.out.1.hold c0
      have d1 := HB0.out.1.hold c1
      have b0 : W.cell? ⟨w.heap.size, 0, none⟩ = some (.int .i64 o.kd) := HB0.out.2.cell 0
      have b1 : W.cell? ⟨w.heap.size, 1, none⟩ = some (.int .i64 o.b) := HB0.out.2.cell 1
      have b2 : W.cell? ⟨w.heap.size, 2, none⟩ = some (.int .i64 o.c) := HB0.out.2.cell 2
      go_quiet ((go_at_call 18; exact Calls.quiet_of_same (HPB.out _)))
      go_wp2_with fail
      go_region_with first
        | ((go_at_call 18; refine (P6.out _).mono ?_; rintro e w2 ⟨rfl, rfl⟩))
        | ((go_at_call 47; refine (HC8.out _ _ _ (HB0.out.1.drewN _)).mono ?_; rintro e w3 ⟨y, rfl, hr⟩))
      all_goals
        go_wp2
        go_end0
        exact ⟨rfl, hr.out⟩
    · have q6 : ((o.kd : Int) == 6) = false := beq_eq_false_iff_ne.mpr (by omega)
      have q7 : ((o.kd : Int) == 7) = false := beq_eq_false_iff_ne.mpr (by omega)
      have q8 : ((o.kd : Int) == 8) = false := beq_eq_false_iff_ne.mpr (by omega)
      have q9 : ((o.kd : Int) == 9) = true := beq_iff_eq.mpr hk
      clear hk
      go_enter Try.func25, Try.ntmps25
      go_wp2_with fail
      have HB0 : Hid (Kept (fun _ => False) w (w.alloc (.cells #[.int .i64 o.kd, .int .i64 o.b, .int .i64 o.c, .string o.s, .slice o.ka o.kn o.kc, .slice o.va o.vn o.vc] 33)) ∧ Blk (w.alloc (.cells #[.int .i64 o.kd, .int .i64 o.b, .int .i64 o.c, .string o.s, .slice o.ka o.kn o.kc, .slice o.va o.vn o.vc] 33)) w.heap.size 33 #[.int .i64 o.kd, .int .i64 o.b, .int .i64 o.c, .string o.s, .slice o.ka o.kn o.kc, .slice o.va o.vn o.vc]) := ⟨Kept.alloc _ _ _, Blk.new _ _ _⟩
      generalize w.alloc (.cells #[.int .i64 o.kd, .int .i64 o.b, .int .i64 o.c, .string o.s, .slice o.ka o.kn o.kc, .slice o.va o.vn o.vc] 33) = W at HB0 ⊢
      have d0 := HB0.out.1.hold c0
      have d1 := HB0.out.1.hold c1
      have b0 : W.cell? ⟨w.heap.size, 0, none⟩ = some (.int .i64 o.kd) := HB0.out.2.cell 0
      have b1 : W.cell? ⟨w.heap.size, 1, none⟩ = some (.int .i64 o.b) := HB0.out.2.cell 1
      have b2 : W.cell? ⟨w.heap.size, 2, none⟩ = some (.int .i64 o.c) := HB0.out.2.cell 2
      go_quiet ((go_at_call 18; exact Calls.quiet_of_same (HPB.out _)))
      go_wp2_with fail
      go_region_with first
        | ((go_at_call 18; refine (P12.out _).mono ?_; rintro e w2 ⟨rfl, rfl⟩))
        | ((go_at_call 48; refine (HC9.out _ _ _ (HB0.out.1.drewN _)).mono ?_; rintro e w3 ⟨y, rfl, hr⟩))
      all_goals
        go_wp2
        go_end0
        exact ⟨rfl, hr.out⟩
    · have q6 : ((o.kd : Int) == 6) = false := beq_eq_false_iff_ne.mpr (by omega)
      have q7 : ((o.kd : Int) == 7) = false := beq_eq_false_iff_ne.mpr (by omega)
      have q8 : ((o.kd : Int) == 8) = false := beq_eq_false_iff_ne.mpr (by omega)
      have q9 : ((o.kd : Int) == 9) = false := beq_eq_false_iff_ne.mpr (by omega)
      have q10 : ((o.kd : Int) == 10) = true := beq_iff_eq.mpr hk
      clear hk
      go_enter Try.func25, Try.ntmps25
      go_wp2_with fail
      have HB0 : Hid (Kept (fun _ => False) w (w.alloc (.cells #[.int .i64 o.kd, .int .i64 o.b, .int .i64 o.c, .string o.s, .slice o.ka o.kn o.kc, .slice o.va o.vn o.vc] 33)) ∧ Blk (w.alloc (.cells #[.int .i64 o.kd, .int .i64 o.b, .int .i64 o.c, .string o.s, .slice o.ka o.kn o.kc, .slice o.va o.vn o.vc] 33)) w.heap.size 33 #[.int .i64 o.kd, .int .i64 o.b, .int .i64 o.c, .string o.s, .slice o.ka o.kn o.kc, .slice o.va o.vn o.vc]) := ⟨Kept.alloc _ _ _, Blk.new _ _ _⟩
      generalize w.alloc (.cells #[.int .i64 o.kd, .int .i64 o.b, .int .i64 o.c, .string o.s, .slice o.ka o.kn o.kc, .slice o.va o.vn o.vc] 33) = W at HB0 ⊢
      have d0 := HB0.out.1.hold c0
      have d1 := HB0.out.1.hold c1
      have b0 : W.cell? ⟨w.heap.size, 0, none⟩ = some (.int .i64 o.kd) := HB0.out.2.cell 0
      have b1 : W.cell? ⟨w.heap.size, 1, none⟩ = some (.int .i64 o.b) := HB0.out.2.cell 1
      have b2 : W.cell? ⟨w.heap.size, 2, none⟩ = some (.int .i64 o.c) := HB0.out.2.cell 2
      go_quiet ((go_at_call 18; exact Calls.quiet_of_same (HPB.out _)))
      go_wp2_with fail
      go_region_with first
        | ((go_at_call 18; refine (P12.out _).mono ?_; rintro e w2 ⟨rfl, rfl⟩))
        | ((go_at_call 49; refine (HC10.out _ _ _ (HB0.out.1.drewN _)).mono ?_; rintro e w3 ⟨y, rfl, hr⟩))
      all_goals
        go_wp2
        go_end0
        exact ⟨rfl, hr.out⟩
    · have q6 : ((o.kd : Int) == 6) = false := beq_eq_false_iff_ne.mpr (by omega)
      have q7 : ((o.kd : Int) == 7) = false := beq_eq_false_iff_ne.mpr (by omega)
      have q8 : ((o.kd : Int) == 8) = false := beq_eq_false_iff_ne.mpr (by omega)
      have q9 : ((o.kd : Int) == 9) = false := beq_eq_false_iff_ne.mpr (by omega)
      have q10 : ((o.kd : Int) == 10) = false := beq_eq_false_iff_ne.mpr (by omega)
      have q11 : ((o.kd : Int) == 11) = true := beq_iff_eq.mpr hk
      clear hk
      go_enter Try.func25, Try.ntmps25
      go_wp2_with fail
      have HB0 : Hid (Kept (fun _ => False) w (w.alloc (.cells #[.int .i64 o.kd, .int .i64 o.b, .int .i64 o.c, .string o.s, .slice o.ka o.kn o.kc, .slice o.va o.vn o.vc] 33)) ∧ Blk (w.alloc (.cells #[.int .i64 o.kd, .int .i64 o.b, .int .i64 o.c, .string o.s, .slice o.ka o.kn o.kc, .slice o.va o.vn o.vc] 33)) w.heap.size 33 #[.int .i64 o.kd, .int .i64 o.b, .int .i64 o.c, .string o.s, .slice o.ka o.kn o.kc, .slice o.va o.vn o.vc]) := ⟨Kept.alloc _ _ _, Blk.new _ _ _⟩
      generalize w.alloc (.cells #[.int .i64 o.kd, .int .i64 o.b, .int .i64 o.c, .string o.s, .slice o.ka o.kn o.kc, .slice o.va o.vn o.vc] 33) = W at HB0 ⊢
      have d0 := HB0.out.1.hold c0
      have d1 := HB0.out.1.hold c1
      have b0 : W.cell? ⟨w.heap.size, 0, none⟩ = some (.int .i64 o.kd) := HB0.out.2.cell 0
      have b1 : W.cell? ⟨w.heap.size, 1, none⟩ = some (.int .i64 o.b) := HB0.out.2.cell 1
      have b2 : W.cell? ⟨w.heap.size, 2, none⟩ = some (.int .i64 o.c) := HB0.out.2.cell 2
      go_quiet ((go_at_call 18; exact Calls.quiet_of_same (HPB.out _)))
      go_wp2_with fail
      go_region_with first
        | ((go_at_call 18; refine (P12.out _).mono ?_; rintro e w2 ⟨rfl, rfl⟩))
        | ((go_at_call 50; refine (HC11.out _ _ _ (HB0.out.1.drewN _)).mono ?_; rintro e w3 ⟨y, rfl, hr⟩))
      all_goals
        go_wp2
        go_end0
        exact ⟨rfl, hr.out⟩
    · have q6 : ((o.kd : Int) == 6) = false := beq_eq_false_iff_ne.mpr (by omega)
      have q7 : ((o.kd : Int) == 7) = false := beq_eq_false_iff_ne.mpr (by omega)
      have q8 : ((o.kd : Int) == 8) = false := beq_eq_false_iff_ne.mpr (by omega)
      have q9 : ((o.kd : Int) == 9) = false := beq_eq_false_iff_ne.mpr (by omega)
      have q10 : ((o.kd : Int) == 10) = false := beq_eq_false_iff_ne.mpr (by omega)
      have q11 : ((o.kd : Int) == 11) = false := beq_eq_false_iff_ne.mpr (by omega)
      have q12 : ((o.kd : Int) == 12) = true := beq_iff_eq.mpr hk
      clear hk
      go_enter Try.func25, Try.ntmps25
      go_wp2_with fail
      have HB0 : Hid (Kept (fun _ => False) w (w.alloc (.cells #[.int .i64 o.kd, .int .i64 o.b, .int .i64 o.c, .string o.s, .slice o.ka o.kn o.kc, .slice o.va o.vn o.vc] 33)) ∧ Blk (w.alloc (.cells #[.int .i64 o.kd, .int .i64 o.b, .int .i64 o.c, .string o.s, .slice o.ka o.kn o.kc, .slice o.va o.vn o.vc] 33)) w.heap.size 33 #[.int .i64 o.kd, .int .i64 o.b, .int .i64 o.c, .string o.s, .slice o.ka o.kn o.kc, .slice o.va o.vn o.vc]) := ⟨Kept.alloc _ _ _, Blk.new _ _ _⟩
      generalize w.alloc (.cells #[.int .i64 o.kd, .int .i64 o.b, .int .i64 o.c, .string o.s, .slice o.ka o.kn o.kc, .slice o.va o.vn o.vc] 33) = W at HB0 ⊢
      have d0 := HB0.out.1.hold c0
      have d1 := HB0.out.1.hold c1
      have b0 : W.cell? ⟨w.heap.size, 0, none⟩ = some (.int .i64 o.kd) := HB0.out.2.cell 0
      have b1 : W.cell? ⟨w.heap.size, 1, none⟩ = some (.int .i64 o.b) := HB0.out.2.cell 1
      have b2 : W.cell? ⟨w.heap.size, 2, none⟩ = some (.int .i64 o.c) := HB0.out.2.cell 2
      go_quiet ((go_at_call 18; exact Calls.quiet_of_same (HPB.out _)))
      go_wp2_with (go_at_call 26; refine (HC12.out _ _ (HB0.out.1.drewN _)).mono ?_; rintro e w3 ⟨x, y, rfl, hr⟩)
      go_end0
      exact ⟨rfl, hr.out⟩
    · have q6 : ((o.kd : Int) == 6) = false := beq_eq_false_iff_ne.mpr (by omega)
      have q7 : ((o.kd : Int) == 7) = false := beq_eq_false_iff_ne.mpr (by omega)
      have q8 : ((o.kd : Int) == 8) = false := beq_eq_false_iff_ne.mpr (by omega)
      have q9 : ((o.kd : Int) == 9) = false := beq_eq_false_iff_ne.mpr (by omega)
      have q10 : ((o.kd : Int) == 10) = false := beq_eq_false_iff_ne.mpr (by omega)
      have q11 : ((o.kd : Int) == 11) = false := beq_eq_false_iff_ne.mpr (by omega)
      have q12 : ((o.kd : Int) == 12) = false := beq_eq_false_iff_ne.mpr (by omega)
      have q13 : ((o.kd : Int) == 13) = true := beq_iff_eq.mpr hk
      clear hk
      go_enter Try.func25, Try.ntmps25
      go_wp2_with fail
      have HB0 : Hid (Kept (fun _ => False) w (w.alloc (.cells #[.int .i64 o.kd, .int .i64 o.b, .int .i64 o.c, .string o.s, .slice o.ka o.kn o.kc, .slice o.va o.vn o.vc] 33)) ∧ Blk (w.alloc (.cells #[.int .i64 o.kd, .int .i64 o.b, .int .i64 o.c, .string o.s, .slice o.ka o.kn o.kc, .slice o.va o.vn o.vc] 33)) w.heap.size 33 #[.int .i64 o.kd, .int .i64 o.b, .int .i64 o.c, .string o.s, .slice o.ka o.kn o.kc, .slice o.va o.vn o.vc]) := ⟨Kept.alloc _ _ _, Blk.new _ _ _⟩
      generalize w.alloc (.cells #[.int .i64 o.kd, .int .i64 o.b, .int .i64 o.c, .string o.s, .slice o.ka o.kn o.kc, .slice o.va o.vn o.vc] 33) = W at HB0 ⊢
      have d0 := HB0.out.1.hold c0
      have d1 := HB0.out.1.hold c1
      have b0 : W.cell? ⟨w.heap.size, 0, none⟩ = some (.int .i64 o.kd) := HB0.out.2.cell 0
      have b1 : W.cell? ⟨w.heap.size, 1, none⟩ = some (.int .i64 o.b) := HB0.out.2.cell 1
      have b2 : W.cell? ⟨w.heap.size, 2, none⟩ = some (.int .i64 o.c) := HB0.out.2.cell 2
      go_quiet ((go_at_call 18; exact Calls.quiet_of_same (HPB.out _)))
      go_wp2_with (go_at_call 51; refine (HC13.out _ _ (HB0.out.1.drewN _)).mono ?_; rintro e w3 ⟨y, rfl, hr⟩)
      go_end0
      exact ⟨rfl, hr.out⟩
  · have q6 : ((o.kd : Int) == 6) = false := beq_eq_false_iff_ne.mpr (by omega)
    have q7 : ((o.kd : Int) == 7) = false := beq_eq_false_iff_ne.mpr (by omega)
    have q8 : ((o.kd : Int) == 8) = false := beq_eq_false_iff_ne.mpr (by omega)
    have q9 : ((o.kd : Int) == 9) = false := beq_eq_false_iff_ne.mpr (by omega)
    have q10 : ((o.kd : Int) == 10) = false := beq_eq_false_iff_ne.mpr (by omega)
    have q11 : ((o.kd : Int) == 11) = false := beq_eq_false_iff_ne.mpr (by omega)
    have q12 : ((o.kd : Int) == 12) = false := beq_eq_false_iff_ne.mpr (by omega)
    have q13 : ((o.kd : Int) == 13) = false := beq_eq_false_iff_ne.mpr (by omega)
    clear hk
    go_enter Try.func25, Try.ntmps25
    go_wp2_with fail
    have HB0 : Hid (Kept (fun _ => False) w (w.alloc (.cells #[.int .i64 o.kd, .int .i64 o.b, .int .i64 o.c, .string o.s, .slice o.ka o.kn o.kc, .slice o.va o.vn o.vc] 33)) ∧ Blk (w.alloc (.cells #[.int .i64 o.kd, .int .i64 o.b, .int .i64 o.c, .string o.s, .slice o.ka o.kn o.kc, .slice o.va o.vn o.vc] 33)) w.heap.size 33 #[.int .i64 o.kd, .int .i64 o.b, .int .i64 o.c, .string o.s, .slice o.ka o.kn o.kc, .slice o.va o.vn o.vc]) := ⟨Kept.alloc _ _ _, Blk.new _ _ _⟩
    generalize w.alloc (.cells #[.int .i64 o.kd, .int .i64 o.b, .int .i64 o.c, .string o.s, .slice o.ka o.kn o.kc, .slice o.va o.vn o.vc] 33) = W at HB0 ⊢
    have d0 := HB0.out.1.hold c0
    have d1 := HB0.out.1.hold c1
    have b0 : W.cell? ⟨w.heap.size, 0, none⟩ = some (.int .i64 o.kd) := HB0.out.2.cell 0
    have b1 : W.cell? ⟨w.heap.size, 1, none⟩ = some (.int .i64 o.b) := HB0.out.2.cell 1
    have b2 : W.cell? ⟨w.heap.size, 2, none⟩ = some (.int .i64 o.c) := HB0.out.2.cell 2
    go_quiet ((go_at_call 18; exact Calls.quiet_of_same (HPB.out _)))
    go_wp2
    go_end0
    exact ⟨rfl, HSAME.out _ (HB0.out.1.drewN _)⟩

end Go.Proofs.Ytpfcacedpkaihab
