/- The keeping laws' own functions (package almanackeep): step, walked. -/
import Derived.Test.YtpfcacedpkaihaaKm
import Derived.Test.YtpfcacedpkaihaaKe
import Derived.Test.YtpfcacedpkaihaaKh
import Derived.Test.YtpfcacedpkaihaaKf
namespace Go.Proofs.Ytpfcacedpkaihaa
open Go.RowKit

set_option maxRecDepth 100000 in
set_option maxHeartbeats 4000000 in
theorem kstep (w0 : Fr) (w : World) (pb n : Nat) (K : KS) (D : DevS) (o : StE) (h : KInv w0 w pb n K D) (ho : StOk w o) (hT : ∀ rd ∈ K.q.rds, rd.told.length ≤ n) (hn : n ≤ 1048576) :
    Calls Try.prog 16 #[.pointer (some ⟨pb, 0, none⟩), .agg #[.int .i64 o.kd, .int .i64 o.b, .int .i64 o.c, .string o.s, .slice o.ka o.kn o.kc, .slice o.va o.vn o.vc]] w fun e w' => e = .returned (.tuple #[]) ∧ KPost w0 pb n K D w' := by
  have hn' : n < 9223372036854775807 := by omega
  have H1 : Hid (∀ W, Kept (fun _ => False) w W → Calls Try.prog 30 #[.pointer (some ⟨pb, 0, none⟩), .agg #[.int .i64 o.kd, .int .i64 o.b, .int .i64 o.c, .string o.s, .slice o.ka o.kn o.kc, .slice o.va o.vn o.vc]] W fun e w' => e = .returned (.tuple #[]) ∧ KPost w0 pb n K D w') := fun W hW => kcommit w0 W pb n K D o (h.kept hW) (ho.kept hW) hn'
  have H2 : Hid (∀ W, Kept (fun _ => False) w W → Calls Try.prog 31 #[.pointer (some ⟨pb, 0, none⟩)] W fun e w' => e = .returned (.tuple #[]) ∧ KPost w0 pb n K D w') := fun W hW => ktick w0 W pb n K D (h.kept hW) hn'
  have H3 : Hid (∀ W, Kept (fun _ => False) w W → Calls Try.prog 32 #[.pointer (some ⟨pb, 0, none⟩), .int .i64 o.b] W fun e w' => e = .returned (.tuple #[]) ∧ KPost w0 pb n K D w') := fun W hW => kbegin w0 W pb n K D o.b (h.kept hW) hn'
  have H4 : Hid (∀ W, Kept (fun _ => False) w W → Calls Try.prog 33 #[.pointer (some ⟨pb, 0, none⟩), .agg #[.int .i64 o.kd, .int .i64 o.b, .int .i64 o.c, .string o.s, .slice o.ka o.kn o.kc, .slice o.va o.vn o.vc]] W fun e w' => e = .returned (.tuple #[]) ∧ KPost w0 pb n K D w') := fun W hW => kread w0 W pb n K D o (h.kept hW) (ho.kept hW) hT hn
  have H5 : Hid (∀ W, Kept (fun _ => False) w W → Calls Try.prog 34 #[.pointer (some ⟨pb, 0, none⟩), .agg #[.int .i64 o.kd, .int .i64 o.b, .int .i64 o.c, .string o.s, .slice o.ka o.kn o.kc, .slice o.va o.vn o.vc]] W fun e w' => e = .returned (.tuple #[]) ∧ KPost w0 pb n K D w') := fun W hW => krest w0 W pb n K D o (h.kept hW) (ho.kept hW) hn'
  clear h ho hT hn hn'
  by_cases k1 : o.kd = 1
  · have q1 : ((o.kd : Int) == 1) = true := beq_iff_eq.mpr k1
    clear k1 H2 H3 H4 H5
    go_enter Try.func16, Try.ntmps16
    go_wp2_with (go_at_call 30; refine (H1.out _ (Kept.alloc _ _ _)).mono ?_; rintro e w1 ⟨rfl, hp⟩)
    go_end0
    exact ⟨rfl, hp⟩
  · have q1 : ((o.kd : Int) == 1) = false := beq_eq_false_iff_ne.mpr k1
    by_cases k2 : o.kd = 2
    · have q2 : ((o.kd : Int) == 2) = true := beq_iff_eq.mpr k2
      clear k1 k2 H1 H3 H4 H5
      go_enter Try.func16, Try.ntmps16
      go_wp2_with (go_at_call 31; refine (H2.out _ (Kept.alloc _ _ _)).mono ?_; rintro e w1 ⟨rfl, hp⟩)
      go_end0
      exact ⟨rfl, hp⟩
    · have q2 : ((o.kd : Int) == 2) = false := beq_eq_false_iff_ne.mpr k2
      by_cases k3 : o.kd = 3
      · have q3 : ((o.kd : Int) == 3) = true := beq_iff_eq.mpr k3
        clear k1 k2 k3 H1 H2 H4 H5
        go_enter Try.func16, Try.ntmps16
        go_wp2_with (go_at_call 32; refine (H3.out _ (Kept.alloc _ _ _)).mono ?_; rintro e w1 ⟨rfl, hp⟩)
        go_end0
        exact ⟨rfl, hp⟩
      · have q3 : ((o.kd : Int) == 3) = false := beq_eq_false_iff_ne.mpr k3
        by_cases k4 : o.kd = 4
        · have q4 : ((o.kd : Int) == 4) = true := beq_iff_eq.mpr k4
          clear k1 k2 k3 k4 H1 H2 H3 H5
          go_enter Try.func16, Try.ntmps16
          go_wp2_with (go_at_call 33; refine (H4.out _ (Kept.alloc _ _ _)).mono ?_; rintro e w1 ⟨rfl, hp⟩)
          go_end0
          exact ⟨rfl, hp⟩
        · have q4 : ((o.kd : Int) == 4) = false := beq_eq_false_iff_ne.mpr k4
          clear k1 k2 k3 k4 H1 H2 H3 H4
          go_enter Try.func16, Try.ntmps16
          go_wp2_with (go_at_call 34; refine (H5.out _ (Kept.alloc _ _ _)).mono ?_; rintro e w1 ⟨rfl, hp⟩)
          go_end0
          exact ⟨rfl, hp⟩

/-- how long what a reader was told may be. -/
theorem KStep.told {Q Q' : KQ} {P P' : DP} {n : Nat} (h : KStep Q P Q' P') (hT : ∀ rd ∈ Q.rds, rd.told.length ≤ n) : ∀ rd ∈ Q'.rds, rd.told.length ≤ n + 1 := by
  have base : ∀ rd ∈ Q.rds, rd.told.length ≤ n + 1 := fun rd hr => Nat.le_succ_of_le (hT rd hr)
  have one : ∀ (l : List KR) (r : Nat) (x : KR), (∀ rd ∈ l, rd.told.length ≤ n + 1) → x.told.length ≤ n + 1 → ∀ rd ∈ l.set r x, rd.told.length ≤ n + 1 := fun l r x hl hx rd hrd => by
    rcases List.mem_or_eq_of_mem_set hrd with h' | rfl
    · exact hl rd h'
    · exact hx
  cases h with
  | start limit lo j h1 h2 h3 h4 h5 h6 =>
    intro rd hrd
    simp only [List.mem_append, List.mem_singleton] at hrd
    rcases hrd with hrd | rfl
    · exact base rd hrd
    · exact Nat.zero_le _
  | hit r j i q ts s x rd h1 h2 h3 h4 h5 h6 h7 h8 h9 => exact one _ _ _ base (by have := hT rd (List.mem_of_getElem? h1); simp; exact this)
  | miss r j q ts s rd h1 h2 h3 h4 h5 h6 h7 h8 => exact one _ _ _ base (by have := hT rd (List.mem_of_getElem? h1); simp; exact this)
  | stop r j rd h1 h2 h3 h4 h5 => exact one _ _ _ base (base rd (List.mem_of_getElem? h1))
  | _ => exact base

end Go.Proofs.Ytpfcacedpkaihaa
