/- What the document's own wrapped and work answer (package almanacref). -/
import Derived.Test.YtpfcacedpkaihaaRc
import Derived.Test.YtpfcacedpkaihaaQe
namespace Go.Proofs.Ytpfcacedpkaihaa
open Go.RowKit

set_option maxHeartbeats 1000000 in
theorem wrapped_any (v : Int) (w : World) (h1 : -9223372036854775808 ≤ v) (h2 : v < 9223372036854775808) :
    Calls Try.prog 43 #[.int .i64 v] w fun e w' => e = .returned (.int .i64 (wrap32 v)) ∧ w = w' := by
  by_cases h0 : 0 ≤ v
  · go_enter Try.func43, Try.ntmps43
    go_wp2
    all_goals
      go_ret
      refine ⟨ret_int ?_, rfl⟩
      unfold wrap32
      omega
  · have HT : Hid (v.tmod 4294967296 = -((-v) % 4294967296)) := by
      have e : v = -(-v) := by omega
      show v.tmod 4294967296 = _
      rw [e, Int.neg_tmod, Int.tmod_eq_emod_of_nonneg (by omega), Int.neg_neg]
    have hm1 : -4294967296 < v.tmod 4294967296 := by rw [HT.out]; omega
    have hm2 : v.tmod 4294967296 ≤ 0 := by rw [HT.out]; omega
    go_enter Try.func43, Try.ntmps43
    go_wp2
    all_goals
      go_ret
      refine ⟨ret_int ?_, rfl⟩
      have h := HT.out
      unfold wrap32
      omega

theorem wrap32_64 (a : Int) : wrap32 (wrap64 a) = wrap32 a := by unfold wrap32 wrap64; omega
theorem wrap32_in (a : Int) (h : -2147483648 ≤ a ∧ a < 2147483648) : wrap32 a = a := by unfold wrap32; omega
theorem wrap32_bd (a : Int) : -2147483648 ≤ wrap32 a ∧ wrap32 a < 2147483648 := by unfold wrap32; omega
theorem step32_bd (v : Int) (sg : Nat) (x : Int) : -2147483648 ≤ step32 v sg x ∧ step32 v sg x < 2147483648 := by
  unfold step32
  split
  · exact wrap32_bd _
  · split
    · exact wrap32_bd _
    · split
      · exact wrap32_bd _
      · split
        · omega
        · exact wrap32_bd _
theorem evalL_bd (x : Nat → Int) (ts : List (Nat × Nat)) (k : Nat) : -2147483648 ≤ evalL x (ts.take k) ∧ evalL x (ts.take k) < 2147483648 := by
  by_cases hk : k = 0
  · subst hk; simp [evalL]
  · by_cases hl : k - 1 < ts.length
    · have := evalL_snoc x ts (k - 1) hl
      rw [show k - 1 + 1 = k by omega] at this
      rw [this]; exact step32_bd _ _ _
    · by_cases he : ts = []
      · subst he; simp [evalL]
      · have h1 : 0 < ts.length := List.length_pos_iff.mpr he
        have := evalL_snoc x ts (ts.length - 1) (by omega)
        rw [show ts.length - 1 + 1 = ts.length by omega] at this
        rw [List.take_of_length_le (by omega), ← List.take_length (l := ts), this]; exact step32_bd _ _ _

theorem mul_bd {v y : Int} (h1 : -2147483648 ≤ v) (h2 : v < 2147483648) (h3 : -2147483648 ≤ y) (h4 : y < 2147483648) : -4611686018427387904 ≤ v * y ∧ v * y ≤ 4611686018427387904 := by
  have hv : v.natAbs ≤ 2147483648 := by omega
  have hy : y.natAbs ≤ 2147483648 := by omega
  have := Nat.mul_le_mul hv hy
  rw [← Int.natAbs_mul] at this
  omega
theorem tdiv_bd {v y : Int} (h1 : -2147483648 ≤ v) (h2 : v < 2147483648) : -2147483648 ≤ v.tdiv y ∧ v.tdiv y ≤ 2147483648 := by
  have h : v.natAbs.div y.natAbs ≤ v.natAbs := Nat.div_le_self _ _
  rw [← Int.natAbs_tdiv] at h
  omega

set_option maxHeartbeats 2000000 in
theorem work_any (g cap : Nat) (ts : List (Nat × Nat)) (x : Nat → Int) (w : World) (hl : Lies w g ts) (h8 : ts.length ≤ 8) (hks : ∀ t ∈ ts, t.1 ≤ 3 ∧ t.2 ≤ 7) (hx : ∀ k, -2147483648 ≤ x k ∧ x k < 2147483648) :
    Calls Try.prog 28 #[.slice (some ⟨g, 0, none⟩) ts.length cap, .agg #[.int .i32 (x 0), .int .i32 (x 1), .int .i32 (x 2), .int .i32 (x 3), .int .i32 (x 4), .int .i32 (x 5), .int .i32 (x 6), .int .i32 (x 7)]] w fun e w' =>
      e = .returned (.int .i32 (evalL x ts)) ∧ Below w.heap.size w w' := by
  have HKS : Hid (∀ t ∈ ts, t.1 ≤ 3 ∧ t.2 ≤ 7) := hks
  have HX : Hid (∀ k, -2147483648 ≤ x k ∧ x k < 2147483648) := hx
  clear hks hx
  go_enter Try.func28, Try.ntmps28
  go_wp2
  go_loopw [5, 6] (fun v i wr => ∃ k : Nat, k ≤ ts.length ∧ i = .int .i64 k ∧ v = .int .i64 (evalL x (ts.take k)) ∧ (∀ j, j ≤ 7 → wr.cell? ⟨w.heap.size, j, none⟩ = some (.int .i32 (x j))) ∧ Below w.heap.size w wr) (fun _ i _ => ts.length - (intOf i).toNat)
  case atStart => exact ⟨0, Nat.zero_le _, rfl, rfl, fun j hj => box8 x w _ j hj, (Below.refl _ _).alloc (Nat.le_refl _) _⟩
  case round =>
    obtain ⟨k, hk, rfl, rfl, hst, hnx⟩ := hrel
    by_cases hlt : k < ts.length
    · have hl2 := hl.below hnx
      obtain ⟨sg, hsg0⟩ : ∃ sg, sg = ts[k].1 := ⟨_, rfl⟩
      obtain ⟨ky, hky0⟩ : ∃ ky, ky = ts[k].2 := ⟨_, rfl⟩
      have hsg := hl2.sign k hlt
      have hky := hl2.key k hlt
      have hmm := HKS.out ts[k] (List.getElem_mem hlt)
      have hE := evalL_snoc x ts k hlt
      rw [← hsg0] at hsg hmm hE
      rw [← hky0] at hky hmm hE
      obtain ⟨y, hy⟩ : ∃ y, y = x ky := ⟨_, rfl⟩
      obtain ⟨v, hv⟩ : ∃ v, v = evalL x (ts.take k) := ⟨_, rfl⟩
      have hxc := hst ky hmm.2
      have hyb := HX.out ky
      have hvb := evalL_bd x ts k
      rw [← hy] at hxc hyb hE
      rw [← hv] at hvb hE ⊢
      have HE : Hid (evalL x (ts.take (k + 1)) = step32 v sg y) := hE
      have HST : Hid (∀ j, j ≤ 7 → wr.cell? ⟨w.heap.size, j, none⟩ = some (.int .i32 (x j))) := hst
      obtain ⟨hm3, hm7⟩ := hmm
      obtain ⟨hy1, hy2⟩ := hyb
      obtain ⟨hv1, hv2⟩ := hvb
      clear hsg0 hky0 hy hv hE hst
      have hc : sg = 0 ∨ sg = 1 ∨ sg = 2 ∨ (sg = 3 ∧ y = 0) ∨ (sg = 3 ∧ y ≠ 0) := by omega
      rcases hc with rfl | rfl | rfl | ⟨rfl, hb⟩ | ⟨rfl, hb⟩
      · go_wp2_with (go_at_call 43; refine (wrapped_any _ _ (by omega) (by omega)).mono ?_; rintro e w' ⟨rfl, rfl⟩)
        go_roundw
        case rel => exact ⟨k + 1, by omega, by go_num, by rw [HE.out]; simp [step32], HST.out, hnx⟩
        case measure => simp [intOf]; omega
      · go_wp2_with (go_at_call 43; refine (wrapped_any _ _ (by omega) (by omega)).mono ?_; rintro e w' ⟨rfl, rfl⟩)
        go_roundw
        case rel => exact ⟨k + 1, by omega, by go_num, by rw [HE.out]; simp [step32], HST.out, hnx⟩
        case measure => simp [intOf]; omega
      · obtain ⟨b1, b2⟩ := mul_bd hv1 hv2 hy1 hy2
        go_wp2_with (go_at_call 43; refine (wrapped_any _ _ (by omega) (by omega)).mono ?_; rintro e w' ⟨rfl, rfl⟩)
        go_roundw
        case rel => exact ⟨k + 1, by omega, by go_num, by rw [HE.out]; simp [step32], HST.out, hnx⟩
        case measure => simp [intOf]; omega
      · have hyz : (y == 0) = true := beq_iff_eq.mpr hb
        have HY : Hid (y = 0) := hb
        clear hb
        go_wp2_with (go_at_call 43; refine (wrapped_any _ _ (by omega) (by omega)).mono ?_; rintro e w' ⟨rfl, rfl⟩)
        go_roundw
        case rel => exact ⟨k + 1, by omega, by go_num, by rw [HE.out]; simp [step32, HY.out, wrap32], HST.out, hnx⟩
        case measure => simp [intOf]; omega
      · have hyz : (y == 0) = false := beq_eq_false_iff_ne.mpr hb
        obtain ⟨b1, b2⟩ := tdiv_bd (y := y) hv1 hv2
        go_wp2_with (go_at_call 43; refine (wrapped_any _ _ (by omega) (by omega)).mono ?_; rintro e w' ⟨rfl, rfl⟩)
        go_roundw
        case rel => exact ⟨k + 1, by omega, by go_num, by rw [HE.out]; simp [step32, hb], HST.out, hnx⟩
        case measure => simp [intOf]; omega
    · have hz : k = ts.length := by omega
      subst hz
      obtain ⟨hv1, hv2⟩ := evalL_bd x ts ts.length
      rw [List.take_length] at hv1 hv2 ⊢
      go_wp2
      go_ret
      exact ⟨rfl, hnx⟩

end Go.Proofs.Ytpfcacedpkaihaa
