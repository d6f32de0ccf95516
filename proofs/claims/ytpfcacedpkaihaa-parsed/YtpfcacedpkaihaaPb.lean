/- The law Parsed, walked. -/
import Derived.Test.YtpfcacedpkaihaaPa
import Derived.Deep.QuietTactic
import Derived.BigQuiet
namespace Go.Proofs.Ytpfcacedpkaihaa
open Go.RowKit
set_option maxRecDepth 100000

def pickN (c : Int) (n : Nat) : Nat := ((if c < 0 then -(c + 1) else c) % (n : Int)).toNat
theorem pickN_lt (c : Int) (n : Nat) (hn : 0 < n) : pickN c n < n := by
  unfold pickN
  have := Int.emod_lt_of_pos (if c < 0 then -(c + 1) else c) (show (0 : Int) < n by omega)
  have := Int.emod_nonneg (if c < 0 then -(c + 1) else c) (show (n : Int) ≠ 0 by omega)
  omega
theorem ret_intw {k : IntKind} {a b : Int} {w w' : World} (h : a = b) (hw : w' = w) : Ending.returned (.int k a) = .returned (.int k b) ∧ w' = w := by rw [h, hw]; exact ⟨rfl, rfl⟩

theorem neg_tmod_pos (a b : Int) (h : a ≤ 0) : a.tmod b = -((-a) % b) := by
  have e : a = -(-a) := by omega
  rw [e, Int.neg_tmod, Int.tmod_eq_emod_of_nonneg (by omega), Int.neg_neg]

theorem tdiv8_bd {z : Int} (h1 : -9223372036854775808 ≤ z) (h2 : z ≤ 9223372036854775807) : -9223372036854775808 ≤ z.tdiv 8 ∧ z.tdiv 8 ≤ 9223372036854775807 := by
  have h : (z.tdiv 8).natAbs = z.natAbs.div 8 := Int.natAbs_tdiv z 8
  have h3 : z.natAbs.div 8 = z.natAbs / 8 := rfl
  rw [h3] at h
  omega
theorem sgB_size (a : Nat) : (sgB a).size ≤ 2 := by unfold sgB; split <;> decide

set_option maxHeartbeats 400000 in
theorem pick_any (c : Int) (n : Nat) (w : World) (h1 : -9223372036854775808 ≤ c) (h2 : c ≤ 9223372036854775807) (hn : n = 4 ∨ n = 8) :
    Calls Try.prog 14 #[.int .i64 c, .int .i64 n] w fun e w' => e = .returned (.int .i64 (pickN c n : Int)) ∧ w' = w := by
  by_cases h0 : c < 0
  · have HP : Hid ((pickN c n : Int) = (-(c + 1)) % (n : Int)) := by
      show _ = _
      unfold pickN
      rw [if_pos h0, Int.toNat_of_nonneg (Int.emod_nonneg _ (by omega))]
    rcases hn with rfl | rfl
    all_goals
      go_enter Try.func14, Try.ntmps14
      go_wp2
      go_ret
      refine ret_intw ?_ rfl
      rw [HP.out]
      first | omega | (rw [neg_tmod_pos _ _ (by omega)]; omega)
  · have HP : Hid ((pickN c n : Int) = c % (n : Int)) := by
      show _ = _
      unfold pickN
      rw [if_neg h0, Int.toNat_of_nonneg (Int.emod_nonneg _ (by omega))]
    rcases hn with rfl | rfl
    all_goals
      go_enter Try.func14, Try.ntmps14
      go_wp2
      go_ret
      refine ret_intw ?_ rfl
      rw [HP.out]; omega

theorem sgB_cell (w : World) (E : TypeId) (a : Nat) (h : a < 4) : (w.alloc (.cells #[.string ⟨#[43]⟩, .string ⟨#[45]⟩, .string ⟨#[195, 151]⟩, .string ⟨#[195, 183]⟩] E)).cell? ⟨w.heap.size, a, none⟩ = some (.string (sgB a)) := by
  have hc : a = 0 ∨ a = 1 ∨ a = 2 ∨ a = 3 := by omega
  rcases hc with rfl | rfl | rfl | rfl <;> simp [sgB]

theorem letter_at (k : Nat) (h : k ≤ 7) : ((⟨#[97, 98, 99, 100, 101, 102, 103, 104]⟩ : ByteArray).extract k (k + 1)).data.toList = [letB k] := by
  have hc : k = 0 ∨ k = 1 ∨ k = 2 ∨ k = 3 ∨ k = 4 ∨ k = 5 ∨ k = 6 ∨ k = 7 := by omega
  rcases hc with rfl | rfl | rfl | rfl | rfl | rfl | rfl | rfl <;> decide

theorem pow_bit {k : Nat} (h : k < 8) : (2 : Int) ^ k % 256 = bitN k := by
  have hc : k = 0 ∨ k = 1 ∨ k = 2 ∨ k = 3 ∨ k = 4 ∨ k = 5 ∨ k = 6 ∨ k = 7 := by omega
  rcases hc with rfl | rfl | rfl | rfl | rfl | rfl | rfl | rfl <;> decide
theorem keys_more (vs : List (Nat × Nat)) (a b : Nat) : keysL ((0, 2) :: (vs ++ [(a, b)])) = bits .or .u8 (keysL ((0, 2) :: vs)) (bitN b) := by
  simp [keysL, List.foldl_append]
theorem rend_more (vs : List (Nat × Nat)) (a b : Nat) : rend (vs ++ [(a, b)]) = rend vs ++ ((sgB a).data.toList ++ [letB b]) := by simp [rend]
theorem app_data (a b : ByteArray) : (a ++ b).data.toList = a.data.toList ++ b.data.toList := by simp

/-- the calls of Parse at the end of the law. -/
theorem four_texts (t : ByteArray) (vs : List (Nat × Nat)) (ht : t.data.toList = 99 :: rend vs) (hv : ∀ t ∈ vs, t.1 ≤ 3 ∧ t.2 ≤ 7) (h7 : vs.length ≤ 7) (hts : t.size ≤ 22) :
    (∀ W, Calls Try.prog 10 #[.string t] W fun e w' => e = .returned (.tuple #[.agg #[.int .u8 (keysL ((0, 2) :: vs)), .int .i64 ((vs.length : Int) + 1)], .int .i64 0]) ∧ Below W.heap.size W w') ∧
    (∀ W, Calls Try.prog 10 #[.string (t ++ ⟨#[97]⟩)] W fun e w' => e = .returned (.tuple #[.agg #[.int .u8 0, .int .i64 0], .int .i64 4]) ∧ Below W.heap.size W w') ∧
    (∀ W, Calls Try.prog 10 #[.string (t ++ ⟨#[43]⟩)] W fun e w' => e = .returned (.tuple #[.agg #[.int .u8 0, .int .i64 0], .int .i64 4]) ∧ Below W.heap.size W w') ∧
    (∀ W, Calls Try.prog 10 #[.string (⟨#[45]⟩ ++ t)] W fun e w' => e = .returned (.tuple #[.agg #[.int .u8 0, .int .i64 0], .int .i64 4]) ∧ Below W.heap.size W w') := by
  have m1 : ∀ c : UInt8, (t ++ ⟨#[c]⟩ : ByteArray).size ≤ maxLen := fun c => by rw [ByteArray.size_append]; show t.size + 1 ≤ maxLen; unfold maxLen; omega
  have m2 : (⟨#[45]⟩ ++ t : ByteArray).size ≤ maxLen := by rw [ByteArray.size_append]; show 1 + t.size ≤ maxLen; unfold maxLen; omega
  refine ⟨fun W => ?_, fun W => ?_, fun W => ?_, fun W => ?_⟩
  · have h := aParse_any t W (by unfold maxLen; omega)
    rw [read_text t vs ht hv h7] at h
    simpa using h
  · have h := aParse_any (t ++ ⟨#[97]⟩) W (m1 97)
    rw [app_data, read_more t.data.toList 97 vs ht hv h7 (.inl rfl)] at h
    exact h
  · have h := aParse_any (t ++ ⟨#[43]⟩) W (m1 43)
    rw [app_data, read_more t.data.toList 43 vs ht hv h7 (.inr rfl)] at h
    exact h
  · have h := aParse_any (⟨#[45]⟩ ++ t) W m2
    rw [app_data, show (⟨#[45]⟩ : ByteArray).data.toList ++ t.data.toList = 45 :: t.data.toList from rfl, read_less t.data.toList vs ht h7] at h
    exact h

set_option maxHeartbeats 2000000 in
theorem parsed_some (b off len cap : Nat) (zs : List Int) (w : World) (hlc : len ≤ cap) (hm : cap ≤ maxLen) (hz : zs.length = cap) (hlen : 0 < len)
    (hcell : ∀ i, i < zs.length → w.cell? ⟨b, off + i, none⟩ = some (.int .i64 (zs.getD i 0))) (hwf : ∀ i, -9223372036854775808 ≤ zs.getD i 0 ∧ zs.getD i 0 ≤ 9223372036854775807) :
    Calls Try.prog 6 #[.slice (some ⟨b, off, none⟩) len cap] w fun e w' => e = .returned (.bool true) ∧ Below w.heap.size w w' := by
  unfold maxLen at hm
  have hbw : b < w.heap.size := by have := hcell 0 (by omega); exact World.block_lt_of_cell? w _ this
  have HCE : Hid (∀ i, i < zs.length → w.cell? ⟨b, off + i, none⟩ = some (.int .i64 (zs.getD i 0))) := hcell
  have HWF : Hid (∀ i, -9223372036854775808 ≤ zs.getD i 0 ∧ zs.getD i 0 ≤ 9223372036854775807) := hwf
  clear hcell hwf
  go_enter Try.func6, Try.ntmps6
  go_wp2
  go_loopw [5, 6, 7, 8] (fun tx st n i wr => ∃ (k : Nat) (t : ByteArray) (vs : List (Nat × Nat)), k ≤ len ∧ k ≤ 7 ∧ i = .int .i64 k ∧ n = .int .i64 (k + 1 : Nat) ∧ tx = .string t ∧ st = .int .u8 (keysL ((0, 2) :: vs)) ∧ vs.length = k ∧
      Hid (t.data.toList = 99 :: rend vs) ∧ Hid (∀ t ∈ vs, t.1 ≤ 3 ∧ t.2 ≤ 7) ∧ (∀ a, a < 4 → wr.cell? ⟨w.heap.size, a, none⟩ = some (.string (sgB a))) ∧ Below w.heap.size w wr)
    (fun _ _ _ i _ => 7 - (intOf i).toNat)
  case atStart => exact ⟨0, _, [], Nat.zero_le _, Nat.zero_le _, rfl, rfl, rfl, rfl, rfl, rfl, fun t ht => by simp at ht, fun a ha => sgB_cell w _ a ha, (Below.refl _ _).alloc (Nat.le_refl _) _⟩
  case round =>
    obtain ⟨k, t, vs, hkl, hk7, rfl, rfl, rfl, rfl, hvl, HT, HV, hsg, hnx⟩ := hrel
    by_cases hgo : k < len ∧ k < 7
    · obtain ⟨hgo1, hgo2⟩ := hgo
      have hl' : (k : Int) < (len : Int) := by omega
      have hd1 : decide ((k : Int) < (len : Int)) = true := by simpa using hl'
      obtain ⟨z, hzz⟩ : ∃ z, z = zs.getD k 0 := ⟨_, rfl⟩
      have hc := (hnx.cell (p := ⟨b, off + k, none⟩) hbw).trans (HCE.out k (by omega))
      have hzb := HWF.out k
      rw [← hzz] at hc hzb
      obtain ⟨hz1, hz2⟩ := hzb
      clear hzz
      obtain ⟨hq1, hq2⟩ := tdiv8_bd hz1 hz2
      have ka := fun W => pick_any z 8 W hz1 hz2 (.inr rfl)
      have kb := fun W => pick_any (z.tdiv 8) 4 W hq1 hq2 (.inl rfl)
      obtain ⟨ky, hky⟩ : ∃ ky, ky = pickN z 8 := ⟨_, rfl⟩
      obtain ⟨sa, hsa⟩ : ∃ sa, sa = pickN (z.tdiv 8) 4 := ⟨_, rfl⟩
      have hky7 : ky < 8 := by rw [hky]; exact pickN_lt z 8 (by omega)
      have hsa4 : sa < 4 := by rw [hsa]; exact pickN_lt _ 4 (by omega)
      rw [← hky] at ka
      rw [← hsa] at kb
      have KA : Hid (∀ W, Calls Try.prog 14 #[.int .i64 z, .int .i64 8] W fun e w' => e = .returned (.int .i64 (ky : Int)) ∧ W = w') := fun W => (ka W).mono fun _ _ h => ⟨h.1, h.2.symm⟩
      have KB : Hid (∀ W, Calls Try.prog 14 #[.int .i64 (z.tdiv 8), .int .i64 4] W fun e w' => e = .returned (.int .i64 (sa : Int)) ∧ w' = W) := kb
      clear ka kb hky hsa
      have hsc := hsg sa hsa4
      have HSG : Hid (∀ a, a < 4 → wr.cell? ⟨w.heap.size, a, none⟩ = some (.string (sgB a))) := hsg
      clear hsg
      go_wp2_with (go_at_call 14; refine (KA.out _).mono ?_; rintro e w' ⟨rfl, rfl⟩)
      have hts : t.size ≤ 22 := by
        have h1 : t.data.toList.length = 1 + (rend vs).length := by rw [HT.out]; simp; omega
        have h2 := rend_length vs
        rw [Array.length_toList] at h1
        have h3 : t.size = 1 + (rend vs).length := h1
        omega
      have hss := sgB_size sa
      have hk8 : (ky : Int) + 1 ≤ 8 := by omega
      go_quiet ((go_at_call 14; exact Calls.quiet_of_same (KB.out _)))
      go_wp2
      go_roundw
      case rel =>
        refine ⟨k + 1, _, vs ++ [(sa, ky)], by omega, by omega, by go_num, by go_num, rfl, ?_, by simp; omega, ?_, ?_, HSG.out, below_drewN hnx _⟩
        · rw [keys_more, pow_bit hky7]
        · show _ = _
          rw [app_data, app_data, HT.out, letter_at ky (by omega), rend_more]; simp
        · intro u hu
          simp at hu
          rcases hu with hu | rfl
          · exact HV.out u hu
          · exact ⟨by show sa ≤ 3; omega, by show ky ≤ 7; omega⟩
      case measure => simp [intOf]; omega
    · have hts : t.size ≤ 22 := by
        have h1 : t.data.toList.length = 1 + (rend vs).length := by rw [HT.out]; simp; omega
        have h2 := rend_length vs
        rw [Array.length_toList] at h1
        have h3 : t.size = 1 + (rend vs).length := h1
        omega
      obtain ⟨p1, p2, p3, p4⟩ := four_texts t vs HT.out HV.out (by omega) hts
      rw [hvl] at p1
      obtain ⟨K, hK⟩ : ∃ K, K = keysL ((0, 2) :: vs) := ⟨_, rfl⟩
      rw [← hK] at p1 ⊢
      have P1 : Hid (∀ W, Calls Try.prog 10 #[.string t] W fun e w' => e = .returned (.tuple #[.agg #[.int .u8 K, .int .i64 ((k : Int) + 1)], .int .i64 0]) ∧ Below W.heap.size W w') := p1
      have P2 : Hid (∀ W, Calls Try.prog 10 #[.string (t ++ ⟨#[97]⟩)] W fun e w' => e = .returned (.tuple #[.agg #[.int .u8 0, .int .i64 0], .int .i64 4]) ∧ Below W.heap.size W w') := p2
      have P3 : Hid (∀ W, Calls Try.prog 10 #[.string (t ++ ⟨#[43]⟩)] W fun e w' => e = .returned (.tuple #[.agg #[.int .u8 0, .int .i64 0], .int .i64 4]) ∧ Below W.heap.size W w') := p3
      have P4 : Hid (∀ W, Calls Try.prog 10 #[.string (⟨#[45]⟩ ++ t)] W fun e w' => e = .returned (.tuple #[.agg #[.int .u8 0, .int .i64 0], .int .i64 4]) ∧ Below W.heap.size W w') := p4
      clear p1 p2 p3 p4 hK hsg
      have hcase : (k : Int) < (len : Int) ∧ ¬ ((k : Int) + 1 < 8) ∨ ¬ (k : Int) < (len : Int) := by omega
      have HNX : Hid (Below w.heap.size w wr) := hnx
      clear hnx hgo
      rcases hcase with ⟨hl1, hl2⟩ | hl1
      all_goals
        go_wp2_with (first
          | (go_at_call 10; refine (P1.out _).mono ?_; rintro e w1 ⟨rfl, hb1⟩)
          | (go_at_call 10; refine (P2.out _).mono ?_; rintro e w2 ⟨rfl, hb2⟩; have z2 : w1.heap.size < w2.heap.size := (by have := hb2.size; simp at this; omega); have c20 := hb2.cell (p := ⟨w1.heap.size, 0, none⟩) (by simp); have c21 := hb2.cell (p := ⟨w1.heap.size, 1, none⟩) (by simp); simp [go_sem] at c20 c21)
          | (go_at_call 10; refine (P3.out _).mono ?_; rintro e w3 ⟨rfl, hb3⟩; have z3 : w2.heap.size < w3.heap.size := (by have := hb3.size; simp at this; omega); have z31 : w1.heap.size < w3.heap.size := (by omega); have c30 := hb3.cell (p := ⟨w1.heap.size, 0, none⟩) (by simp; omega); have c31 := hb3.cell (p := ⟨w1.heap.size, 1, none⟩) (by simp; omega); simp [go_sem, z2, c20, c21] at c30 c31)
          | (go_at_call 10; refine (P4.out _).mono ?_; rintro e w4 ⟨rfl, hb4⟩; have z4 : w3.heap.size < w4.heap.size := (by have := hb4.size; simp at this; omega); have z41 : w1.heap.size < w4.heap.size := (by omega); have c40 := hb4.cell (p := ⟨w1.heap.size, 0, none⟩) (by simp; omega); have c41 := hb4.cell (p := ⟨w1.heap.size, 1, none⟩) (by simp; omega); simp [go_sem, z31, c30, c31] at c40 c41))
        go_ret
        have r1 : Below w.heap.size w w1 := HNX.out.trans (hb1.mono HNX.out.size)
        have r2 : Below w.heap.size w w2 := (r1.alloc r1.size _).trans (hb2.mono (by have := r1.size; simp; omega))
        have r3 : Below w.heap.size w w3 := (r2.alloc r2.size _).trans (hb3.mono (by have := r2.size; simp; omega))
        have r4 : Below w.heap.size w w4 := (r3.alloc r3.size _).trans (hb4.mono (by have := r3.size; simp; omega))
        exact ⟨rfl, r4.alloc r4.size _⟩

end Go.Proofs.Ytpfcacedpkaihaa
