/- The document's touches, nodeOf, both and Last (package almanacref), walked. -/
import Derived.Test.YtkednbbjofeecaaGreatGd
namespace Go.Proofs.YtkednbbjofeecaaGreat
open Go.RowKit

set_option maxHeartbeats 1000000 in
theorem rtouches (w : World) (b : Nat) (R : RefS) (t : Nat) (K : Int) (p : PastE) (h : Ref w b R) (hf : R.Fit) (hp : R.past[t]? = some p) :
    Calls Tryz.prog 116 #[.pointer (some ⟨b, 0, none⟩), .int .u64 t, .int .u8 K] w fun e w' => e = .returned (.bool (bits .and .u8 p.keys K != 0)) ∧ w = w' := by
  obtain ⟨hlt, hp'⟩ := List.getElem?_eq_some_iff.mp hp
  have hm := hf.pmax
  obtain ⟨g, cap, hv, ho, _⟩ := h.past.block (by omega)
  have c0 := h.c0
  rw [hv] at c0
  have hcell := h.past.cell ho (t * 10 + 8) _ (by rw [past_at R.past t hlt 8 (by omega), hp']; rfl)
  clear h hf hv ho hp hp'
  go_enter Tryz.func116, Tryz.ntmps116
  go_wp2
  go_ret
  exact ⟨rfl, rfl⟩

/-- the sum of some bytes. -/
def sumB (l : List UInt8) : Nat := l.foldl (fun s c => s + c.toNat) 0
theorem sumB_snoc (l : List UInt8) (j : Nat) (h : j < l.length) : sumB (l.take (j + 1)) = sumB (l.take j) + l[j].toNat := by
  rw [sumB, List.take_succ_eq_append_getElem h, List.foldl_append]; rfl
theorem sumB_le (l : List UInt8) (j : Nat) (hj : j ≤ l.length) : sumB (l.take j) ≤ 255 * j := by
  induction j with
  | zero => simp [sumB]
  | succ k ih =>
    have h1 := ih (by omega)
    rw [sumB_snoc l k (by omega)]
    have h2 : (l[k]'(by omega)).toNat < 256 := UInt8.toNat_lt _
    omega

set_option maxHeartbeats 1000000 in
theorem rnodeOf (w : World) (b : Nat) (R : RefS) (q : ByteArray) (h : Ref w b R) (hf : R.Fit) (hq : q.size ≤ 40) :
    Calls Tryz.prog 88 #[.pointer (some ⟨b, 0, none⟩), .string q] w fun e w' => e = .returned (.int .i64 ((sumB q.data.toList % R.nodes.length : Nat) : Int)) ∧ w = w' := by
  have hn0 := hf.npos
  have hn1 := hf.nmax
  obtain ⟨ao, cap, hv, _⟩ := h.nodes.form
  have c3 := h.c3
  rw [hv] at c3
  have hql : q.data.toList.length = q.size := by rw [Array.length_toList]; rfl
  clear h hf hv
  go_enter Tryz.func88, Tryz.ntmps88
  go_wp2
  go_loop [5, 6] (fun s i => ∃ k : Nat, k ≤ q.size ∧ i = .int .i64 k ∧ s = .int .i64 (sumB (q.data.toList.take k) : Nat)) (fun _ i => q.size - (intOf i).toNat)
  case atStart => exact ⟨0, Nat.zero_le _, rfl, rfl⟩
  case round =>
    obtain ⟨k, hk, rfl, rfl⟩ := hrel
    have hle := sumB_le q.data.toList k (by omega)
    by_cases hlt : k < q.size
    · have HS : Hid (sumB (q.data.toList.take (k + 1)) = sumB (q.data.toList.take k) + q[k].toNat) := by
        show _ = _
        rw [sumB_snoc q.data.toList k (by omega)]; rfl
      have hb : q[k].toNat < 256 := UInt8.toNat_lt _
      go_wp2
      go_round
      case rel => exact ⟨k + 1, by omega, by go_num, by rw [HS.out]; go_num⟩
      case measure => simp [intOf]; omega
    · have hkk : k = q.size := by omega
      subst hkk
      rw [List.take_of_length_le (by omega)] at hle ⊢
      go_wp2
      go_ret
      exact ⟨rt_int (by simp), rfl⟩

set_option maxHeartbeats 1000000 in
theorem rlast (w : World) (q : Value) (val : Int) (fr till kn hz : Nat) (op : Bool) (hq : ∃ s, q = .string s) (ht : op = false → 1 ≤ till) (hb : till ≤ 701 ∧ kn ≤ 700 ∧ hz ≤ 700) :
    Calls Tryz.prog 91 #[.agg #[q, .int .i32 val, .int .u64 fr, .int .u64 till, .bool op, .int .u64 kn], .int .u64 hz] w fun e w' => e = .returned (.int .u64 (((if op then max kn hz else till - 1) : Nat) : Int)) ∧ Below w.heap.size w w' := by
  obtain ⟨s, rfl⟩ := hq
  obtain ⟨hb1, hb2, hb3⟩ := hb
  cases op with
  | false =>
    have h1 : 1 ≤ till := ht rfl
    clear ht
    go_enter Tryz.func91, Tryz.ntmps91
    go_wp2
    go_ret
    exact ⟨rt_int (by omega), (Below.refl _ _).alloc (Nat.le_refl _) _⟩
  | true =>
    clear ht
    by_cases hc : hz < kn
    · go_enter Tryz.func91, Tryz.ntmps91
      go_wp2
      go_ret
      exact ⟨rt_int (by omega), (Below.refl _ _).alloc (Nat.le_refl _) _⟩
    · go_enter Tryz.func91, Tryz.ntmps91
      go_wp2
      go_ret
      exact ⟨rt_int (by omega), (Below.refl _ _).alloc (Nat.le_refl _) _⟩

end Go.Proofs.YtkednbbjofeecaaGreat
