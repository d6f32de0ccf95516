import Derived.Test.YtpfcacedpkaihaaGreatTaTbTnTc
/- The law's reader (package almanaclaw): Tick, Now, Begin, End at both worlds, walked. -/
namespace Go.Proofs.YtpfcacedpkaihaaGreat
open Go.RowKit

theorem Turned.from {w wb w' : World} {xb cb : Nat} {D : DevS} {R : RefS} (h : Turned wb w' xb cb D R) (k : Kept (fun _ => False) w wb) : Turned w w' xb cb D R := by
  obtain ⟨D', R', hp, hk, hf, hu⟩ := h
  exact ⟨D', R', hp, k.trans hk (fun _ => False.elim) (fun _ _ => id), fun i hi => (hf i hi).imp id fun x => Nat.le_trans k.size x, hu⟩

theorem Turned.still {w wb w' w2 : World} {xb cb : Nat} {D : DevS} {R : RefS} {F : Nat → Prop} (h : Turned wb w' xb cb D R) (k0 : Kept (fun _ => False) w wb) (k : Kept F w' w2) (hF : ∀ i, F i → w.heap.size ≤ i ∧ i < wb.heap.size) (hlt : ∀ i, pfp xb cb D R i → i < w.heap.size) : Turned w w2 xb cb D R := by
  obtain ⟨D', R', hp, hk, hf, hu⟩ := h
  refine ⟨D', R', hp.kept k fun j hj hfj => ?_, (k0.trans hk (H := pfp xb cb D R) (fun _ => False.elim) (fun _ _ => id)).trans k (fun _ => id) (fun i hi hfi => ?_), fun i hi => (hf i hi).imp id fun x => Nat.le_trans k0.size x, hu⟩
  · obtain ⟨a, c⟩ := hF j hfj
    rcases hf j hj with x | x
    · have := hlt j x; omega
    · omega
  · have := (hF i hfi).1; omega

/-- the world in which a step's function works: its pair and its step boxed. -/
def boxed (w : World) (xb cb : Nat) (kd a b c : Int) (s : ByteArray) (l : Value) : World :=
  (w.alloc (.cells #[.pointer (some ⟨xb, 0, none⟩), .pointer (some ⟨cb, 0, none⟩)] 44)).alloc (.cells #[.int .i64 kd, .int .i64 a, .int .i64 b, .int .i64 c, .string s, l] 37)
theorem boxed_kept (w : World) (xb cb : Nat) (kd a b c : Int) (s : ByteArray) (l : Value) : Kept (fun _ => False) w (boxed w xb cb kd a b c s l) := (Kept.alloc w _ _).allocNew _
theorem boxed_c {w w1 : World} {xb cb : Nat} {kd a b c : Int} {s : ByteArray} {l : Value} {F : Nat → Prop} (k : Kept F (boxed w xb cb kd a b c s l) w1) (hF : ∀ i, F i → i < w.heap.size) : w1.cell? ⟨w.heap.size, 1, none⟩ = some (.pointer (some ⟨cb, 0, none⟩)) :=
  k.keep (fun hf => by have := hF _ hf; simp at this) (by simp [boxed])
theorem boxed_b {w w1 : World} {xb cb : Nat} {kd a b c : Int} {s : ByteArray} {l : Value} {F : Nat → Prop} (k : Kept F (boxed w xb cb kd a b c s l) w1) (hF : ∀ i, F i → i < w.heap.size) : w1.cell? ⟨w.heap.size + 1, 2, none⟩ = some (.int .i64 b) :=
  k.keep (fun hf => by have := hF _ hf; simp at this; omega) (by simp [boxed])
theorem boxed_l {w w1 : World} {xb cb : Nat} {kd a b c : Int} {s : ByteArray} {l : Value} {F : Nat → Prop} (k : Kept F (boxed w xb cb kd a b c s l) w1) (hF : ∀ i, F i → i < w.heap.size) : w1.cell? ⟨w.heap.size + 1, 5, none⟩ = some l :=
  k.keep (fun hf => by have := hF _ hf; simp at this; omega) (by simp [boxed])

theorem boxed_size (w : World) (xb cb : Nat) (kd a b c : Int) (s : ByteArray) (l : Value) : (boxed w xb cb kd a b c s l).heap.size = w.heap.size + 2 := by simp [boxed]
/-- a new span of two stamps lies there as it was. -/
theorem span_box {w1 w3 : World} {a b : Value} {T : TypeId} {F : Nat → Prop} (k : Kept F (w1.alloc (.cells #[a, b] T)) w3) (hF : ∀ i, F i → i < w1.heap.size) : w3.cell? ⟨w1.heap.size, 0, none⟩ = some a ∧ w3.cell? ⟨w1.heap.size, 1, none⟩ = some b ∧ w1.heap.size < w3.heap.size :=
  ⟨k.keep (fun hf => by have := hF _ hf; simp at this) (by simp), k.keep (fun hf => by have := hF _ hf; simp at this) (by simp), by have := k.size; simp at this; omega⟩

def StepPost (w : World) (xb cb : Nat) (D : DevS) (R : RefS) (e : Ending) (w' : World) : Prop := e = .returned (.bool true) ∧ Turned w w' xb cb D R

set_option maxRecDepth 100000 in
set_option maxHeartbeats 1000000 in
theorem lreader_tick (w : World) (pb xb cb : Nat) (a b c : Int) (s : ByteArray) (ao : Option Addr) (n cap : Nat) (D : DevS) (R : RefS) (h : Pair w xb cb D R) :
    Calls Tryz.prog 15 #[.pointer (some ⟨pb, 0, none⟩), .agg #[.pointer (some ⟨xb, 0, none⟩), .pointer (some ⟨cb, 0, none⟩)], .agg #[.int .i64 3, .int .i64 a, .int .i64 b, .int .i64 c, .string s, .slice ao n cap]] w fun e w' => StepPost w xb cb D R e w' := by
  have hk := boxed_kept w xb cb 3 a b c s (.slice ao n cap)
  obtain ⟨r, hr⟩ := pair_tick (h.kept hk fun _ _ => id)
  have H0 : Hid (Calls Tryz.prog 31 #[.pointer (some ⟨xb, 0, none⟩)] (boxed w xb cb 3 a b c s (.slice ao n cap)) fun e w1 => e = .returned (.int .i64 r) ∧ Hid (Then 32 #[.pointer (some ⟨cb, 0, none⟩)] (boxed w xb cb 3 a b c s (.slice ao n cap)) w1 xb cb D R (.int .i64 r))) := hr
  have HK : Hid (Kept (fun _ => False) w (boxed w xb cb 3 a b c s (.slice ao n cap))) := hk
  have HL : Hid (∀ i, D.fp xb i → i < w.heap.size) := h.dev.lt
  clear hr hk h
  go_enter Tryz.func15, Tryz.ntmps15
  go_wp2_with first
    | (go_at_call 31; refine H0.out.mono ?_; rintro e w1 ⟨rfl, ht⟩; have q1 := boxed_c ht.out.1 HL.out)
    | (go_at_call 32; refine (ht.out.2 _ (Kept.refl _ _)).mono ?_; rintro e w3 ⟨rfl, hz, _⟩; have HZ : Hid (Turned (boxed w xb cb 3 a b c s (.slice ao n cap)) w3 xb cb D R) := hz; clear hz)
  go_ret
  exact ⟨rt_bool (by simp), HZ.out.from HK.out⟩

set_option maxRecDepth 100000 in
set_option maxHeartbeats 1000000 in
theorem lreader_now (w : World) (pb xb cb : Nat) (a b c : Int) (s : ByteArray) (ao : Option Addr) (n cap : Nat) (D : DevS) (R : RefS) (h : Pair w xb cb D R) :
    Calls Tryz.prog 15 #[.pointer (some ⟨pb, 0, none⟩), .agg #[.pointer (some ⟨xb, 0, none⟩), .pointer (some ⟨cb, 0, none⟩)], .agg #[.int .i64 4, .int .i64 a, .int .i64 b, .int .i64 c, .string s, .slice ao n cap]] w fun e w' => StepPost w xb cb D R e w' := by
  have hk := boxed_kept w xb cb 4 a b c s (.slice ao n cap)
  have hp := h.kept hk fun _ _ => id
  have H0 : Hid (Calls Tryz.prog 33 #[.pointer (some ⟨xb, 0, none⟩)] (boxed w xb cb 4 a b c s (.slice ao n cap)) fun e w1 => e = .returned (.tuple #[.int .u64 (D.past.length : Int), .int .i64 D.clock]) ∧ boxed w xb cb 4 a b c s (.slice ao n cap) = w1) := dnow _ xb D hp.dev hp.dfit
  obtain ⟨av, cv, hv, _⟩ := h.ref.past.form
  have c0 := h.ref.c0
  have c1 := h.ref.c1
  rw [hv, show R.past.length = D.past.length + 1 from h.sim.plen] at c0
  rw [show R.clock = D.clock from h.sim.clock] at c1
  have hcb := h.ref.blk.lt
  have hpm := h.dfit.pmax
  have HK : Hid (Kept (fun _ => False) w (boxed w xb cb 4 a b c s (.slice ao n cap))) := hk
  have HH : Hid (Pair w xb cb D R) := h
  clear hp hk h hv
  go_enter Tryz.func15, Tryz.ntmps15
  go_wp2_with (go_at_call 33; refine H0.out.mono ?_; rintro e w1 ⟨rfl, rfl⟩; unfold boxed)
  go_ret
  exact ⟨rt_bool (by simp), Turned.same HH.out HK.out (fun _ _ => id)⟩

set_option maxRecDepth 100000 in
set_option maxHeartbeats 1000000 in
theorem lreader_begin (w : World) (pb xb cb : Nat) (a b c : Int) (s : ByteArray) (ao : Option Addr) (n cap : Nat) (D : DevS) (R : RefS) (h : Pair w xb cb D R) :
    Calls Tryz.prog 15 #[.pointer (some ⟨pb, 0, none⟩), .agg #[.pointer (some ⟨xb, 0, none⟩), .pointer (some ⟨cb, 0, none⟩)], .agg #[.int .i64 5, .int .i64 a, .int .i64 b, .int .i64 c, .string s, .slice ao n cap]] w fun e w' => StepPost w xb cb D R e w' := by
  have hk := boxed_kept w xb cb 5 a b c s (.slice ao n cap)
  obtain ⟨x, y, hr⟩ := pair_begin (h.kept hk fun _ _ => id) b
  have H0 : Hid (Calls Tryz.prog 34 #[.pointer (some ⟨xb, 0, none⟩), .int .i64 b] (boxed w xb cb 5 a b c s (.slice ao n cap)) fun e w1 => e = .returned (.tuple #[.int .i64 x, .int .i64 y]) ∧ Hid (Then 35 #[.pointer (some ⟨cb, 0, none⟩), .int .i64 b] (boxed w xb cb 5 a b c s (.slice ao n cap)) w1 xb cb D R (.tuple #[.int .i64 x, .int .i64 y]))) := hr
  have HK : Hid (Kept (fun _ => False) w (boxed w xb cb 5 a b c s (.slice ao n cap))) := hk
  have HL : Hid (∀ i, D.fp xb i → i < w.heap.size) := h.dev.lt
  clear hr hk h
  go_enter Tryz.func15, Tryz.ntmps15
  go_wp2_with first
    | (go_at_call 34; refine H0.out.mono ?_; rintro e w1 ⟨rfl, ht⟩; have q1 := boxed_c ht.out.1 HL.out; have q2 := boxed_b ht.out.1 HL.out)
    | (go_at_call 35; refine (ht.out.2 _ (Kept.refl _ _)).mono ?_; rintro e w3 ⟨rfl, hz, _⟩; have HZ : Hid (Turned (boxed w xb cb 5 a b c s (.slice ao n cap)) w3 xb cb D R) := hz; clear hz)
  go_ret
  exact ⟨rt_bool (by simp), HZ.out.from HK.out⟩

set_option maxRecDepth 100000 in
set_option maxHeartbeats 1000000 in
theorem lreader_end (w : World) (pb xb cb : Nat) (a b c : Int) (s : ByteArray) (ao : Option Addr) (n cap : Nat) (D : DevS) (R : RefS) (h : Pair w xb cb D R) :
    Calls Tryz.prog 15 #[.pointer (some ⟨pb, 0, none⟩), .agg #[.pointer (some ⟨xb, 0, none⟩), .pointer (some ⟨cb, 0, none⟩)], .agg #[.int .i64 6, .int .i64 a, .int .i64 b, .int .i64 c, .string s, .slice ao n cap]] w fun e w' => StepPost w xb cb D R e w' := by
  have hk := boxed_kept w xb cb 6 a b c s (.slice ao n cap)
  obtain ⟨x, y, z, hr⟩ := pair_end (h.kept hk fun _ _ => id) b
  have H0 : Hid (Calls Tryz.prog 36 #[.pointer (some ⟨xb, 0, none⟩), .int .i64 b] (boxed w xb cb 6 a b c s (.slice ao n cap)) fun e w1 => e = .returned (.tuple #[.agg #[.int .u64 x, .int .u64 y], .int .i64 z]) ∧ Hid (Then 37 #[.pointer (some ⟨cb, 0, none⟩), .int .i64 b] (boxed w xb cb 6 a b c s (.slice ao n cap)) w1 xb cb D R (.tuple #[.agg #[.int .u64 x, .int .u64 y], .int .i64 z]))) := hr
  have HK : Hid (Kept (fun _ => False) w (boxed w xb cb 6 a b c s (.slice ao n cap))) := hk
  have HL : Hid (∀ i, D.fp xb i → i < w.heap.size) := h.dev.lt
  have HLR : Hid (∀ i, R.fp cb i → i < w.heap.size) := h.ref.lt
  have HP : Hid (∀ i, pfp xb cb D R i → i < w.heap.size) := h.lt
  clear hr hk h
  go_enter Tryz.func15, Tryz.ntmps15
  go_wp2_with first
    | (go_at_call 36; refine H0.out.mono ?_; rintro e w1 ⟨rfl, ht⟩; have q1 := boxed_c ht.out.1 HL.out; have q2 := boxed_b ht.out.1 HL.out; have hs1 := ht.out.1.size; have hs2 : w.heap.size + 2 ≤ w1.heap.size := Nat.le_trans (Nat.le_of_eq (boxed_size _ _ _ _ _ _ _ _ _).symm) hs1; have hs3 : w.heap.size < w1.heap.size := Nat.lt_of_lt_of_le (Nat.lt_add_of_pos_right (Nat.succ_pos 1)) hs2; have hs4 : w.heap.size + 1 < w1.heap.size := hs2; clear hs1)
    | (go_at_call 37; refine (ht.out.2 _ (Kept.alloc _ _ _)).mono ?_; rintro e w3 ⟨rfl, hz, hk3⟩; have HZ : Hid (Turned (boxed w xb cb 6 a b c s (.slice ao n cap)) w3 xb cb D R) := hz; clear hz; have y0 := span_box hk3 (fun i hi => Nat.lt_trans (HLR.out i hi) hs3); clear hk3)
  obtain ⟨y0, y1, y2⟩ := y0
  go_wp2
  go_ret
  exact ⟨rt_bool (by simp), HZ.out.still HK.out (Kept.alloc _ _ (fun _ => False)) (fun _ => False.elim) HP.out⟩

end Go.Proofs.YtpfcacedpkaihaaGreat

/- The law's reader at Read and memory at Drop (package almanaclaw), walked. -/
namespace Go.Proofs.YtpfcacedpkaihaaGreat
open Go.RowKit

theorem boxed_s {w w1 : World} {xb cb : Nat} {kd a b c : Int} {s : ByteArray} {l : Value} {F : Nat → Prop} (k : Kept F (boxed w xb cb kd a b c s l) w1) (hF : ∀ i, F i → i < w.heap.size) : w1.cell? ⟨w.heap.size + 1, 4, none⟩ = some (.string s) :=
  k.keep (fun hf => by have := hF _ hf; simp at this; omega) (by simp [boxed])

set_option maxRecDepth 100000 in
set_option maxHeartbeats 1000000 in
theorem lreader_read (w : World) (pb xb cb : Nat) (a b c : Int) (s : ByteArray) (ao : Option Addr) (n cap : Nat) (D : DevS) (R : RefS) (h : Pair w xb cb D R) (hus : (R.uses.length + 1) * 8 ≤ 140737488355328) (hs : s.size ≤ maxLen) :
    Calls Tryz.prog 15 #[.pointer (some ⟨pb, 0, none⟩), .agg #[.pointer (some ⟨xb, 0, none⟩), .pointer (some ⟨cb, 0, none⟩)], .agg #[.int .i64 7, .int .i64 a, .int .i64 b, .int .i64 c, .string s, .slice ao n cap]] w fun e w' => StepPost w xb cb D R e w' := by
  have hk := boxed_kept w xb cb 7 a b c s (.slice ao n cap)
  obtain ⟨x, f, z, hr⟩ := pair_read (h.kept hk fun _ _ => id) hus b s hs
  have H0 : Hid (Calls Tryz.prog 38 #[.pointer (some ⟨xb, 0, none⟩), .int .i64 b, .string s] (boxed w xb cb 7 a b c s (.slice ao n cap)) fun e w1 => e = .returned (.tuple #[.int .i32 x, .bool f, .int .i64 z]) ∧ Hid (Then 39 #[.pointer (some ⟨cb, 0, none⟩), .int .i64 b, .string s] (boxed w xb cb 7 a b c s (.slice ao n cap)) w1 xb cb D R (.tuple #[.int .i32 x, .bool f, .int .i64 z]))) := hr
  have HK : Hid (Kept (fun _ => False) w (boxed w xb cb 7 a b c s (.slice ao n cap))) := hk
  have HL : Hid (∀ i, D.fp xb i → i < w.heap.size) := h.dev.lt
  clear hr hk h hs hus
  go_enter Tryz.func15, Tryz.ntmps15
  go_wp2_with first
    | (go_at_call 38; refine H0.out.mono ?_; rintro e w1 ⟨rfl, ht⟩; have q1 := boxed_c ht.out.1 HL.out; have q2 := boxed_b ht.out.1 HL.out; have q4 := boxed_s ht.out.1 HL.out)
    | (go_at_call 39; refine (ht.out.2 _ (Kept.refl _ _)).mono ?_; rintro e w3 ⟨rfl, hz, _⟩; have HZ : Hid (Turned (boxed w xb cb 7 a b c s (.slice ao n cap)) w3 xb cb D R) := hz; clear hz)
  go_ret
  exact ⟨rt_bool (by simp), HZ.out.from HK.out⟩

set_option maxRecDepth 100000 in
set_option maxHeartbeats 1000000 in
theorem lmem_drop (w : World) (pb xb cb : Nat) (a b c : Int) (s : ByteArray) (ao : Option Addr) (n cap : Nat) (D : DevS) (R : RefS) (h : Pair w xb cb D R) :
    Calls Tryz.prog 16 #[.pointer (some ⟨pb, 0, none⟩), .agg #[.pointer (some ⟨xb, 0, none⟩), .pointer (some ⟨cb, 0, none⟩)], .agg #[.int .i64 9, .int .i64 a, .int .i64 b, .int .i64 c, .string s, .slice ao n cap]] w fun e w' => StepPost w xb cb D R e w' := by
  have hk := boxed_kept w xb cb 9 a b c s (.slice ao n cap)
  obtain ⟨r, hr⟩ := pair_drop (h.kept hk fun _ _ => id) b
  have H0 : Hid (Calls Tryz.prog 43 #[.pointer (some ⟨xb, 0, none⟩), .int .i64 b] (boxed w xb cb 9 a b c s (.slice ao n cap)) fun e w1 => e = .returned (.int .i64 r) ∧ Hid (Then 44 #[.pointer (some ⟨cb, 0, none⟩), .int .i64 b] (boxed w xb cb 9 a b c s (.slice ao n cap)) w1 xb cb D R (.int .i64 r))) := hr
  have HK : Hid (Kept (fun _ => False) w (boxed w xb cb 9 a b c s (.slice ao n cap))) := hk
  have HL : Hid (∀ i, D.fp xb i → i < w.heap.size) := h.dev.lt
  clear hr hk h
  go_enter Tryz.func16, Tryz.ntmps16
  go_wp2_with first
    | (go_at_call 43; refine H0.out.mono ?_; rintro e w1 ⟨rfl, ht⟩; have q1 := boxed_c ht.out.1 HL.out; have q2 := boxed_b ht.out.1 HL.out)
    | (go_at_call 44; refine (ht.out.2 _ (Kept.refl _ _)).mono ?_; rintro e w3 ⟨rfl, hz, _⟩; have HZ : Hid (Turned (boxed w xb cb 9 a b c s (.slice ao n cap)) w3 xb cb D R) := hz; clear hz)
  go_ret
  exact ⟨rt_bool (by simp), HZ.out.from HK.out⟩

end Go.Proofs.YtpfcacedpkaihaaGreat
