import Derived.Test.YtpfcacedpkaihaaGreatHqLp0LeLp
import Derived.Deep.DeepCutAuto
import Derived.Test.YtpfcacedpkaihaaGreatLaLbLh
import Derived.Deep.RegionHeld3
/- The great statement of book.entries (package almanaclaw): whatever order is picked, a list with one, two and three marks more comes out. -/
namespace Go.Proofs.YtpfcacedpkaihaaGreat
open Go.RowKit

/-- the statement's operations, as the program has them. -/
def opsE : Array Oper := #[
    { dst := some 14, op := .move (.tmp 1), type := 51, pos := "book.go:41", after := #[], guard := none },
    { dst := some 15, op := .move (.tmp 1), type := 51, pos := "book.go:41", after := #[], guard := none },
    { dst := some 16, op := .load 55 (.tmp 4), type := 55, pos := "book.go:41", after := #[], guard := none },
    { dst := some 17, op := .buildSlice 51 1 #[(0, .tmp 16)], type := 51, pos := "book.go:41", after := #[{ on := 2, ground := .data }], guard := none },
    { dst := some 18, op := .call { callee := .builtin .append, args := #[.tmp 15, .tmp 17], argTypes := #[51, 51] }, type := 51, pos := "book.go:41", after := #[{ on := 1, ground := .data }, { on := 3, ground := .data }], guard := none },
    { dst := some 19, op := .move (.tmp 1), type := 51, pos := "book.go:41", after := #[], guard := none },
    { dst := some 20, op := .load 55 (.tmp 4), type := 55, pos := "book.go:41", after := #[], guard := none },
    { dst := some 21, op := .load 55 (.tmp 4), type := 55, pos := "book.go:41", after := #[], guard := none },
    { dst := some 22, op := .buildSlice 51 2 #[(0, .tmp 20), (1, .tmp 21)], type := 51, pos := "book.go:41", after := #[{ on := 6, ground := .data }, { on := 7, ground := .data }], guard := none },
    { dst := some 23, op := .call { callee := .builtin .append, args := #[.tmp 19, .tmp 22], argTypes := #[51, 51] }, type := 51, pos := "book.go:41", after := #[{ on := 5, ground := .data }, { on := 8, ground := .data }, { on := 4, ground := .chain }], guard := none },
    { dst := some 24, op := .move (.tmp 1), type := 51, pos := "book.go:41", after := #[], guard := none },
    { dst := some 25, op := .load 55 (.tmp 4), type := 55, pos := "book.go:41", after := #[], guard := none },
    { dst := some 26, op := .load 55 (.tmp 4), type := 55, pos := "book.go:41", after := #[], guard := none },
    { dst := some 27, op := .load 55 (.tmp 4), type := 55, pos := "book.go:41", after := #[], guard := none },
    { dst := some 28, op := .buildSlice 51 3 #[(0, .tmp 25), (1, .tmp 26), (2, .tmp 27)], type := 51, pos := "book.go:41", after := #[{ on := 11, ground := .data }, { on := 12, ground := .data }, { on := 13, ground := .data }], guard := none },
    { dst := some 29, op := .call { callee := .builtin .append, args := #[.tmp 24, .tmp 28], argTypes := #[51, 51] }, type := 51, pos := "book.go:41", after := #[{ on := 10, ground := .data }, { on := 14, ground := .data }, { on := 9, ground := .chain }], guard := none },
    { dst := some 30, op := .buildSlice 49 4 #[(0, .tmp 14), (1, .tmp 18), (2, .tmp 23), (3, .tmp 29)], type := 49, pos := "book.go:41", after := #[{ on := 0, ground := .data }, { on := 4, ground := .data }, { on := 9, ground := .data }, { on := 15, ground := .data }], guard := none },
    { dst := some 5, op := .assign (.tmp 30), type := 49, pos := "book.go:41", after := #[{ on := 16, ground := .data }, { on := 15, ground := .chain }, { on := 0, ground := .phase }, { on := 1, ground := .phase }, { on := 2, ground := .phase }, { on := 3, ground := .phase }, { on := 4, ground := .phase }, { on := 5, ground := .phase }, { on := 6, ground := .phase }, { on := 7, ground := .phase }, { on := 8, ground := .phase }, { on := 9, ground := .phase }, { on := 10, ground := .phase }, { on := 11, ground := .phase }, { on := 12, ground := .phase }, { on := 13, ground := .phase }, { on := 14, ground := .phase }, { on := 15, ground := .phase }, { on := 16, ground := .phase }], guard := none }]

theorem toQ {a : Act} {k : Nat} {v : Value} (h : a.tmps.getD k undef = v) : a.tmps[k]?.getD undef = v := by rw [← h, Array.getD_eq_getD_getElem?]
theorem inj (i : Nat) (hi : i < 18) : ∀ j, j < 18 → j ≠ i → dstE j ≠ dstE i := by
  intro j hj hne
  unfold dstE
  split <;> split <;> omega
theorem one_mark (i : Nat) : ∀ u ∈ (markE i).toList, u.oneCell' = true := by
  intro u hu; simp [markE] at hu; rcases hu with rfl | rfl | rfl | rfl | rfl | rfl <;> rfl
theorem one_marks (i k : Nat) : ∀ u ∈ marksL i k, u.oneCell' = true := by
  induction k with
  | zero => intro u hu; cases hu
  | succ k ih =>
    intro u hu
    rw [marksL, List.mem_append] at hu
    exact hu.elim (one_mark i u) (ih u)
theorem lt18 {i : Nat} (h : i < 18) : i = 0 ∨ i = 1 ∨ i = 2 ∨ i = 3 ∨ i = 4 ∨ i = 5 ∨ i = 6 ∨ i = 7 ∨ i = 8 ∨ i = 9 ∨ i = 10 ∨ i = 11 ∨ i = 12 ∨ i = 13 ∨ i = 14 ∨ i = 15 ∨ i = 16 ∨ i = 17 := by omega

theorem dep_of {i on : Nat} {listed : Array Bool} (hj : i ∈ Region.ready .any opsE listed) (h : (opsE[i]?.map fun o => o.after.any fun e => e.on == on && Region.binds .any e) = some true) : listed.getD on false = true := by
  obtain ⟨_, o, ho, hdep⟩ := mem_ready.1 hj
  rw [ho] at h
  have h' : (o.after.any fun e => e.on == on && Region.binds .any e) = true := by simpa using h
  obtain ⟨k, hk, he⟩ := Array.any_eq_true.mp h'
  simp at he
  have := hdep _ (Array.getElem_mem hk) he.2
  rwa [he.1] at this

set_option maxRecDepth 100000 in
set_option maxHeartbeats 2000000 in
theorem entries_step {w0 w : World} {lo : Option Addr} {m lc i zb : Nat} {xs : List Value} {a0 a : Act} {listed : Array Bool} {Q : Exit → Act → World → Prop} (hlt : ∀ k, (Value.slice lo m lc).ownBlock = some k → k < w0.heap.size) (hz : (Value.slice lo m lc).ownBlock ≠ some zb) (hm : m ≤ 1000000)
    (h1 : a0.tmps.getD 1 undef = .slice lo m lc) (h4 : a0.tmps.getD 4 undef = .pointer (some ⟨zb, 0, none⟩)) (j : Nat)
    (hJ : RJ 18 63 dstE (fun k => a0.tmps.getD k undef) (SE w0 lo m lc i zb xs) (VE w0 lo m lc i) listed a w) (hj : j ∈ Region.ready .any opsE listed) :
    wpOp Tryz.prog opsE Q j (RJ 18 63 dstE (fun k => a0.tmps.getD k undef) (SE w0 lo m lc i zb xs) (VE w0 lo m lc i) (listed.setIfInBounds j true)) a w := by
  have l1 : a.tmps.getD 1 undef = .slice lo m lc := (hJ.old 1 (by intro q _; unfold dstE; split <;> omega)).trans h1
  have l4 : a.tmps.getD 4 undef = .pointer (some ⟨zb, 0, none⟩) := (hJ.old 4 (by intro q _; unfold dstE; split <;> omega)).trans h4
  obtain ⟨_, o, ho, _⟩ := mem_ready.1 hj
  have hlj : j < 18 := (Array.getElem?_eq_some_iff.mp ho).1
  clear ho
  rcases lt18 hlj with rfl | rfl | rfl | rfl | rfl | rfl | rfl | rfl | rfl | rfl | rfl | rfl | rfl | rfl | rfl | rfl | rfl | rfl
  · refine wpOp_of rfl rfl (op_move ?_)
    rw [l1]
    exact hJ.step 0 (by omega) _ (by simp [dstE]) (inj 0 (by omega)) (fun _ _ h => h) hJ.s rfl
  · refine wpOp_of rfl rfl (op_move ?_)
    rw [l1]
    exact hJ.step 1 (by omega) _ (by simp [dstE]) (inj 1 (by omega)) (fun _ _ h => h) hJ.s rfl
  · refine wpOp_of rfl rfl (op_load l4 hJ.s.z ?_)
    exact hJ.step 2 (by omega) _ (by simp [dstE]) (inj 2 (by omega)) (fun _ _ h => h) hJ.s rfl
  · have d0 := dep_of (on := 2) hj (by kernel_rfl)
    have v0 : VE w0 lo m lc i 2 w (a.tmps.getD 16 undef) := hJ.val 2 (by omega) d0
    refine wpOp_of rfl rfl (op_bs1 (toQ v0) ?_)
    exact hJ.step 3 (by omega) _ (by simp [dstE]) (inj 3 (by omega)) (VE.mono hlt (Kept.alloc _ _ _)) (hJ.s.alloc _) ⟨_, rfl, hJ.s.kept.size, Blk.new _ _ _⟩
  · have d0 := dep_of (on := 1) hj (by kernel_rfl)
    have v0 : VE w0 lo m lc i 1 w (a.tmps.getD 15 undef) := hJ.val 1 (by omega) d0
    have d1 := dep_of (on := 3) hj (by kernel_rfl)
    have v1 : VE w0 lo m lc i 3 w (a.tmps.getD 17 undef) := hJ.val 3 (by omega) d1
    obtain ⟨gb, e1, _, hb⟩ := v1
    refine wpOp_of rfl rfl (op_append (m := 1) (by omega) v0 e1 hJ.s.row hb rfl (one_marks i 1) hm (by omega) fun v' w' h1 h2 => ?_)
    obtain ⟨s1, s2, s3⟩ := hJ.s.app hz h1 h2
    exact hJ.step 4 (by omega) v' (by simp [dstE]) (inj 4 (by omega)) (VE.mono hlt s2) s1 s3
  · refine wpOp_of rfl rfl (op_move ?_)
    rw [l1]
    exact hJ.step 5 (by omega) _ (by simp [dstE]) (inj 5 (by omega)) (fun _ _ h => h) hJ.s rfl
  · refine wpOp_of rfl rfl (op_load l4 hJ.s.z ?_)
    exact hJ.step 6 (by omega) _ (by simp [dstE]) (inj 6 (by omega)) (fun _ _ h => h) hJ.s rfl
  · refine wpOp_of rfl rfl (op_load l4 hJ.s.z ?_)
    exact hJ.step 7 (by omega) _ (by simp [dstE]) (inj 7 (by omega)) (fun _ _ h => h) hJ.s rfl
  · have d0 := dep_of (on := 6) hj (by kernel_rfl)
    have v0 : VE w0 lo m lc i 6 w (a.tmps.getD 20 undef) := hJ.val 6 (by omega) d0
    have d1 := dep_of (on := 7) hj (by kernel_rfl)
    have v1 : VE w0 lo m lc i 7 w (a.tmps.getD 21 undef) := hJ.val 7 (by omega) d1
    refine wpOp_of rfl rfl (op_bs2 (toQ v0) (toQ v1) ?_)
    exact hJ.step 8 (by omega) _ (by simp [dstE]) (inj 8 (by omega)) (VE.mono hlt (Kept.alloc _ _ _)) (hJ.s.alloc _) ⟨_, rfl, hJ.s.kept.size, Blk.new _ _ _⟩
  · have d0 := dep_of (on := 5) hj (by kernel_rfl)
    have v0 : VE w0 lo m lc i 5 w (a.tmps.getD 19 undef) := hJ.val 5 (by omega) d0
    have d1 := dep_of (on := 8) hj (by kernel_rfl)
    have v1 : VE w0 lo m lc i 8 w (a.tmps.getD 22 undef) := hJ.val 8 (by omega) d1
    obtain ⟨gb, e1, _, hb⟩ := v1
    refine wpOp_of rfl rfl (op_append (m := 2) (by omega) v0 e1 hJ.s.row hb rfl (one_marks i 2) hm (by omega) fun v' w' h1 h2 => ?_)
    obtain ⟨s1, s2, s3⟩ := hJ.s.app hz h1 h2
    exact hJ.step 9 (by omega) v' (by simp [dstE]) (inj 9 (by omega)) (VE.mono hlt s2) s1 s3
  · refine wpOp_of rfl rfl (op_move ?_)
    rw [l1]
    exact hJ.step 10 (by omega) _ (by simp [dstE]) (inj 10 (by omega)) (fun _ _ h => h) hJ.s rfl
  · refine wpOp_of rfl rfl (op_load l4 hJ.s.z ?_)
    exact hJ.step 11 (by omega) _ (by simp [dstE]) (inj 11 (by omega)) (fun _ _ h => h) hJ.s rfl
  · refine wpOp_of rfl rfl (op_load l4 hJ.s.z ?_)
    exact hJ.step 12 (by omega) _ (by simp [dstE]) (inj 12 (by omega)) (fun _ _ h => h) hJ.s rfl
  · refine wpOp_of rfl rfl (op_load l4 hJ.s.z ?_)
    exact hJ.step 13 (by omega) _ (by simp [dstE]) (inj 13 (by omega)) (fun _ _ h => h) hJ.s rfl
  · have d0 := dep_of (on := 11) hj (by kernel_rfl)
    have v0 : VE w0 lo m lc i 11 w (a.tmps.getD 25 undef) := hJ.val 11 (by omega) d0
    have d1 := dep_of (on := 12) hj (by kernel_rfl)
    have v1 : VE w0 lo m lc i 12 w (a.tmps.getD 26 undef) := hJ.val 12 (by omega) d1
    have d2 := dep_of (on := 13) hj (by kernel_rfl)
    have v2 : VE w0 lo m lc i 13 w (a.tmps.getD 27 undef) := hJ.val 13 (by omega) d2
    refine wpOp_of rfl rfl (op_bs3 (toQ v0) (toQ v1) (toQ v2) ?_)
    exact hJ.step 14 (by omega) _ (by simp [dstE]) (inj 14 (by omega)) (VE.mono hlt (Kept.alloc _ _ _)) (hJ.s.alloc _) ⟨_, rfl, hJ.s.kept.size, Blk.new _ _ _⟩
  · have d0 := dep_of (on := 10) hj (by kernel_rfl)
    have v0 : VE w0 lo m lc i 10 w (a.tmps.getD 24 undef) := hJ.val 10 (by omega) d0
    have d1 := dep_of (on := 14) hj (by kernel_rfl)
    have v1 : VE w0 lo m lc i 14 w (a.tmps.getD 28 undef) := hJ.val 14 (by omega) d1
    obtain ⟨gb, e1, _, hb⟩ := v1
    refine wpOp_of rfl rfl (op_append (m := 3) (by omega) v0 e1 hJ.s.row hb rfl (one_marks i 3) hm (by omega) fun v' w' h1 h2 => ?_)
    obtain ⟨s1, s2, s3⟩ := hJ.s.app hz h1 h2
    exact hJ.step 15 (by omega) v' (by simp [dstE]) (inj 15 (by omega)) (VE.mono hlt s2) s1 s3
  · have d0 := dep_of (on := 0) hj (by kernel_rfl)
    have v0 : VE w0 lo m lc i 0 w (a.tmps.getD 14 undef) := hJ.val 0 (by omega) d0
    have d1 := dep_of (on := 4) hj (by kernel_rfl)
    have v1 : VE w0 lo m lc i 4 w (a.tmps.getD 18 undef) := hJ.val 4 (by omega) d1
    have d2 := dep_of (on := 9) hj (by kernel_rfl)
    have v2 : VE w0 lo m lc i 9 w (a.tmps.getD 23 undef) := hJ.val 9 (by omega) d2
    have d3 := dep_of (on := 15) hj (by kernel_rfl)
    have v3 : VE w0 lo m lc i 15 w (a.tmps.getD 29 undef) := hJ.val 15 (by omega) d3
    obtain ⟨g1, c1, e1, r1⟩ := v1
    obtain ⟨g2, c2, e2, r2⟩ := v2
    obtain ⟨g3, c3, e3, r3⟩ := v3
    refine wpOp_of rfl rfl (op_bs4 (toQ v0) (toQ e1) (toQ e2) (toQ e3) ?_)
    have mn := VE.mono (i := i) hlt (Kept.alloc w (.cells #[.slice lo m lc, .slice (some ⟨g1, 0, none⟩) (m + 1) c1, .slice (some ⟨g2, 0, none⟩) (m + 2) c2, .slice (some ⟨g3, 0, none⟩) (m + 3) c3] 51) (fun k => (Value.slice lo m lc).ownBlock = some k))
    exact hJ.step 16 (by omega) _ (by simp [dstE]) (inj 16 (by omega)) mn (hJ.s.alloc _) ⟨_, _, _, _, rfl, hJ.s.kept.size, Blk.new _ _ _, mn 4 _ ⟨g1, c1, rfl, r1⟩, mn 9 _ ⟨g2, c2, rfl, r2⟩, mn 15 _ ⟨g3, c3, rfl, r3⟩⟩
  · have d0 := dep_of (on := 16) hj (by kernel_rfl)
    have v0 : VE w0 lo m lc i 16 w (a.tmps.getD 30 undef) := hJ.val 16 (by omega) d0
    refine wpOp_of rfl rfl (op_assign ?_)
    exact hJ.step 17 (by omega) _ (by simp [dstE]) (inj 17 (by omega)) (fun _ _ h => h) hJ.s v0

end Go.Proofs.YtpfcacedpkaihaaGreat

/- The law's book.entries (package almanaclaw), walked. -/
namespace Go.Proofs.YtpfcacedpkaihaaGreat
open Go.RowKit

theorem uncons {l : List Value} {n : Nat} (h : l.length = n + 1) : ∃ x t, l = x :: t ∧ t.length = n := by
  match l, h with
  | x :: t, h => exact ⟨x, t, rfl, by simpa using h⟩

set_option maxRecDepth 100000 in
theorem array63 {cs : Array Value} (h : cs.size = 63) : ∃ x0 x1 x2 x3 x4 x5 x6 x7 x8 x9 x10 x11 x12 x13 x14 x15 x16 x17 x18 x19 x20 x21 x22 x23 x24 x25 x26 x27 x28 x29 x30 x31 x32 x33 x34 x35 x36 x37 x38 x39 x40 x41 x42 x43 x44 x45 x46 x47 x48 x49 x50 x51 x52 x53 x54 x55 x56 x57 x58 x59 x60 x61 x62, cs = #[x0, x1, x2, x3, x4, x5, x6, x7, x8, x9, x10, x11, x12, x13, x14, x15, x16, x17, x18, x19, x20, x21, x22, x23, x24, x25, x26, x27, x28, x29, x30, x31, x32, x33, x34, x35, x36, x37, x38, x39, x40, x41, x42, x43, x44, x45, x46, x47, x48, x49, x50, x51, x52, x53, x54, x55, x56, x57, x58, x59, x60, x61, x62] := by
  rcases cs with ⟨l0⟩
  have h0 : l0.length = 63 := h
  obtain ⟨x0, l1, e0, h1⟩ := uncons h0
  obtain ⟨x1, l2, e1, h2⟩ := uncons h1
  obtain ⟨x2, l3, e2, h3⟩ := uncons h2
  obtain ⟨x3, l4, e3, h4⟩ := uncons h3
  obtain ⟨x4, l5, e4, h5⟩ := uncons h4
  obtain ⟨x5, l6, e5, h6⟩ := uncons h5
  obtain ⟨x6, l7, e6, h7⟩ := uncons h6
  obtain ⟨x7, l8, e7, h8⟩ := uncons h7
  obtain ⟨x8, l9, e8, h9⟩ := uncons h8
  obtain ⟨x9, l10, e9, h10⟩ := uncons h9
  obtain ⟨x10, l11, e10, h11⟩ := uncons h10
  obtain ⟨x11, l12, e11, h12⟩ := uncons h11
  obtain ⟨x12, l13, e12, h13⟩ := uncons h12
  obtain ⟨x13, l14, e13, h14⟩ := uncons h13
  obtain ⟨x14, l15, e14, h15⟩ := uncons h14
  obtain ⟨x15, l16, e15, h16⟩ := uncons h15
  obtain ⟨x16, l17, e16, h17⟩ := uncons h16
  obtain ⟨x17, l18, e17, h18⟩ := uncons h17
  obtain ⟨x18, l19, e18, h19⟩ := uncons h18
  obtain ⟨x19, l20, e19, h20⟩ := uncons h19
  obtain ⟨x20, l21, e20, h21⟩ := uncons h20
  obtain ⟨x21, l22, e21, h22⟩ := uncons h21
  obtain ⟨x22, l23, e22, h23⟩ := uncons h22
  obtain ⟨x23, l24, e23, h24⟩ := uncons h23
  obtain ⟨x24, l25, e24, h25⟩ := uncons h24
  obtain ⟨x25, l26, e25, h26⟩ := uncons h25
  obtain ⟨x26, l27, e26, h27⟩ := uncons h26
  obtain ⟨x27, l28, e27, h28⟩ := uncons h27
  obtain ⟨x28, l29, e28, h29⟩ := uncons h28
  obtain ⟨x29, l30, e29, h30⟩ := uncons h29
  obtain ⟨x30, l31, e30, h31⟩ := uncons h30
  obtain ⟨x31, l32, e31, h32⟩ := uncons h31
  obtain ⟨x32, l33, e32, h33⟩ := uncons h32
  obtain ⟨x33, l34, e33, h34⟩ := uncons h33
  obtain ⟨x34, l35, e34, h35⟩ := uncons h34
  obtain ⟨x35, l36, e35, h36⟩ := uncons h35
  obtain ⟨x36, l37, e36, h37⟩ := uncons h36
  obtain ⟨x37, l38, e37, h38⟩ := uncons h37
  obtain ⟨x38, l39, e38, h39⟩ := uncons h38
  obtain ⟨x39, l40, e39, h40⟩ := uncons h39
  obtain ⟨x40, l41, e40, h41⟩ := uncons h40
  obtain ⟨x41, l42, e41, h42⟩ := uncons h41
  obtain ⟨x42, l43, e42, h43⟩ := uncons h42
  obtain ⟨x43, l44, e43, h44⟩ := uncons h43
  obtain ⟨x44, l45, e44, h45⟩ := uncons h44
  obtain ⟨x45, l46, e45, h46⟩ := uncons h45
  obtain ⟨x46, l47, e46, h47⟩ := uncons h46
  obtain ⟨x47, l48, e47, h48⟩ := uncons h47
  obtain ⟨x48, l49, e48, h49⟩ := uncons h48
  obtain ⟨x49, l50, e49, h50⟩ := uncons h49
  obtain ⟨x50, l51, e50, h51⟩ := uncons h50
  obtain ⟨x51, l52, e51, h52⟩ := uncons h51
  obtain ⟨x52, l53, e52, h53⟩ := uncons h52
  obtain ⟨x53, l54, e53, h54⟩ := uncons h53
  obtain ⟨x54, l55, e54, h55⟩ := uncons h54
  obtain ⟨x55, l56, e55, h56⟩ := uncons h55
  obtain ⟨x56, l57, e56, h57⟩ := uncons h56
  obtain ⟨x57, l58, e57, h58⟩ := uncons h57
  obtain ⟨x58, l59, e58, h59⟩ := uncons h58
  obtain ⟨x59, l60, e59, h60⟩ := uncons h59
  obtain ⟨x60, l61, e60, h61⟩ := uncons h60
  obtain ⟨x61, l62, e61, h62⟩ := uncons h61
  obtain ⟨x62, l63, e62, h63⟩ := uncons h62
  have en : l63 = [] := List.eq_nil_of_length_eq_zero h63
  exact ⟨x0, x1, x2, x3, x4, x5, x6, x7, x8, x9, x10, x11, x12, x13, x14, x15, x16, x17, x18, x19, x20, x21, x22, x23, x24, x25, x26, x27, x28, x29, x30, x31, x32, x33, x34, x35, x36, x37, x38, x39, x40, x41, x42, x43, x44, x45, x46, x47, x48, x49, x50, x51, x52, x53, x54, x55, x56, x57, x58, x59, x60, x61, x62, by rw [e0, e1, e2, e3, e4, e5, e6, e7, e8, e9, e10, e11, e12, e13, e14, e15, e16, e17, e18, e19, e20, e21, e22, e23, e24, e25, e26, e27, e28, e29, e30, e31, e32, e33, e34, e35, e36, e37, e38, e39, e40, e41, e42, e43, e44, e45, e46, e47, e48, e49, e50, e51, e52, e53, e54, e55, e56, e57, e58, e59, e60, e61, e62, en]⟩

theorem deps_lt : ∀ (i : Nat) (o : Oper), opsE[i]? = some o → ∀ e ∈ o.after, e.on < i := by
  have key : ((List.range 18).all fun i => ((opsE[i]?.map fun o => o.after.all fun e => decide (e.on < i)).getD true)) = true := by kernel_rfl
  intro i o ho e he
  have hi : i < 18 := (Array.getElem?_eq_some_iff.mp ho).1
  have h1 := List.all_eq_true.mp key i (List.mem_range.mpr hi)
  rw [ho] at h1
  have h2 : (o.after.all fun e => decide (e.on < i)) = true := by simpa using h1
  obtain ⟨k, hk, rfl⟩ := Array.getElem_of_mem he
  have := Array.all_eq_true.mp h2 k hk
  simpa using this

theorem entries_region {w0 w : World} {lo : Option Addr} {m lc i zb : Nat} {xs : List Value} {a0 : Act} {Q : Exit → Act → World → Prop} (hlt : ∀ k, (Value.slice lo m lc).ownBlock = some k → k < w0.heap.size) (hz : (Value.slice lo m lc).ownBlock ≠ some zb) (hm : m ≤ 1000000)
    (h0 : a0.tmps.size = 63) (hd : a0.defers = []) (h1 : a0.tmps.getD 1 undef = .slice lo m lc) (h4 : a0.tmps.getD 4 undef = .pointer (some ⟨zb, 0, none⟩)) (hS : SE w0 lo m lc i zb xs w)
    (hQ : ∀ (a : Act) (w' : World), a.tmps.size = 63 → a.defers = [] → (∀ k, (k < 14 ∧ k ≠ 5) ∨ 30 < k → a.tmps.getD k undef = a0.tmps.getD k undef) → SE w0 lo m lc i zb xs w' → IsN w0 lo m lc w' (a.tmps.getD 5 undef) → Q .normal a w') :
    wpAny Tryz.prog .any opsE Q opsE.size (Array.replicate opsE.size false) a0 w := by
  refine wpAny_inv (ops := opsE) (RJ 18 63 dstE (fun k => a0.tmps.getD k undef) (SE w0 lo m lc i zb xs) (VE w0 lo m lc i)) (fun _ _ _ h => h.size.trans rfl) (fun listed a w j hJ hj => entries_step hlt hz hm h1 h4 j hJ hj) (fun listed a w hJ hr => ?_) _ _ _ _ ?_ ?_
  · have all := all_listed (ops := opsE) (by rw [hJ.size]; rfl) deps_lt hr
    refine hQ a w hJ.tsz hJ.dfr (fun k hk => hJ.old k fun q hq => ?_) hJ.s (hJ.val 17 (by omega) (all 17 (by decide)))
    unfold dstE
    split <;> omega
  · refine ⟨by simp [opsE], h0, hd, fun k _ => rfl, hS, fun j hj hl => ?_⟩
    exfalso
    have : opsE.size = 18 := rfl
    rw [this] at hl
    simp [Array.getD, hj] at hl
  · have : opsE.size = 18 := rfl
    rw [this]
    simp

end Go.Proofs.YtpfcacedpkaihaaGreat

/- Lists that their owner writes over with marks (package almanaclaw): what their blocks hold. -/
namespace Go.Proofs.YtpfcacedpkaihaaGreat
open Go.RowKit

/-- entry j of a block reads as the mark of list i. -/
def Mk (i : Nat) (W : World) (g j : Nat) : Prop := ∃ c, Blk W g 55 c ∧ ∀ f, f < 6 → c[j * 6 + f]? = (markE i)[f]?

/-- four slices, each with room for its entries in a block of entries. -/
structure Four (W : World) (zb m : Nat) (ad : Nat → Option Addr) (Own : Nat → Prop) : Prop where
  room : ∀ k, k < 4 → 0 < m + k → ∃ g, ad k = some ⟨g, 0, none⟩ ∧ Own g ∧ g ≠ zb ∧ ∃ c, Blk W g 55 c ∧ (m + k) * 6 ≤ c.size

def fourC (m : Nat) (ad : Nat → Option Addr) (cp : Nat → Nat) : Array Value := #[.slice (ad 0) (m + 0) (cp 0), .slice (ad 1) (m + 1) (cp 1), .slice (ad 2) (m + 2) (cp 2), .slice (ad 3) (m + 3) (cp 3)]
theorem four_at (m : Nat) (ad : Nat → Option Addr) (cp : Nat → Nat) (k : Nat) (hk : k < 4) : (fourC m ad cp)[k]? = some (.slice (ad k) (m + k) (cp k)) := by
  have : k = 0 ∨ k = 1 ∨ k = 2 ∨ k = 3 := by omega
  rcases this with rfl | rfl | rfl | rfl <;> rfl

/-- six cells of a block are written. -/
def st6 (W : World) (g o : Nat) (z0 z1 z2 z3 z4 z5 : Value) : World := (((((W.setCell ⟨g, o, none⟩ z0).setCell ⟨g, o + 1, none⟩ z1).setCell ⟨g, o + 2, none⟩ z2).setCell ⟨g, o + 3, none⟩ z3).setCell ⟨g, o + 4, none⟩ z4).setCell ⟨g, o + 5, none⟩ z5
theorem st6_kept (W : World) (g o : Nat) (z0 z1 z2 z3 z4 z5 : Value) : Kept (fun k => k = g) W (st6 W g o z0 z1 z2 z3 z4 z5) := by
  have st : ∀ (a : World) (f : Nat) (v : Value), Kept (fun k => k = g) W a → Kept (fun k => k = g) W (a.setCell ⟨g, f, none⟩ v) := fun a f v ha => ha.trans (Kept.setCell a _ v) (fun _ => id) (fun _ _ hk => hk)
  exact st _ _ _ (st _ _ _ (st _ _ _ (st _ _ _ (st _ _ _ (st _ _ _ (Kept.refl _ _))))))
theorem st6_blk {W : World} {g : Nat} {T : TypeId} {c : Array Value} (h : Blk W g T c) (o : Nat) (z0 z1 z2 z3 z4 z5 : Value) : Blk (st6 W g o z0 z1 z2 z3 z4 z5) g T ((((((c.setIfInBounds o z0).setIfInBounds (o + 1) z1).setIfInBounds (o + 2) z2).setIfInBounds (o + 3) z3).setIfInBounds (o + 4) z4).setIfInBounds (o + 5) z5) :=
  (((((h.set o z0).set (o + 1) z1).set (o + 2) z2).set (o + 3) z3).set (o + 4) z4).set (o + 5) z5

theorem st6_at (c : Array Value) (i : Nat) (h : (i + 1) * 6 ≤ c.size) (z0 z1 z2 z3 z4 z5 : Value) (j f : Nat) (hf : f < 6) :
    ((((((c.setIfInBounds (i * 6) z0).setIfInBounds (i * 6 + 1) z1).setIfInBounds (i * 6 + 2) z2).setIfInBounds (i * 6 + 3) z3).setIfInBounds (i * 6 + 4) z4).setIfInBounds (i * 6 + 5) z5)[j * 6 + f]? = if j = i then (#[z0, z1, z2, z3, z4, z5] : Array Value)[f]? else c[j * 6 + f]? := by
  by_cases e : j = i
  · subst e
    have hc : f = 0 ∨ f = 1 ∨ f = 2 ∨ f = 3 ∨ f = 4 ∨ f = 5 := by omega
    rw [if_pos rfl]
    rcases hc with rfl | rfl | rfl | rfl | rfl | rfl <;> simp [Array.getElem?_setIfInBounds] <;> omega
  · rw [if_neg e]
    rw [Array.getElem?_setIfInBounds_ne (by omega), Array.getElem?_setIfInBounds_ne (by omega), Array.getElem?_setIfInBounds_ne (by omega), Array.getElem?_setIfInBounds_ne (by omega), Array.getElem?_setIfInBounds_ne (by omega), Array.getElem?_setIfInBounds_ne (by omega)]

/-- an entry more reads as the mark. -/
theorem mk_store {i : Nat} {W : World} {g j : Nat} {c : Array Value} (hb : Blk W g 55 c) (hs : (j + 1) * 6 ≤ c.size) (W' : World) (hW : W' = st6 W g (j * 6) (.string mq) (.int .i32 0) (.int .u64 0) (.int .u64 (i : Int)) (.bool false) (.int .u64 0)) :
    Kept (fun k => k = g) W W' ∧ Mk i W' g j ∧ (∀ g' j', Mk i W g' j' → Mk i W' g' j') ∧ ∃ c', Blk W' g 55 c' ∧ c'.size = c.size := by
  subst hW
  have k := st6_kept W g (j * 6) (.string mq) (.int .i32 0) (.int .u64 0) (.int .u64 (i : Int)) (.bool false) (.int .u64 0)
  have b := st6_blk hb (j * 6) (.string mq) (.int .i32 0) (.int .u64 0) (.int .u64 (i : Int)) (.bool false) (.int .u64 0)
  refine ⟨k, ⟨_, b, fun f hf => by rw [st6_at c j hs _ _ _ _ _ _ j f hf, if_pos rfl]; rfl⟩, ?_, _, b, by simp⟩
  rintro g' j' ⟨c', hb', hc'⟩
  by_cases e : g' = g
  · subst e
    obtain ⟨_, rfl⟩ := hb.type hb'
    refine ⟨_, b, fun f hf => ?_⟩
    rw [st6_at c j hs _ _ _ _ _ _ j' f hf]
    split
    · rfl
    · exact hc' f hf
  · exact ⟨c', hb'.kept k e, hc'⟩

theorem Mk.same {i : Nat} {W W' : World} {g j : Nat} (h : Mk i W g j) (hs : W'.heap[g]? = W.heap[g]?) : Mk i W' g j := by
  obtain ⟨c, hb, hc⟩ := h
  exact ⟨c, hb.same hs, hc⟩

theorem Four.keep {W W' : World} {zb m : Nat} {ad : Nat → Option Addr} {Own : Nat → Prop} (h : Four W zb m ad Own) (hk : ∀ g c, Blk W g 55 c → ∃ c', Blk W' g 55 c' ∧ c.size ≤ c'.size) : Four W' zb m ad Own := by
  refine ⟨fun k hk4 h0 => ?_⟩
  obtain ⟨g, h1, h2, h3, c, hb, hc⟩ := h.room k hk4 h0
  obtain ⟨c', hb', hc'⟩ := hk g c hb
  exact ⟨g, h1, h2, h3, c', hb', by omega⟩

end Go.Proofs.YtpfcacedpkaihaaGreat

/- The law's book.entries (package almanaclaw), walked. -/
namespace Go.Proofs.YtpfcacedpkaihaaGreat
open Go.RowKit

theorem Tryz.infoNotes : (Tryz.prog.info? 49).map (fun i => (i.zero, i.size, i.bytes)) = some (some (.slice none 0 0), 1, 24) := by kernel_rfl

def OwnL (lV : Value) (n : Nat) (g : Nat) : Prop := lV.ownBlock = some g ∨ n ≤ g

theorem four_of {w0 w : World} {lo : Option Addr} {m lc i zb : Nat} {xs : List Value} {x : Value} (hS : SE w0 lo m lc i zb xs w) (hN : IsN w0 lo m lc w x) (hz : (Value.slice lo m lc).ownBlock ≠ some zb) (hzb : zb < w0.heap.size) :
    ∃ (N : Nat) (ad : Nat → Option Addr) (cp : Nat → Nat), x = .slice (some ⟨N, 0, none⟩) 4 4 ∧ w0.heap.size ≤ N ∧ Blk w N 51 (fourC m ad cp) ∧ Four w zb m ad (OwnL (.slice lo m lc) w0.heap.size) ∧ ad 0 = lo := by
  obtain ⟨N, a1, a2, a3, e, hNs, hb, ⟨g1, c1, e1, r1⟩, ⟨g2, c2, e2, r2⟩, ⟨g3, c3, e3, r3⟩⟩ := hN
  subst e1 e2 e3
  refine ⟨N, fun k => if k = 0 then lo else if k = 1 then some ⟨g1, 0, none⟩ else if k = 2 then some ⟨g2, 0, none⟩ else some ⟨g3, 0, none⟩, fun k => if k = 0 then lc else if k = 1 then c1 else if k = 2 then c2 else c3, e, hNs, hb, ⟨fun k hk h0 => ?_⟩, rfl⟩
  have lrow : ∀ g q, lo = some ⟨g, 0, none⟩ → q ≤ lc → OwnL (.slice lo m lc) w0.heap.size g ∧ g ≠ zb ∧ ∃ c, Blk w g 55 c ∧ q * 6 ≤ c.size := by
    intro g q hg hq
    subst hg
    refine ⟨.inl rfl, fun e => hz (by rw [← e]; rfl), ?_⟩
    rcases hS.row.shape with ⟨e, _⟩ | ⟨g', cap, cur, e, hb', _, _, hs, _⟩
    · cases e
    · injection e with q1 _ q2
      injection q1 with q1
      injection q1 with q1 _ _
      subst q1 q2
      exact ⟨cur, hb', by rw [hs]; exact Nat.mul_le_mul_right _ hq⟩
  have use : ∀ q g, ((lo = some ⟨g, 0, none⟩ ∧ m + q ≤ lc) ∨ (w0.heap.size ≤ g ∧ ∃ c, Blk w g 55 c ∧ (m + q) * 6 ≤ c.size)) → OwnL (.slice lo m lc) w0.heap.size g ∧ g ≠ zb ∧ ∃ c, Blk w g 55 c ∧ (m + q) * 6 ≤ c.size := by
    rintro q g (⟨h1, h2⟩ | ⟨h1, h2⟩)
    · exact lrow g (m + q) h1 h2
    · exact ⟨.inr h1, by omega, h2⟩
  have hk4 : k = 0 ∨ k = 1 ∨ k = 2 ∨ k = 3 := by omega
  rcases hk4 with rfl | rfl | rfl | rfl
  · obtain ⟨g, cap, hv, _, _⟩ := hS.row.block (by omega)
    injection hv with q1 _ q2
    have hml : m ≤ lc := by
      rcases hS.row.shape with ⟨_, h, _⟩ | ⟨_, cap', _, e', _, hc, _⟩
      · omega
      · injection e' with _ _ q3; omega
    exact ⟨g, q1, lrow g (m + 0) q1 hml⟩
  · exact ⟨g1, rfl, use 1 g1 r1⟩
  · exact ⟨g2, rfl, use 2 g2 r2⟩
  · exact ⟨g3, rfl, use 3 g3 r3⟩

/-- the blocks of the four slices. -/
def OwnE (ad : Nat → Option Addr) (m : Nat) (b : Nat) : Prop := ∃ k, k < 4 ∧ 0 < m + k ∧ ad k = some ⟨b, 0, none⟩

/-- what stands while the lists are written over: the first q of them, and of the next one the first entries. -/
structure Over (B : Nat) (w0 wr : World) (lV : Value) (N zb m bn : Nat) (ad : Nat → Option Addr) (cp : Nat → Nat) (q j : Nat) : Prop where
  kept : Kept (OwnE ad m) w0 wr
  four : Four wr zb m ad (OwnL lV B)
  own : ∀ b, OwnE ad m b → OwnL lV B b ∧ b ≠ zb ∧ b ≠ N
  nb : Blk wr N 51 (fourC m ad cp)
  z : Blk wr zb 55 (markE bn)
  done : ∀ k, k < 4 → ∀ t, t < m + k → (k < q ∨ (k = q ∧ t < j)) → ∃ g, ad k = some ⟨g, 0, none⟩ ∧ Mk bn wr g t

theorem Over.next {B : Nat} {w0 wr W' : World} {lV : Value} {N zb m bn : Nat} {ad : Nat → Option Addr} {cp : Nat → Nat} {q j g : Nat} {c : Array Value} (h : Over B w0 wr lV N zb m bn ad cp q j) (hq : q < 4) (hj : j < m + q) (hg : ad q = some ⟨g, 0, none⟩) (hb : Blk wr g 55 c) (hs : (m + q) * 6 ≤ c.size)
    (hW : W'.heap = (st6 wr g (j * 6) (.string mq) (.int .i32 0) (.int .u64 0) (.int .u64 (bn : Int)) (.bool false) (.int .u64 0)).heap) (h1 : W'.os = wr.os) (h2 : W'.tape = wr.tape) (h3 : W'.output = wr.output) : Over B w0 W' lV N zb m bn ad cp q (j + 1) := by
  have hs' : (j + 1) * 6 ≤ c.size := Nat.le_trans (Nat.mul_le_mul_right 6 hj) hs
  obtain ⟨k0, m1, m2, c', b', e'⟩ := mk_store (i := bn) hb hs' _ rfl
  have kk : Kept (fun k => k = g) wr W' := ⟨h1, h2, h3, by rw [hW]; exact k0.size, fun i hi hn => by rw [hW]; exact k0.block i hi hn⟩
  have ho : OwnE ad m g := ⟨q, hq, by omega, hg⟩
  obtain ⟨_, o2, o3⟩ := h.own g ho
  refine ⟨h.kept.trans kk (fun _ => id) (fun b _ e => e ▸ ho), h.four.keep fun g' d hd => ?_, h.own, h.nb.kept kk fun e => o3 e.symm, h.z.kept kk fun e => o2 e.symm, fun k hk t ht hd => ?_⟩
  · by_cases e : g' = g
    · subst e
      obtain ⟨_, rfl⟩ := hb.type hd
      exact ⟨c', b'.same (by rw [hW]), by omega⟩
    · exact ⟨d, hd.kept kk e, Nat.le_refl _⟩
  · by_cases e : k = q ∧ t = j
    · obtain ⟨rfl, rfl⟩ := e
      exact ⟨g, hg, m1.same (by rw [hW])⟩
    · obtain ⟨g', e1, e2⟩ := h.done k hk t ht (by omega)
      exact ⟨g', e1, (m2 g' t e2).same (by rw [hW])⟩

theorem drew_heap (w : World) : w.drew.heap = w.heap := rfl
theorem drew_os (w : World) : w.drew.os = w.os := rfl
theorem drew_tape (w : World) : w.drew.tape = w.tape := rfl
theorem drew_out (w : World) : w.drew.output = w.output := rfl
theorem Over.step {B : Nat} {w0 wr : World} {lV : Value} {N zb m bn : Nat} {ad : Nat → Option Addr} {cp : Nat → Nat} {q j g : Nat} {c : Array Value} (h : Over B w0 wr lV N zb m bn ad cp q j) (hq : q < 4) (hj : j < m + q) (hg : ad q = some ⟨g, 0, none⟩) (hb : Blk wr g 55 c) (hs : (m + q) * 6 ≤ c.size) :
    Over B w0 (st6 wr g (j * 6) (.string mq) (.int .i32 0) (.int .u64 0) (.int .u64 (bn : Int)) (.bool false) (.int .u64 0)).drew lV N zb m bn ad cp q (j + 1) :=
  h.next (W' := (st6 wr g (j * 6) (.string mq) (.int .i32 0) (.int .u64 0) (.int .u64 (bn : Int)) (.bool false) (.int .u64 0)).drew) hq hj hg hb hs (drew_heap _) ((drew_os _).trans (st6_kept ..).os) ((drew_tape _).trans (st6_kept ..).tape) ((drew_out _).trans (st6_kept ..).output)

theorem Over.turn {B : Nat} {w0 wr : World} {lV : Value} {N zb m bn : Nat} {ad : Nat → Option Addr} {cp : Nat → Nat} {q : Nat} (h : Over B w0 wr lV N zb m bn ad cp q (m + q)) : Over B w0 wr lV N zb m bn ad cp (q + 1) 0 := by
  refine ⟨h.kept, h.four, h.own, h.nb, h.z, fun k hk t ht hd => h.done k hk t ht ?_⟩
  rcases hd with hd | hd
  · by_cases e : k = q
    · subst e; exact .inr ⟨rfl, ht⟩
    · exact .inl (by omega)
  · omega

theorem oneCell_slice (a : Option Addr) (n c : Nat) : ∀ u ∈ [Value.slice a n c], u.oneCell' = true := by
  intro u hu; simp at hu; subst hu; rfl
theorem cell_one_new (w : World) (a : Value) (t : TypeId) : ∀ j u, [a][j]? = some u → (w.alloc (.cells #[a] t)).cell? ((⟨w.heap.size, 0, none⟩ : Addr).add j) = some u := by
  intro j u hj
  match j, hj with
  | 0, hj => simp at hj; subst hj; simp [Addr.add]
  | j + 1, hj => simp at hj

/-- what entries leaves. -/
def EPost (w : World) (pb : Nat) (vps bv b1 b2 : Value) (commits most : Int) (bn : Nat) (vals : List Value) (lV : Value) (m : Nat) (e : Ending) (w' : World) : Prop :=
  e = .returned (.tuple #[]) ∧ ∃ (N : Nat) (ad : Nat → Option Addr) (cp : Nat → Nat) (v : Value), Blk w' N 51 (fourC m ad cp) ∧ w.heap.size ≤ N ∧
    (∀ k, k < 4 → ∀ t, t < m + k → ∃ g, ad k = some ⟨g, 0, none⟩ ∧ OwnL lV w.heap.size g ∧ Mk bn w' g t) ∧
    Row w' 49 1 v (bn + 1) (vals ++ [.slice (some ⟨N, 0, none⟩) 4 4]) ∧ Blk w' pb 34 (playC vps v b1 b2 commits most) ∧
    Kept (fun k => k = pb ∨ bv.ownBlock = some k ∨ lV.ownBlock = some k) w w' ∧ (∀ k, v.ownBlock = some k → bv.ownBlock = some k ∨ w.heap.size ≤ k)

set_option maxRecDepth 100000 in
set_option maxHeartbeats 1500000 in
theorem lentries (w : World) (pb : Nat) (vps bv b1 b2 : Value) (commits most : Int) (bn : Nat) (vals : List Value) (lo : Option Addr) (m lc : Nat) (xs : List Value) (hblk : Blk w pb 34 (playC vps bv b1 b2 commits most)) (hbv : Row w 49 1 bv bn vals) (hbn : (bn + 1) * 24 ≤ 140737488355328) (hl : Row w 55 6 (.slice lo m lc) m xs) (hm : m ≤ 1000000) :
    Calls Tryz.prog 42 #[.pointer (some ⟨pb, 1, none⟩), .slice lo m lc] w fun e w' => EPost w pb vps bv b1 b2 commits most bn vals (.slice lo m lc) m e w' := by
  obtain ⟨ba, bc, hbf, _⟩ := hbv.form
  subst hbf
  have hb : w.cell? ⟨pb, 1, none⟩ = some (.slice ba bn bc) := hblk.cell 1
  have HB : Hid (Blk w pb 34 (playC vps (.slice ba bn bc) b1 b2 commits most)) := hblk
  have HBV : Hid (Row w 49 1 (.slice ba bn bc) bn vals) := hbv
  have HNB : Hid (∀ k, (Value.slice lo m lc).ownBlock = some k → k ≠ pb ∧ (Value.slice ba bn bc).ownBlock ≠ some k) := fun k hk => ⟨fun e => hl.ne_block hblk (by decide) (by rw [← e]; exact hk), fun e => hl.ne_row hbv (by decide) k hk e⟩
  have hpl := hblk.lt
  clear hblk hbv
  have H0 : Hid (∀ W, Calls Tryz.prog 19 #[.int .i64 (bn : Int)] W fun e w' => e = .returned (.agg #[.string mq, .int .i32 0, .int .u64 0, .int .u64 (bn : Int), .bool false, .int .u64 0]) ∧ Kept (fun _ => False) W w') := fun W => rentryMark W bn (by omega)
  have HL : Hid (Row w 55 6 (.slice lo m lc) m xs) := hl
  clear hl
  go_enter Tryz.func42, Tryz.ntmps42
  go_wp2_with (go_at_call 19; refine (H0.out _).mono ?_; rintro e w1 ⟨rfl, hk1⟩)
  obtain ⟨W, hW⟩ : ∃ W, W = w1.alloc (.cells #[.string mq, .int .i32 0, .int .u64 0, .int .u64 (bn : Int), .bool false, .int .u64 0] 55) := ⟨_, rfl⟩
  have kW : Kept (fun _ => False) w W := by rw [hW]; exact hk1.allocNew _
  have zW : Blk W w1.heap.size 55 (markE bn) := by rw [hW]; exact Blk.new _ _ _
  have hzb : w1.heap.size < W.heap.size := by rw [hW]; simp
  have hws := hk1.size
  rw [← hW]
  have HKW : Hid (Kept (fun _ => False) w W) := kW
  have HZW : Hid (Blk W w1.heap.size 55 (markE bn)) := zW
  have hlt : ∀ k, (Value.slice lo m lc).ownBlock = some k → k < w.heap.size := HL.out.lt
  have HLT : Hid (∀ k, (Value.slice lo m lc).ownBlock = some k → k < w.heap.size) := hlt
  clear hW kW zW hk1 hlt
  generalize w1.heap.size = zb at *
  have HSE : Hid (SE W lo m lc bn zb xs W) := ⟨Kept.refl _ _, HL.out.kept HKW.out (fun _ _ => id), HZW.out⟩
  have HNZ : Hid ((Value.slice lo m lc).ownBlock ≠ some zb) := fun e => by have := HLT.out _ e; omega
  go_cut [5] (fun v wx => Hid (SE W lo m lc bn zb xs wx ∧ IsN W lo m lc wx v))
  case first =>
    refine wp_region_any (by kernel_rfl) ?_
    refine entries_region (w0 := W) (lo := lo) (m := m) (lc := lc) (i := bn) (zb := zb) (xs := xs) (fun k hk => Nat.lt_of_lt_of_le (HLT.out k hk) HKW.out.size) HNZ.out hm rfl rfl rfl rfl ⟨HSE.out.kept.drewN 1, HSE.out.row.same (fun _ _ => rfl), HSE.out.z.same rfl⟩ fun a w' s1 s2 s3 s4 s5 => ?_
    obtain ⟨tm, df⟩ := a
    try dsimp only at s1 s2 s3 s5
    subst s2
    obtain ⟨x0, x1, x2, x3, x4, x5, x6, x7, x8, x9, x10, x11, x12, x13, x14, x15, x16, x17, x18, x19, x20, x21, x22, x23, x24, x25, x26, x27, x28, x29, x30, x31, x32, x33, x34, x35, x36, x37, x38, x39, x40, x41, x42, x43, x44, x45, x46, x47, x48, x49, x50, x51, x52, x53, x54, x55, x56, x57, x58, x59, x60, x61, x62, hx⟩ := array63 s1
    subst hx
    clear s1
    have e0 : x0 = _ := s3 0 (by omega)
    try dsimp at e0
    subst e0
    have e1 : x1 = _ := s3 1 (by omega)
    try dsimp at e1
    subst e1
    have e2 : x2 = _ := s3 2 (by omega)
    try dsimp at e2
    subst e2
    have e3 : x3 = _ := s3 3 (by omega)
    try dsimp at e3
    subst e3
    have e4 : x4 = _ := s3 4 (by omega)
    try dsimp at e4
    subst e4
    have e6 : x6 = _ := s3 6 (by omega)
    try dsimp at e6
    subst e6
    have e7 : x7 = _ := s3 7 (by omega)
    try dsimp at e7
    subst e7
    have e8 : x8 = _ := s3 8 (by omega)
    try dsimp at e8
    subst e8
    have e9 : x9 = _ := s3 9 (by omega)
    try dsimp at e9
    subst e9
    have e10 : x10 = _ := s3 10 (by omega)
    try dsimp at e10
    subst e10
    have e11 : x11 = _ := s3 11 (by omega)
    try dsimp at e11
    subst e11
    have e12 : x12 = _ := s3 12 (by omega)
    try dsimp at e12
    subst e12
    have e13 : x13 = _ := s3 13 (by omega)
    try dsimp at e13
    subst e13
    have e31 : x31 = _ := s3 31 (by omega)
    try dsimp at e31
    subst e31
    have e32 : x32 = _ := s3 32 (by omega)
    try dsimp at e32
    subst e32
    have e33 : x33 = _ := s3 33 (by omega)
    try dsimp at e33
    subst e33
    have e34 : x34 = _ := s3 34 (by omega)
    try dsimp at e34
    subst e34
    have e35 : x35 = _ := s3 35 (by omega)
    try dsimp at e35
    subst e35
    have e36 : x36 = _ := s3 36 (by omega)
    try dsimp at e36
    subst e36
    have e37 : x37 = _ := s3 37 (by omega)
    try dsimp at e37
    subst e37
    have e38 : x38 = _ := s3 38 (by omega)
    try dsimp at e38
    subst e38
    have e39 : x39 = _ := s3 39 (by omega)
    try dsimp at e39
    subst e39
    have e40 : x40 = _ := s3 40 (by omega)
    try dsimp at e40
    subst e40
    have e41 : x41 = _ := s3 41 (by omega)
    try dsimp at e41
    subst e41
    have e42 : x42 = _ := s3 42 (by omega)
    try dsimp at e42
    subst e42
    have e43 : x43 = _ := s3 43 (by omega)
    try dsimp at e43
    subst e43
    have e44 : x44 = _ := s3 44 (by omega)
    try dsimp at e44
    subst e44
    have e45 : x45 = _ := s3 45 (by omega)
    try dsimp at e45
    subst e45
    have e46 : x46 = _ := s3 46 (by omega)
    try dsimp at e46
    subst e46
    have e47 : x47 = _ := s3 47 (by omega)
    try dsimp at e47
    subst e47
    have e48 : x48 = _ := s3 48 (by omega)
    try dsimp at e48
    subst e48
    have e49 : x49 = _ := s3 49 (by omega)
    try dsimp at e49
    subst e49
    have e50 : x50 = _ := s3 50 (by omega)
    try dsimp at e50
    subst e50
    have e51 : x51 = _ := s3 51 (by omega)
    try dsimp at e51
    subst e51
    have e52 : x52 = _ := s3 52 (by omega)
    try dsimp at e52
    subst e52
    have e53 : x53 = _ := s3 53 (by omega)
    try dsimp at e53
    subst e53
    have e54 : x54 = _ := s3 54 (by omega)
    try dsimp at e54
    subst e54
    have e55 : x55 = _ := s3 55 (by omega)
    try dsimp at e55
    subst e55
    have e56 : x56 = _ := s3 56 (by omega)
    try dsimp at e56
    subst e56
    have e57 : x57 = _ := s3 57 (by omega)
    try dsimp at e57
    subst e57
    have e58 : x58 = _ := s3 58 (by omega)
    try dsimp at e58
    subst e58
    have e59 : x59 = _ := s3 59 (by omega)
    try dsimp at e59
    subst e59
    have e60 : x60 = _ := s3 60 (by omega)
    try dsimp at e60
    subst e60
    have e61 : x61 = _ := s3 61 (by omega)
    try dsimp at e61
    subst e61
    have e62 : x62 = _ := s3 62 (by omega)
    try dsimp at e62
    subst e62
    have HS5 : Hid (SE W lo m lc bn zb xs w' ∧ IsN W lo m lc w' x5) := ⟨s4, s5⟩
    clear s3 s4 s5
    go_wp2
    go_meet
    case rel => exact HS5
  case rest =>
    obtain ⟨hS, hN⟩ := hcut.out
    obtain ⟨N, ad, cp, e5, hNs, hNb, hF, _⟩ := four_of hS hN HNZ.out hzb
    subst e5
    have hown : ∀ b, OwnE ad m b → OwnL (.slice lo m lc) W.heap.size b ∧ b ≠ zb ∧ b ≠ N := by
      rintro b ⟨k, hk, h0, e⟩
      obtain ⟨g, h1, h2, h3, c, h4, _⟩ := hF.room k hk h0
      rw [e] at h1
      injection h1 with h1
      injection h1 with h1 _ _
      subst h1
      refine ⟨h2, h3, fun e => ?_⟩
      subst e
      exact absurd (h4.type hNb).1 (by decide)
    have HOV : Hid (Over W.heap.size wc wc (.slice lo m lc) N zb m bn ad cp 0 0) := ⟨Kept.refl _ _, hF, hown, hNb, hS.z, fun k _ t _ hd => by omega⟩
    have HSC : Hid (SE W lo m lc bn zb xs wc) := hS
    clear hS hN hNb hF hown hcut
    go_wp2
    go_loopw [6] (fun k wr => ∃ q : Nat, q ≤ 4 ∧ k = .int .i64 q ∧ Hid (Over W.heap.size wc wr (.slice lo m lc) N zb m bn ad cp q 0)) (fun k _ => 4 - (intOf k).toNat)
    case atStart => exact ⟨0, by omega, rfl, HOV⟩
    case round =>
      obtain ⟨q, hq, rfl, HO⟩ := hrel
      by_cases hq4 : q < 4
      · have hq0 : (0 : Int) ≤ (q : Int) := by omega
        have hq1 : (q : Int) < 4 := by omega
        go_wp2
        go_loopw [7] (fun j wy => ∃ t : Nat, t ≤ m + q ∧ j = .int .i64 t ∧ Hid (Over W.heap.size wc wy (.slice lo m lc) N zb m bn ad cp q t)) (fun j _ => m + q - (intOf j).toNat)
        case atStart => exact ⟨0, Nat.zero_le _, rfl, HO⟩
        case round =>
          obtain ⟨t, ht, rfl, HO2⟩ := hrel
          have nq : wr.cell? ⟨N, q, none⟩ = some (.slice (ad q) (m + q) (cp q)) := by rw [HO2.out.nb.cell]; exact four_at m ad cp q hq4
          by_cases htm : t < m + q
          · obtain ⟨g, hg, _, hgz, c, hbc, hcs⟩ := HO2.out.four.room q hq4 (by omega)
            have hcs' : (t + 1) * 6 ≤ c.size := Nat.le_trans (Nat.mul_le_mul_right 6 htm) hcs
            have c0 : wr.cell? ⟨g, t * 6, none⟩ = some c[t * 6] := by rw [hbc.cell]; exact Array.getElem?_eq_getElem (by omega)
            have c1 : wr.cell? ⟨g, t * 6 + 1, none⟩ = some c[t * 6 + 1] := by rw [hbc.cell]; exact Array.getElem?_eq_getElem (by omega)
            have c2 : wr.cell? ⟨g, t * 6 + 2, none⟩ = some c[t * 6 + 2] := by rw [hbc.cell]; exact Array.getElem?_eq_getElem (by omega)
            have c3 : wr.cell? ⟨g, t * 6 + 3, none⟩ = some c[t * 6 + 3] := by rw [hbc.cell]; exact Array.getElem?_eq_getElem (by omega)
            have c4 : wr.cell? ⟨g, t * 6 + 4, none⟩ = some c[t * 6 + 4] := by rw [hbc.cell]; exact Array.getElem?_eq_getElem (by omega)
            have c5 : wr.cell? ⟨g, t * 6 + 5, none⟩ = some c[t * 6 + 5] := by rw [hbc.cell]; exact Array.getElem?_eq_getElem (by omega)
            generalize c[t * 6] = y0 at c0
            generalize c[t * 6 + 1] = y1 at c1
            generalize c[t * 6 + 2] = y2 at c2
            generalize c[t * 6 + 3] = y3 at c3
            generalize c[t * 6 + 4] = y4 at c4
            generalize c[t * 6 + 5] = y5 at c5
            have f0 := hbc.free (t * 6)
            have f1 := hbc.free (t * 6 + 1)
            have f2 := hbc.free (t * 6 + 2)
            have f3 := hbc.free (t * 6 + 3)
            have f4 := hbc.free (t * 6 + 4)
            have f5 := hbc.free (t * 6 + 5)
            have z0 : wr.cell? ⟨zb, 0, none⟩ = some (.string mq) := HO2.out.z.cell 0
            have z1 : wr.cell? ⟨zb, 1, none⟩ = some (.int .i32 0) := HO2.out.z.cell 1
            have z2 : wr.cell? ⟨zb, 2, none⟩ = some (.int .u64 0) := HO2.out.z.cell 2
            have z3 : wr.cell? ⟨zb, 3, none⟩ = some (.int .u64 (bn : Int)) := HO2.out.z.cell 3
            have z4 : wr.cell? ⟨zb, 4, none⟩ = some (.bool false) := HO2.out.z.cell 4
            have z5 : wr.cell? ⟨zb, 5, none⟩ = some (.int .u64 0) := HO2.out.z.cell 5
            have HNX : Hid (Over W.heap.size wc (st6 wr g (t * 6) (.string mq) (.int .i32 0) (.int .u64 0) (.int .u64 (bn : Int)) (.bool false) (.int .u64 0)).drew (.slice lo m lc) N zb m bn ad cp q (t + 1)) := HO2.out.step hq4 htm hg hbc hcs
            rw [hg] at nq
            have ht0 : (0 : Int) ≤ (t : Int) := by omega
            have ht1 : (t : Int) < ((m + q : Nat) : Int) := by omega
            have hgN : g ≠ N := (HO2.out.own g ⟨q, hq4, by omega, hg⟩).2.2
            have hNg : N ≠ g := Ne.symm hgN
            have hzg : zb ≠ g := Ne.symm hgz
            clear hbc hcs hcs' hg
            go_wp2_with fail
            go_region_held3 (fun w' => w'.cell? ⟨N, q, none⟩ = some (.slice (some ⟨g, 0, none⟩) (m + q) (cp q)) ∧ w'.cell? ⟨zb, 0, none⟩ = some (.string mq) ∧ w'.cell? ⟨zb, 1, none⟩ = some (.int .i32 0) ∧ w'.cell? ⟨zb, 2, none⟩ = some (.int .u64 0) ∧ w'.cell? ⟨zb, 3, none⟩ = some (.int .u64 (bn : Int)) ∧ w'.cell? ⟨zb, 4, none⟩ = some (.bool false) ∧ w'.cell? ⟨zb, 5, none⟩ = some (.int .u64 0)) (go_keep) (fail)
            all_goals
              go_wp2
              go_roundw
              case rel => exact ⟨t + 1, by omega, by go_num, HNX⟩
              case measure => simp [intOf]; omega
          · have htt : t = m + q := by omega
            subst htt
            go_wp2
            go_roundw
            case rel => exact ⟨q + 1, by omega, by go_num, HO2.out.turn⟩
            case measure => simp [intOf]; omega
      · have hqq : q = 4 := by omega
        subst hqq
        have hkw : Kept (fun k => (Value.slice lo m lc).ownBlock = some k) w wr := by
          have k1 : Kept (fun k => (Value.slice lo m lc).ownBlock = some k) w wc := HKW.out.trans HSC.out.kept (fun _ => False.elim) (fun _ _ => id)
          refine k1.trans HO.out.kept (fun _ => id) (fun k hk hf => ?_)
          rcases (HO.out.own k hf).1 with h1 | h1
          · exact h1
          · have := HKW.out.size; omega
        have hBr : Blk wr pb 34 (playC vps (.slice ba bn bc) b1 b2 commits most) := HB.out.kept hkw fun e => (HNB.out _ e).1 rfl
        have hVr : Row wr 49 1 (.slice ba bn bc) bn vals := HBV.out.kept hkw fun j hj e => (HNB.out _ e).2 hj
        have HKR : Hid (Kept (fun k => (Value.slice lo m lc).ownBlock = some k) w wr) := hkw
        have HBR : Hid (Blk wr pb 34 (playC vps (.slice ba bn bc) b1 b2 commits most)) := hBr
        have HVR : Hid (Row wr 49 1 (.slice ba bn bc) bn vals) := hVr
        have cb : wr.cell? ⟨pb, 1, none⟩ = some (.slice ba bn bc) := hBr.cell 1
        have hpr := hBr.lt
        obtain ⟨i0, hi, hz0, hz1, hz2⟩ := info_parts Tryz.infoNotes
        have HI : Hid (Tryz.prog.info? 49 = some i0 ∧ i0.zero = some (.slice none 0 0) ∧ i0.size = 1 ∧ i0.bytes = 24) := ⟨hi, hz0, hz1, hz2⟩
        have HROW : Hid (∀ o, Row (wr.alloc o) 49 1 (.slice ba bn bc) bn vals) := fun o => hVr.kept (Kept.alloc wr o (fun _ => False)) (fun _ _ => id)
        have HFIN : Hid (∀ (o : Obj) (w3 : World) (v : Value), Appended (wr.alloc o) w3 49 1 (.slice ba bn bc) v bn 1 vals [.slice (some ⟨N, 0, none⟩) 4 4] → w3.cell? ⟨pb, 1, none⟩ = some (.slice ba bn bc) ∧ w3.frozen? ⟨pb, 1, none⟩ = false ∧ EPost w pb vps (.slice ba bn bc) b1 b2 commits most bn vals (.slice lo m lc) m (.returned (.tuple #[])) (w3.setCell ⟨pb, 1, none⟩ v)) := by
          intro o w3 v hA
          have hA := hA.of_alloc
          have b3 : Blk w3 pb 34 (playC vps (.slice ba bn bc) b1 b2 commits most) := hBr.kept hA.kept fun e => hVr.ne_block hBr (by decide) e
          have n3 : Blk w3 N 51 (fourC m ad cp) := HO.out.nb.kept hA.kept fun e => hVr.ne_block HO.out.nb (by decide) e
          have kS := Kept.setCell w3 ⟨pb, 1, none⟩ v
          have hsz := HKW.out.size
          refine ⟨b3.cell 1, b3.free 1, rfl, N, ad, cp, v, n3.kept kS (fun e => ?_), by omega, fun k hk t ht => ?_, hA.row.kept kS (fun j hj e => ?_), b3.set 1 v, (hkw.trans hA.kept (H := fun k => k = pb ∨ (Value.slice ba bn bc).ownBlock = some k ∨ (Value.slice lo m lc).ownBlock = some k) (fun _ h => .inr (.inr h)) (fun _ _ h => .inr (.inl h))).trans kS (fun _ => id) (fun _ _ h => .inl h), fun k hk => ?_⟩
          · simp at e; subst e; omega
          · obtain ⟨g, e1, c, hbg, hcg⟩ := HO.out.done k hk t ht (.inl hk)
            obtain ⟨o1, _, _⟩ := HO.out.own g ⟨k, hk, by omega, e1⟩
            refine ⟨g, e1, o1.imp id (fun h => by omega), c, (hbg.kept hA.kept fun e => hVr.ne_block hbg (by decide) e).kept kS (fun e => ?_), hcg⟩
            simp at e
            subst e
            exact absurd (hBr.type hbg).1 (by decide)
          · simp at e
            subst e
            exact Row.ne_block hA.row b3 (by decide) hj
          · rcases hA.own with h1 | h1
            · left; rw [← h1]; exact hk
            · right; have := h1 k hk; have := hkw.size; omega
        have bb1 : bn + 1 ≤ maxLen := by unfold maxLen; omega
        clear hi hz0 hz1 hz2 hkw hBr hVr
        go_wp2_with (at_builtin; go_must (refine wpList_append_mine _ rfl (.tmp 57) (.tmp 59) 28 rfl 49 i0 (.slice none 0 0) 1 24 Tryz.underlying28 HI.out.1 HI.out.2.1 HI.out.2.2.1 HI.out.2.2.2 rfl (by decide) (.slice ba bn bc) bn vals rfl (HROW.out _) ⟨wr.heap.size, 0, none⟩ 1 1 [.slice (some ⟨N, 0, none⟩) 4 4] rfl rfl (cell_one_new wr _ _) (oneCell_slice _ _ _) bb1 hbn ?_); intro v' w3 hA; obtain ⟨r0, r1, r2⟩ := HFIN.out _ _ _ hA; have HDONE : Hid (EPost w pb vps (.slice ba bn bc) b1 b2 commits most bn vals (.slice lo m lc) m (.returned (.tuple #[])) (w3.setCell ⟨pb, 1, none⟩ v')) := r2; clear r2; obtain ⟨ao', cap', hv', _⟩ := hA.row.form; clear hA; subst hv')
        go_end0
        exact HDONE.out

end Go.Proofs.YtpfcacedpkaihaaGreat
