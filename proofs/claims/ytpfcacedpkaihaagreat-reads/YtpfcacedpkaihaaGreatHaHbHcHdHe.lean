import Derived.Test.YtpfcacedpkaihaaGreatGdGhGe
import Derived.Laws.AppendOwnNone
/- The document's touches, nodeOf, both and Last (package almanacref), walked. -/
namespace Go.Proofs.YtpfcacedpkaihaaGreat
open Go.RowKit

set_option maxHeartbeats 1000000 in
theorem rtouches (w : World) (b : Nat) (R : RefS) (t : Nat) (K : Int) (p : PastE) (h : Ref w b R) (hf : R.Fit) (hp : R.past[t]? = some p) :
    Calls Tryz.prog 141 #[.pointer (some ⟨b, 0, none⟩), .int .u64 t, .int .u8 K] w fun e w' => e = .returned (.bool (bits .and .u8 p.keys K != 0)) ∧ w = w' := by
  obtain ⟨hlt, hp'⟩ := List.getElem?_eq_some_iff.mp hp
  have hm := hf.pmax
  obtain ⟨g, cap, hv, ho, _⟩ := h.past.block (by omega)
  have c0 := h.c0
  rw [hv] at c0
  have hcell := h.past.cell ho (t * 10 + 8) _ (by rw [past_at R.past t hlt 8 (by omega), hp']; rfl)
  clear h hf hv ho hp hp'
  go_enter Tryz.func141, Tryz.ntmps141
  go_wp2
  go_ret
  exact ⟨rfl, rfl⟩

set_option maxHeartbeats 1000000 in
theorem rnodeOf (w : World) (b : Nat) (R : RefS) (q : ByteArray) (h : Ref w b R) (hf : R.Fit) (hq : q.size ≤ 40) :
    Calls Tryz.prog 93 #[.pointer (some ⟨b, 0, none⟩), .string q] w fun e w' => e = .returned (.int .i64 ((sumB q.data.toList % R.nodes.length : Nat) : Int)) ∧ w = w' := by
  have hn0 := hf.npos
  have hn1 := hf.nmax
  obtain ⟨ao, cap, hv, _⟩ := h.nodes.form
  have c3 := h.c3
  rw [hv] at c3
  have hql : q.data.toList.length = q.size := by rw [Array.length_toList]; rfl
  clear h hf hv
  go_enter Tryz.func93, Tryz.ntmps93
  go_wp2
  go_loop [5, 6] (fun s i => ∃ k : Nat, k ≤ q.size ∧ i = .int .i64 k ∧ s = .int .i64 (sumB (q.data.toList.take k) : Nat)) (fun _ i => q.size - (intOf i).toNat)
  case atStart => exact ⟨0, Nat.zero_le _, rfl, rfl⟩
  case round =>
    obtain ⟨k, hk, rfl, rfl⟩ := hrel
    have hle := sumB_le q.data.toList k (by omega)
    by_cases hlt : k < q.size
    · have HS : Hid (sumB (q.data.toList.take (k + 1)) = sumB (q.data.toList.take k) + q[k].toNat) := by
        show _ = _
        rw [sumB_snoc q.data.toList k (by omega)]; rfl
      have hb : q[k].toNat < 256 := UInt8.toNat_lt _
      go_wp2
      go_round
      case rel => exact ⟨k + 1, by omega, by go_num, by rw [HS.out]; go_num⟩
      case measure => simp [intOf]; omega
    · have hkk : k = q.size := by omega
      subst hkk
      rw [List.take_of_length_le (by omega)] at hle ⊢
      go_wp2
      go_ret
      exact ⟨rt_int (by simp), rfl⟩

set_option maxHeartbeats 1000000 in
theorem rlast (w : World) (q : Value) (val : Int) (fr till kn hz : Nat) (op : Bool) (hq : ∃ s, q = .string s) (ht : op = false → 1 ≤ till) (hb : till ≤ 701 ∧ kn ≤ 700 ∧ hz ≤ 700) :
    Calls Tryz.prog 96 #[.agg #[q, .int .i32 val, .int .u64 fr, .int .u64 till, .bool op, .int .u64 kn], .int .u64 hz] w fun e w' => e = .returned (.int .u64 (((if op then max kn hz else till - 1) : Nat) : Int)) ∧ Below w.heap.size w w' := by
  obtain ⟨s, rfl⟩ := hq
  obtain ⟨hb1, hb2, hb3⟩ := hb
  cases op with
  | false =>
    have h1 : 1 ≤ till := ht rfl
    clear ht
    go_enter Tryz.func96, Tryz.ntmps96
    go_wp2
    go_ret
    exact ⟨rt_int (by omega), (Below.refl _ _).alloc (Nat.le_refl _) _⟩
  | true =>
    clear ht
    by_cases hc : hz < kn
    · go_enter Tryz.func96, Tryz.ntmps96
      go_wp2
      go_ret
      exact ⟨rt_int (by omega), (Below.refl _ _).alloc (Nat.le_refl _) _⟩
    · go_enter Tryz.func96, Tryz.ntmps96
      go_wp2
      go_ret
      exact ⟨rt_int (by omega), (Below.refl _ _).alloc (Nat.le_refl _) _⟩

end Go.Proofs.YtpfcacedpkaihaaGreat

/- The document's both and without (package almanacref), walked. -/
namespace Go.Proofs.YtpfcacedpkaihaaGreat
open Go.RowKit

set_option maxHeartbeats 1000000 in
theorem rboth (w : World) (a b c d : Nat) :
    Calls Tryz.prog 95 #[.agg #[.int .u64 a, .int .u64 b], .agg #[.int .u64 c, .int .u64 d]] w fun e w' =>
      e = .returned (.tuple #[.agg #[.int .u64 ((max a c : Nat) : Int), .int .u64 ((min b d : Nat) : Int)], .bool (decide (((max a c : Nat) : Int) ≤ ((min b d : Nat) : Int)))]) ∧ Below w.heap.size w w' := by
  obtain ⟨x, hx⟩ : ∃ x, x = max a c := ⟨_, rfl⟩
  obtain ⟨y, hy⟩ : ∃ y, y = min b d := ⟨_, rfl⟩
  rw [← hx, ← hy]
  by_cases h1 : a < c
  · by_cases h2 : d < b
    · obtain rfl : x = c := by omega
      obtain rfl : y = d := by omega
      clear hx hy
      go_enter Tryz.func95, Tryz.ntmps95
      go_wp2
      go_region
      all_goals
        go_wp2
        refine bodyPost_ret (v := .tuple #[.agg #[.int .u64 (x : Int), .int .u64 (y : Int)], .bool (decide ((x : Int) ≤ (y : Int)))]) (by simp [results, Tryz.results95, go_sem]) rfl ⟨rfl, ?_⟩
        exact ((((Below.refl _ _).alloc (Nat.le_refl _) _).alloc (by simp) _).alloc (by simp; omega) _).drew
    · obtain rfl : x = c := by omega
      obtain rfl : y = b := by omega
      clear hx hy
      go_enter Tryz.func95, Tryz.ntmps95
      go_wp2
      go_region
      all_goals
        go_wp2
        refine bodyPost_ret (v := .tuple #[.agg #[.int .u64 (x : Int), .int .u64 (y : Int)], .bool (decide ((x : Int) ≤ (y : Int)))]) (by simp [results, Tryz.results95, go_sem]) rfl ⟨rfl, ?_⟩
        exact ((((Below.refl _ _).alloc (Nat.le_refl _) _).alloc (by simp) _).alloc (by simp; omega) _).drew
  · by_cases h2 : d < b
    · obtain rfl : x = a := by omega
      obtain rfl : y = d := by omega
      clear hx hy
      go_enter Tryz.func95, Tryz.ntmps95
      go_wp2
      go_region
      all_goals
        go_wp2
        refine bodyPost_ret (v := .tuple #[.agg #[.int .u64 (x : Int), .int .u64 (y : Int)], .bool (decide ((x : Int) ≤ (y : Int)))]) (by simp [results, Tryz.results95, go_sem]) rfl ⟨rfl, ?_⟩
        exact ((((Below.refl _ _).alloc (Nat.le_refl _) _).alloc (by simp) _).alloc (by simp; omega) _).drew
    · obtain rfl : x = a := by omega
      obtain rfl : y = b := by omega
      clear hx hy
      go_enter Tryz.func95, Tryz.ntmps95
      go_wp2
      go_region
      all_goals
        go_wp2
        refine bodyPost_ret (v := .tuple #[.agg #[.int .u64 (x : Int), .int .u64 (y : Int)], .bool (decide ((x : Int) ≤ (y : Int)))]) (by simp [results, Tryz.results95, go_sem]) rfl ⟨rfl, ?_⟩
        exact ((((Below.refl _ _).alloc (Nat.le_refl _) _).alloc (by simp) _).alloc (by simp; omega) _).drew

end Go.Proofs.YtpfcacedpkaihaaGreat

/- The document's without (package almanacref), walked. -/
namespace Go.Proofs.YtpfcacedpkaihaaGreat
open Go.RowKit
def WithoutPost (w : World) (n : Nat) (l' : List EntE) (e : Ending) (w' : World) : Prop :=
  ∃ v, e = .returned v ∧ Row w' 55 6 v (n - 1) (l'.flatMap entC) ∧ Kept (fun _ => False) w w' ∧ (∀ x, v.ownBlock = some x → w.heap.size ≤ x)

theorem without_done {w w1 w2 : World} {n i m : Nat} {l : List EntE} {v1 v2 : Value} (hl : l.length = n) (hi : i < n) (hm : m = n - (i + 1))
    (h1 : Row w1 55 6 v1 i ((l.take i).flatMap entC) ∧ Kept (fun _ => False) w w1 ∧ (∀ x, v1.ownBlock = some x → w.heap.size ≤ x))
    (hA : Appended w1 w2 55 6 v1 v2 i m ((l.take i).flatMap entC) ((l.drop (i + 1)).flatMap entC)) : WithoutPost w n (l.eraseIdx i) (.returned v2) w2 := by
  refine ⟨v2, rfl, ?_, h1.2.1.trans hA.kept (fun _ => id) (fun x hx he => ?_), fun x hx => ?_⟩
  · have := hA.row
    rw [← List.flatMap_append, ← List.eraseIdx_eq_take_drop_succ, show i + m = n - 1 by omega] at this
    exact this
  · have := h1.2.2 x he; omega
  · rcases hA.own with e | e
    · exact h1.2.2 x (by rw [← e]; exact hx)
    · exact Nat.le_trans h1.2.1.size (e x hx)

set_option maxRecDepth 100000 in
set_option maxHeartbeats 1000000 in
theorem rwithout (w : World) (g n cap i : Nat) (l : List EntE) (hr : Row w 55 6 (.slice (some ⟨g, 0, none⟩) n cap) n (l.flatMap entC)) (hl : l.length = n) (hi : i < n) (hn : n ≤ 1000) (hcap : n ≤ cap) (hcm : cap ≤ maxLen) :
    Calls Tryz.prog 100 #[.slice (some ⟨g, 0, none⟩) n cap, .int .i64 i] w fun e w' => WithoutPost w n (l.eraseIdx i) e w' := by
  unfold maxLen at hcm
  obtain ⟨i0, hi0, hz0, hz1, hz2⟩ := info_parts Tryz.infoEntry
  have HI : Hid (Tryz.prog.info? 55 = some i0 ∧ i0.zero = some (.agg #[.string ByteArray.empty, .int .i32 0, .int .u64 0, .int .u64 0, .bool false, .int .u64 0]) ∧ i0.size = 6 ∧ i0.bytes = 56) := ⟨hi0, hz0, hz1, hz2⟩
  clear hi0 hz0 hz1 hz2
  have HN1 : Hid (∀ j u, ((l.take i).flatMap entC)[j]? = some u → w.cell? ((⟨g, 0, none⟩ : Addr).add j) = some u) := by
    intro j u hj
    have e : (⟨g, 0, none⟩ : Addr).add j = ⟨g, j, none⟩ := by cases j <;> simp [Addr.add]
    rw [e]
    refine hr.cell rfl j u ?_
    have hjl := (List.getElem?_eq_some_iff.mp hj).1
    rw [← List.take_append_drop i l, List.flatMap_append, List.getElem?_append_left hjl]; exact hj
  have HL1 : Hid (((l.take i).flatMap entC).length = i * 6) := by
    show _ = _
    rw [flat_length entC 6 (fun _ => rfl), List.length_take]; congr 1; omega
  have hii : (i : Int) ≤ (cap : Int) := by omega
  have hii1 : (i : Int) + 1 ≤ (n : Int) := by omega
  have hnc : (n : Int) ≤ (cap : Int) := by omega
  have b0 : 0 + i ≤ maxLen := by unfold maxLen; omega
  have b1 : (0 + i) * 56 ≤ 140737488355328 := by omega
  have HL2 : Hid (((l.drop (i + 1)).flatMap entC).length = (n - (i + 1)) * 6) := by
    show _ = _
    rw [flat_length entC 6 (fun _ => rfl), List.length_drop, hl]
  have b2 : i + (n - (i + 1)) ≤ maxLen := by unfold maxLen; omega
  have b3 : (i + (n - (i + 1))) * 56 ≤ 140737488355328 := by omega
  have HR : Hid (Row w 55 6 (.slice (some ⟨g, 0, none⟩) n cap) n (l.flatMap entC)) := hr
  clear hr
  by_cases hce : cap = i + 1
  · have HN2 : Hid (∀ w1, Kept (fun _ => False) w w1 → ∀ j u, ((l.drop (i + 1)).flatMap entC)[j]? = some u → w1.cell? ((⟨g, 0, none⟩ : Addr).add j) = some u) := by
      intro w1 _ j u hj
      rw [List.drop_eq_nil_of_le (by omega)] at hj
      simp at hj
    subst hce
    obtain rfl : n = i + 1 := by omega
    have HL3 : Hid (((l.drop (i + 1)).flatMap entC).length = 0 * 6) := by
      show _ = _
      rw [HL2.out]; omega
    have b4 : i + 0 ≤ maxLen := by unfold maxLen; omega
    have b5 : (i + 0) * 56 ≤ 140737488355328 := by omega
    go_enter Tryz.func100, Tryz.ntmps100
    go_wp2_with (first
      | (at_builtin; refine wpList_append_mine _ rfl (.tmp 6) (.tmp 9) 51 rfl 55 i0 (.agg #[.string ByteArray.empty, .int .i32 0, .int .u64 0, .int .u64 0, .bool false, .int .u64 0]) 6 56 Tryz.underlying51 HI.out.1 HI.out.2.1 HI.out.2.2.1 HI.out.2.2.2 rfl (by decide) (.slice none 0 0) 0 [] rfl (Row.nil _ _ _) ⟨g, 0, none⟩ i (i + 1) ((l.take i).flatMap entC) rfl HL1.out HN1.out (oneCell_ent _) b0 b1 ?_; intro v1 w1 hA1; have H1 : Hid (Row w1 55 6 v1 i ((l.take i).flatMap entC) ∧ Kept (fun _ => False) w w1 ∧ (∀ x, v1.ownBlock = some x → w.heap.size ≤ x)) := ⟨by have := hA1.row; rw [Nat.zero_add, List.nil_append] at this; exact this, hA1.kept.mono (fun k hk => by simp [Value.ownBlock] at hk), fun x hx => hA1.own.elim (fun e => by rw [e] at hx; simp [Value.ownBlock] at hx) (fun e => e x hx)⟩; clear hA1)
      | (at_builtin; refine wpList_append_mine _ rfl (.tmp 11) (.tmp 15) 51 rfl 55 i0 (.agg #[.string ByteArray.empty, .int .i32 0, .int .u64 0, .int .u64 0, .bool false, .int .u64 0]) 6 56 Tryz.underlying51 HI.out.1 HI.out.2.1 HI.out.2.2.1 HI.out.2.2.2 rfl (by decide) _ i ((l.take i).flatMap entC) rfl H1.out.1 ⟨g, 0, none⟩ 0 0 ((l.drop (i + 1)).flatMap entC) rfl HL3.out (HN2.out w1 H1.out.2.1) (oneCell_ent _) b4 b5 ?_; intro v2 w2 hA2; have H2 : Hid (WithoutPost w (i + 1) (l.eraseIdx i) (.returned v2) w2) := without_done hl hi (by omega) H1.out hA2; clear hA2))
    go_ret
    exact H2.out
  · have HN2 : Hid (∀ w1, Kept (fun _ => False) w w1 → ∀ j u, ((l.drop (i + 1)).flatMap entC)[j]? = some u → w1.cell? ((⟨g, (i + 1) * 6, none⟩ : Addr).add j) = some u) := by
      intro w1 hk j u hj
      have e : (⟨g, (i + 1) * 6, none⟩ : Addr).add j = ⟨g, (i + 1) * 6 + j, none⟩ := by cases j <;> simp [Addr.add]
      rw [e]
      refine (HR.out.kept hk (fun _ _ => id)).cell rfl ((i + 1) * 6 + j) u ?_
      have hlen : ((l.take (i + 1)).flatMap entC).length = (i + 1) * 6 := by rw [flat_length entC 6 (fun _ => rfl), List.length_take]; congr 1; omega
      rw [← List.take_append_drop (i + 1) l, List.flatMap_append, List.getElem?_append_right (by omega), hlen, Nat.add_sub_cancel_left]; exact hj
    go_enter Tryz.func100, Tryz.ntmps100
    go_wp2_with (first
      | (at_builtin; refine wpList_append_mine _ rfl (.tmp 6) (.tmp 9) 51 rfl 55 i0 (.agg #[.string ByteArray.empty, .int .i32 0, .int .u64 0, .int .u64 0, .bool false, .int .u64 0]) 6 56 Tryz.underlying51 HI.out.1 HI.out.2.1 HI.out.2.2.1 HI.out.2.2.2 rfl (by decide) (.slice none 0 0) 0 [] rfl (Row.nil _ _ _) ⟨g, 0, none⟩ i cap ((l.take i).flatMap entC) rfl HL1.out HN1.out (oneCell_ent _) b0 b1 ?_; intro v1 w1 hA1; have H1 : Hid (Row w1 55 6 v1 i ((l.take i).flatMap entC) ∧ Kept (fun _ => False) w w1 ∧ (∀ x, v1.ownBlock = some x → w.heap.size ≤ x)) := ⟨by have := hA1.row; rw [Nat.zero_add, List.nil_append] at this; exact this, hA1.kept.mono (fun k hk => by simp [Value.ownBlock] at hk), fun x hx => hA1.own.elim (fun e => by rw [e] at hx; simp [Value.ownBlock] at hx) (fun e => e x hx)⟩; clear hA1)
      | (at_builtin; refine wpList_append_mine _ rfl (.tmp 11) (.tmp 15) 51 rfl 55 i0 (.agg #[.string ByteArray.empty, .int .i32 0, .int .u64 0, .int .u64 0, .bool false, .int .u64 0]) 6 56 Tryz.underlying51 HI.out.1 HI.out.2.1 HI.out.2.2.1 HI.out.2.2.2 rfl (by decide) _ i ((l.take i).flatMap entC) rfl H1.out.1 ⟨g, (i + 1) * 6, none⟩ (n - (i + 1)) (cap - (i + 1)) ((l.drop (i + 1)).flatMap entC) rfl HL2.out (HN2.out w1 H1.out.2.1) (oneCell_ent _) b2 b3 ?_; intro v2 w2 hA2; have H2 : Hid (WithoutPost w n (l.eraseIdx i) (.returned v2) w2) := without_done hl hi rfl H1.out hA2; clear hA2))
    go_ret
    exact H2.out

end Go.Proofs.YtpfcacedpkaihaaGreat

/- The document's Drop (package almanacref), walked. -/
namespace Go.Proofs.YtpfcacedpkaihaaGreat
open Go.RowKit

theorem Ref.c5 {w : World} {b : Nat} {R : RefS} (h : Ref w b R) : w.cell? ⟨b, 5, none⟩ = some R.vu := h.blk.cell 5

/-- the puts, others in their place. -/
def RefS.setPuts (R : RefS) (l : List EntE) (v : Value) : RefS := { R with puts := l, vu := v }
theorem Ref.setPuts {w w' : World} {b : Nat} {R : RefS} (h : Ref w b R) (l : List EntE) (v : Value) (k : Kept (fun _ => False) w w') (hr : Row w' 55 6 v l.length (l.flatMap entC)) (hown : ∀ x, v.ownBlock = some x → w.heap.size ≤ x) :
    Ref (w'.setCell ⟨b, 5, none⟩ v) b (R.setPuts l v) ∧ Kept (R.fp b) w (w'.setCell ⟨b, 5, none⟩ v) ∧ (∀ x, (R.setPuts l v).fp b x → R.fp b x ∨ w.heap.size ≤ x) :=
  h.put 3 5 ⟨55, 6, R.vu, R.puts.length, R.puts.flatMap entC⟩ ⟨55, 6, v, l.length, l.flatMap entC⟩ rfl (k.mono fun _ => False.elim) hr (fun x hx => .inr (hown x hx)) rfl (by dsimp only; decide) rfl

def DropPost (w : World) (b : Nat) (R : RefS) (i : Int) (e : Ending) (w' : World) : Prop :=
  ((i < 0 ∨ (R.puts.length : Int) ≤ i) ∧ e = .returned (.int .i64 10) ∧ w = w') ∨
  (0 ≤ i ∧ i < (R.puts.length : Int) ∧ e = .returned (.int .i64 0) ∧ ∃ v, Ref w' b (R.setPuts (R.puts.eraseIdx i.toNat) v) ∧ Kept (R.fp b) w w' ∧ (∀ x, (R.setPuts (R.puts.eraseIdx i.toNat) v).fp b x → R.fp b x ∨ w.heap.size ≤ x))

set_option maxRecDepth 100000 in
set_option maxHeartbeats 1000000 in
theorem rdrop (w : World) (b : Nat) (R : RefS) (i : Int) (h : Ref w b R) (hp : R.puts.length ≤ 10) :
    Calls Tryz.prog 44 #[.pointer (some ⟨b, 0, none⟩), .int .i64 i] w fun e w' => DropPost w b R i e w' := by
  obtain ⟨ao, cap, hv, _⟩ := h.puts.form
  have c5 := h.c5
  rw [hv] at c5
  by_cases h0 : i < 0
  · have hd : decide (i < 0) = true := by simpa using h0
    clear h hv
    go_enter Tryz.func44, Tryz.ntmps44
    go_wp2
    go_ret
    exact .inl ⟨.inl h0, rfl, rfl⟩
  · have hd : decide (i < 0) = false := by simpa using h0
    by_cases h1 : (R.puts.length : Int) ≤ i
    · have hd1 : decide ((R.puts.length : Int) ≤ i) = true := by simpa using h1
      clear h hv
      go_enter Tryz.func44, Tryz.ntmps44
      go_wp2
      go_ret
      exact .inl ⟨.inr h1, rfl, rfl⟩
    · have hd1 : decide ((R.puts.length : Int) ≤ i) = false := by simpa using h1
      obtain ⟨j, rfl⟩ : ∃ j : Nat, i = j := ⟨i.toNat, by omega⟩
      have hjl : j < R.puts.length := by omega
      rcases h.puts.shape with ⟨_, hn, _⟩ | ⟨g, cp, cur, hv', hb, hcp, hcm, _⟩
      · omega
      rw [hv] at hv'
      injection hv' with e1 _ e2
      subst e1
      subst e2
      have hrow := h.puts
      rw [hv] at hrow
      have HWO : Hid (Calls Tryz.prog 100 #[.slice (some ⟨g, 0, none⟩) R.puts.length cap, .int .i64 j] w fun e w' => WithoutPost w R.puts.length (R.puts.eraseIdx j) e w') := rwithout w g R.puts.length cap j R.puts hrow rfl hjl (by omega) hcp hcm
      have HR : Hid (Ref w b R) := h
      have hz := h.blk.lt
      clear h hv hb hrow
      go_enter Tryz.func44, Tryz.ntmps44
      go_wp2_with (go_at_call 100; refine HWO.out.mono ?_; rintro e w1 ⟨v, rfl, hr1, hk1, ho1⟩; have hl1 : (R.puts.eraseIdx j).length = R.puts.length - 1 := List.length_eraseIdx_of_lt hjl; have HS := HR.out.setPuts (R.puts.eraseIdx j) v hk1 (by rw [hl1]; exact hr1) ho1; have HSH : Hid (Ref (w1.setCell ⟨b, 5, none⟩ v) b (R.setPuts (R.puts.eraseIdx j) v) ∧ Kept (R.fp b) w (w1.setCell ⟨b, 5, none⟩ v) ∧ (∀ x, (R.setPuts (R.puts.eraseIdx j) v).fp b x → R.fp b x ∨ w.heap.size ≤ x)) := HS; have bb := (HR.out.blk.kept hk1 id); have k5 : w1.cell? ⟨b, 5, none⟩ = some R.vu := bb.cell 5; have f5 := bb.free 5; obtain ⟨ao', cap', hv', _⟩ := hr1.form; clear bb hr1 hk1 ho1 HS hl1; subst hv')
      go_ret
      exact .inr ⟨by omega, by omega, rfl, _, HSH.out⟩

end Go.Proofs.YtpfcacedpkaihaaGreat

/- The document's answering over a node that remembers nothing (package almanacref), walked. -/
namespace Go.Proofs.YtpfcacedpkaihaaGreat
open Go.RowKit

set_option maxRecDepth 100000 in
set_option maxHeartbeats 2000000 in
/-- a node that remembers nothing answers nothing. -/
theorem ranswering_none (w : World) (up : Bool) (since hz : Nat) (fl wt nm : Value) (ao : Option Addr) (cap : Nat) (q : ByteArray) (lo hi : Nat) :
    Calls Tryz.prog 94 #[.agg #[.bool up, .int .u64 since, .int .u64 hz, fl, wt, .slice ao 0 cap, nm], .string q, .agg #[.int .u64 lo, .int .u64 hi]] w fun e w' =>
      e = .returned (.int .i64 (-1)) ∧ Below w.heap.size w w' := by
  go_enter Tryz.func94, Tryz.ntmps94
  go_wp2
  go_loopw [7, 8] (fun v i wr => v = .int .i64 (-1) ∧ i = .int .i64 0 ∧ wr = (w.alloc (.cells #[.bool up, .int .u64 since, .int .u64 hz, fl, wt, .slice ao 0 cap, nm] 146)).alloc (.cells #[.int .u64 lo, .int .u64 hi] 88)) (fun _ _ _ => 0)
  case atStart => exact ⟨rfl, rfl, rfl⟩
  case round =>
    obtain ⟨rfl, rfl, rfl⟩ := hrel
    go_wp2
    go_ret
    exact ⟨rfl, ((Below.refl _ _).alloc (Nat.le_refl _) _).alloc (by simp) _⟩

end Go.Proofs.YtpfcacedpkaihaaGreat
