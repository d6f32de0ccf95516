/- What package queries' cut and read answer at every text: the terms of the plain mathematics, in memory of their own. -/
import Derived.Test.YtpfcacedpkaihaaQa
namespace Go.Proofs.Ytpfcacedpkaihaa
open Go.RowKit

/-- the cells of some terms. -/
def cs (l : List (Nat × Nat)) : List Value := l.flatMap fun t => [.int .i64 (t.1 : Int), .int .i64 (t.2 : Int)]
theorem cs_length (l : List (Nat × Nat)) : (cs l).length = l.length * 2 := by
  induction l with
  | nil => rfl
  | cons t r ih => simp only [cs, List.flatMap_cons, List.length_append, List.length_cons, List.length_nil] at ih ⊢; omega
theorem cs_snoc (l : List (Nat × Nat)) (a b : Nat) : cs (l ++ [(a, b)]) = cs l ++ [.int .i64 (a : Int), .int .i64 (b : Int)] := by simp [cs]

theorem Try.infoStep : (Try.prog.info? 98).map (fun i => (i.zero, i.size, i.bytes)) = some (some (.agg #[.int .i64 0, .int .i64 0]), 2, 16) := by kernel_rfl

/-- what the append of one term does to a row that the call owns, and to what was there before. -/
theorem rel_push {E B : Nat} {w wr w1 : World} {v v' : Value} {o : Obj} {l : List (Nat × Nat)} {a b : Nat} (hB : B ≤ wr.heap.size)
    (hown : wr.ownsRow B E 2 v l.length (cs l)) (hnx : Below B w wr)
    (hown' : w1.ownsRow B E 2 v' (l.length + 1) (cs l ++ [.int .i64 (a : Int), .int .i64 (b : Int)])) (hgrow : (wr.alloc o).grownBy w1 v.ownBlock) :
    w1.ownsRow B E 2 v' (l ++ [(a, b)]).length (cs (l ++ [(a, b)])) ∧ Below B w w1 := by
  refine ⟨by rw [cs_snoc]; simpa using hown', (hnx.alloc hB o).grown hgrow (by simp; omega) (fun j hj => (hown.lt j hj).1)⟩

theorem step_yes {s : ByteArray} {k sg : Nat} {l : List (Nat × Nat)} (hk : k < s.size) (hl : Q.isLet s[k] = true)
    (h : Q.cutL 0 s.data.toList = (Q.cutL sg (s.data.toList.drop k)).map (l ++ ·)) (he : ¬ k + 1 < s.size) :
    Q.cutL 0 s.data.toList = some (l ++ [(sg, s[k].toNat - 97)]) := by
  rw [h, drop_cons s k hk, List.drop_eq_nil_of_le (by simp; omega), Q.cutL_one _ _ hl]; rfl

theorem step_none {s : ByteArray} {k sg a : Nat} {l : List (Nat × Nat)} (hk : k < s.size)
    (h : Q.cutL 0 s.data.toList = (Q.cutL sg (s.data.toList.drop k)).map (l ++ ·)) (he : k + 1 < s.size)
    (hp : Q.sgn (s.data.toList.drop (k + 1)) = (a, 0)) : Q.cutL 0 s.data.toList = none := by
  rw [h, drop_cons s k hk]
  by_cases hl : Q.isLet s[k] = true
  · rw [Q.cutL_more _ _ _ hl (by rw [drop_cons s (k + 1) he]; simp), hp]; rfl
  · rw [Q.cutL_notlet _ _ _ (by simpa using hl)]; rfl

theorem step_bad {s : ByteArray} {k sg : Nat} {l : List (Nat × Nat)} (hk : k < s.size) (hl : Q.isLet s[k] = false)
    (h : Q.cutL 0 s.data.toList = (Q.cutL sg (s.data.toList.drop k)).map (l ++ ·)) : Q.cutL 0 s.data.toList = none := by
  rw [h, drop_cons s k hk, Q.cutL_notlet _ _ _ hl]; rfl

theorem step_end {s : ByteArray} {k sg : Nat} {l : List (Nat × Nat)} (hk : ¬ k < s.size)
    (h : Q.cutL 0 s.data.toList = (Q.cutL sg (s.data.toList.drop k)).map (l ++ ·)) : Q.cutL 0 s.data.toList = none := by
  rw [h, List.drop_eq_nil_of_le (by simp; omega)]; rfl

theorem step_on {s : ByteArray} {k sg a b : Nat} {l : List (Nat × Nat)} (hk : k < s.size) (hl : Q.isLet s[k] = true)
    (h : Q.cutL 0 s.data.toList = (Q.cutL sg (s.data.toList.drop k)).map (l ++ ·)) (he : k + 1 < s.size)
    (hp : Q.sgn (s.data.toList.drop (k + 1)) = (a, b)) (hb : b ≠ 0) :
    Q.cutL 0 s.data.toList = (Q.cutL a (s.data.toList.drop (k + 1 + b))).map ((l ++ [(sg, s[k].toNat - 97)]) ++ ·) ∧ k + 1 + b ≤ s.size ∧ a ≤ 3 := by
  have hle := Q.sgn_le (s.data.toList.drop (k + 1))
  rw [hp] at hle
  simp at hle
  refine ⟨?_, by omega, by omega⟩
  rw [h, drop_cons s k hk, Q.cutL_more _ _ _ hl (by rw [drop_cons s (k + 1) he]; simp), hp]
  simp only [hb, if_false, List.drop_drop, Option.map_map]
  congr 1
  funext x; simp

theorem signAt_at (s : ByteArray) (i a b : Nat) (w : World) (hs : s.size ≤ maxLen) (hi : i < s.size) (hp : Q.sgn (s.data.toList.drop i) = (a, b)) (j : Int) (hj : j = i) :
    Calls Try.prog 86 #[.string s, .int .i64 j] w fun e w' => e = .returned (.tuple #[.int .i64 (a : Int), .int .i64 (b : Int)]) ∧ w = w' := by
  have h := signAt_any s i w hs hi
  rw [hp] at h
  rw [hj]; exact h

theorem oneCell_two (a b : Int) : ∀ u ∈ [Value.int .i64 a, Value.int .i64 b], u.oneCell' = true := by
  intro u hu; simp at hu; rcases hu with rfl | rfl <;> rfl

set_option maxHeartbeats 1000000 in
theorem cut_any (s : ByteArray) (w : World) (hs : s.size ≤ 40) :
    Calls Try.prog 59 #[.string s] w fun e w' => ∃ v, e = .returned (.tuple #[v, .bool (Q.cutL 0 s.data.toList).isSome]) ∧
      w'.ownsRow w.heap.size 98 2 v ((Q.cutL 0 s.data.toList).getD []).length (cs ((Q.cutL 0 s.data.toList).getD [])) ∧ Below w.heap.size w w' := by
  have hm : s.size ≤ maxLen := by unfold maxLen; omega
  obtain ⟨i0, hi, hz0, hz1, hz2⟩ := info_parts Try.infoStep
  have HI : Hid (Try.prog.info? 98 = some i0 ∧ i0.zero = some (.agg #[.int .i64 0, .int .i64 0]) ∧ i0.size = 2 ∧ i0.bytes = 16) := ⟨hi, hz0, hz1, hz2⟩
  clear hi hz0 hz1 hz2
  have hend : Hid (Q.cutL 0 s.data.toList = none → ∀ wr, Below w.heap.size w wr → ∃ v, Ending.returned (.tuple #[.slice none 0 0, .bool false]) = .returned (.tuple #[v, .bool (Q.cutL 0 s.data.toList).isSome]) ∧
      wr.ownsRow w.heap.size 98 2 v ((Q.cutL 0 s.data.toList).getD []).length (cs ((Q.cutL 0 s.data.toList).getD [])) ∧ Below w.heap.size w wr) := by
    intro h wr hb; rw [h]; exact ⟨_, rfl, World.ownsRow_nil _ _ _ _, hb⟩
  have hfin : Hid (∀ l, Q.cutL 0 s.data.toList = some l → ∀ v wr, wr.ownsRow w.heap.size 98 2 v l.length (cs l) → Below w.heap.size w wr →
      ∃ v1, Ending.returned (.tuple #[v, .bool true]) = .returned (.tuple #[v1, .bool (Q.cutL 0 s.data.toList).isSome]) ∧
      wr.ownsRow w.heap.size 98 2 v1 ((Q.cutL 0 s.data.toList).getD []).length (cs ((Q.cutL 0 s.data.toList).getD [])) ∧ Below w.heap.size w wr) := by
    intro l h v wr ho hb; rw [h]; exact ⟨_, rfl, ho, hb⟩
  go_enter Try.func59, Try.ntmps59
  go_wp2
  go_loopw [4, 5, 6] (fun v g i wr => ∃ (k sg : Nat) (l : List (Nat × Nat)), k ≤ s.size ∧ i = .int .i64 k ∧ g = .int .i64 sg ∧ l.length ≤ k ∧
      wr.ownsRow w.heap.size 98 2 v l.length (cs l) ∧ Below w.heap.size w wr ∧ Hid (Q.cutL 0 s.data.toList = (Q.cutL sg (s.data.toList.drop k)).map (l ++ ·)))
    (fun _ _ i _ => s.size - (intOf i).toNat)
  case atStart => exact ⟨0, 0, [], Nat.zero_le _, rfl, rfl, Nat.le_refl _, World.ownsRow_nil _ _ _ _, Below.refl _ _, by simp [Hid]⟩
  case round =>
    obtain ⟨k, sg, l, hk, rfl, rfl, hlk, hown, hnx, HP⟩ := hrel
    by_cases hlt : k < s.size
    · cases hl : Q.isLet s[k] with
      | false =>
        have HL : Hid (Q.isLet s[k] = false) := hl
        clear hl
        go_wp2_with (go_at_call 85; refine (keyOf_no _ _ HL.out).mono ?_; rintro e w' ⟨rfl, rfl⟩)
        go_ret2
        exact hend.out (step_bad hlt HL.out HP.out) _ hnx
      | true =>
        have HL : Hid (Q.isLet s[k] = true) := hl
        clear hl
        have hB : w.heap.size ≤ wr.heap.size := hnx.size
        obtain ⟨kk, hkk⟩ : ∃ kk : Nat, kk = s[k].toNat - 97 := ⟨_, rfl⟩
        have HK : Hid (kk = s[k].toNat - 97) := hkk
        have hkey := fun w => keyOf_yes s[k] w HL.out
        rw [← hkk] at hkey
        have HKey : Hid (∀ w, Calls Try.prog 85 #[.int .u8 s[k].toNat] w fun e w' => e = .returned (.tuple #[.int .i64 (kk : Int), .bool true]) ∧ w = w') := hkey
        clear hkey hkk
        by_cases hlast : k + 1 < s.size
        · obtain ⟨a, b, hp⟩ : ∃ a b, Q.sgn (s.data.toList.drop (k + 1)) = (a, b) := ⟨_, _, rfl⟩
          have HS : Hid (Q.sgn (s.data.toList.drop (k + 1)) = (a, b)) := hp
          clear hp
          have hne : (((k : Int) + 1) == (s.size : Int)) = false := by simp; omega
          have hb2 : b ≤ 2 := by have := Q.sgn_le (s.data.toList.drop (k + 1)); rw [HS.out] at this; exact this.2.2
          by_cases hb : b = 0
          · have hbz : ((b : Int) == 0) = true := by simp; omega
            have HB : Hid (b = 0) := hb
            clear hb
            go_wp2_with (first
            | (go_at_call 85; refine (HKey.out _).mono ?_; rintro e w' ⟨rfl, rfl⟩)
            | (go_at_call 86; refine (signAt_at s (k + 1) a b _ hm hlast HS.out _ (by omega)).mono ?_; rintro e w' ⟨rfl, rfl⟩)
            | (at_builtin; refine wpList_append_own _ rfl (.tmp 24) (.tmp 28) 94 rfl w.heap.size 98 i0 (.agg #[.int .i64 0, .int .i64 0]) 2 16 Try.underlying94 HI.out.1 HI.out.2.1 HI.out.2.2.1 HI.out.2.2.2 rfl (by decide) _ _ _ rfl (hown.alloc _) ⟨wr.heap.size, 0, none⟩ 1 1 [.int .i64 sg, .int .i64 kk] rfl rfl (cell_two_new _ _ _ _) (oneCell_two _ _) (by unfold maxLen; omega) (by omega) (by simp; omega) ?_; intro v' w1 hown' hgrow _))
            go_ret2
            have HS0 := HS.out
            rw [HB.out] at HS0
            obtain ⟨_, r2⟩ := rel_push (a := sg) (b := kk) hB hown hnx (by assumption) (by assumption)
            exact hend.out (step_none hlt HP.out hlast HS0) _ r2
          · have hbz : ((b : Int) == 0) = false := by simp; omega
            go_wp2_with (first
            | (go_at_call 85; refine (HKey.out _).mono ?_; rintro e w' ⟨rfl, rfl⟩)
            | (go_at_call 86; refine (signAt_at s (k + 1) a b _ hm hlast HS.out _ (by omega)).mono ?_; rintro e w' ⟨rfl, rfl⟩)
            | (at_builtin; refine wpList_append_own _ rfl (.tmp 24) (.tmp 28) 94 rfl w.heap.size 98 i0 (.agg #[.int .i64 0, .int .i64 0]) 2 16 Try.underlying94 HI.out.1 HI.out.2.1 HI.out.2.2.1 HI.out.2.2.2 rfl (by decide) _ _ _ rfl (hown.alloc _) ⟨wr.heap.size, 0, none⟩ 1 1 [.int .i64 sg, .int .i64 kk] rfl rfl (cell_two_new _ _ _ _) (oneCell_two _ _) (by unfold maxLen; omega) (by omega) (by simp; omega) ?_; intro v' w1 hown' hgrow _))
            obtain ⟨r1, r2⟩ := rel_push (a := sg) (b := kk) hB hown hnx (by assumption) (by assumption)
            obtain ⟨q1, q2, q3⟩ := step_on hlt HL.out HP.out hlast HS.out hb
            go_roundw
            case rel => exact ⟨k + 1 + b, a, l ++ [(sg, kk)], q2, by go_num, rfl, by simp; omega, r1, r2, by rw [HK.out]; exact q1⟩
            case measure => simp [intOf]; omega
        · have hne : (((k : Int) + 1) == (s.size : Int)) = true := by simp; omega
          go_wp2_with (first
            | (go_at_call 85; refine (HKey.out _).mono ?_; rintro e w' ⟨rfl, rfl⟩)
            | (at_builtin; refine wpList_append_own _ rfl (.tmp 24) (.tmp 28) 94 rfl w.heap.size 98 i0 (.agg #[.int .i64 0, .int .i64 0]) 2 16 Try.underlying94 HI.out.1 HI.out.2.1 HI.out.2.2.1 HI.out.2.2.2 rfl (by decide) _ _ _ rfl (hown.alloc _) ⟨wr.heap.size, 0, none⟩ 1 1 [.int .i64 sg, .int .i64 kk] rfl rfl (cell_two_new _ _ _ _) (oneCell_two _ _) (by unfold maxLen; omega) (by omega) (by simp; omega) ?_; intro v' w1 hown' hgrow _))
          go_ret2
          obtain ⟨r1, r2⟩ := rel_push (a := sg) (b := kk) hB hown hnx (by assumption) (by assumption)
          exact hfin.out _ (by rw [HK.out]; exact step_yes hlt HL.out HP.out hlast) _ _ r1 r2
    · go_wp2
      go_ret2
      exact hend.out (step_end hlt HP.out) _ hnx

end Go.Proofs.Ytpfcacedpkaihaa
