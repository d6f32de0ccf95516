/- What the document's own terms and read answer (package almanacref): the same terms as the plain mathematics. -/
import Derived.Test.YtpfcacedpkaihaaRa
namespace Go.Proofs.Ytpfcacedpkaihaa
open Go.RowKit

theorem Try.infoTerm : (Try.prog.info? 103).map (fun i => (i.zero, i.size, i.bytes)) = some (some (.agg #[.int .i64 0, .int .i64 0]), 2, 16) := by kernel_rfl

def strLen : Value → Nat | .string b => b.size | _ => 0

theorem bytes_cons (r : ByteArray) (h : 0 < r.size) : r.data.toList = r[0] :: (r.extract 1 r.size).data.toList := by
  rw [Lib.extract_data]
  have := drop_cons r 0 h
  simp at this ⊢
  rw [this]
  simp
  rw [List.take_of_length_le (by simp)]

theorem bytes_nil (r : ByteArray) (h : ¬ 0 < r.size) : r.data.toList = [] := by
  apply List.eq_nil_of_length_eq_zero
  rw [Array.length_toList]
  show r.size = 0
  omega

theorem extract_tail (r : ByteArray) (b n : Nat) (hn : n = r.size) : (r.extract b n).data.toList = r.data.toList.drop b := by
  subst hn
  rw [Lib.extract_data, List.take_of_length_le (by simp)]

theorem owns_below {w w' : World} {B E n : Nat} {v : Value} {xs : List Value} (h : w.ownsRow B E 2 v n xs) (hb : Below w.heap.size w w') : w'.ownsRow B E 2 v n xs := by
  obtain ⟨h1, h2 | ⟨g, cap, cur, hv, hg, hh, r⟩⟩ := h
  · exact ⟨h1, .inl h2⟩
  · refine ⟨h1, .inr ⟨g, cap, cur, hv, hg, ?_, r⟩⟩
    rw [hb.block g]
    · exact hh
    · by_cases hgl : g < w.heap.size
      · exact hgl
      · rw [Array.getElem?_eq_none (by omega)] at hh; simp at hh

set_option maxHeartbeats 2000000 in
theorem terms_any (s : ByteArray) (w : World) (hs : s.size ≤ 40) :
    Calls Try.prog 41 #[.string s] w fun e w' => ∃ v, e = .returned (.tuple #[v, .bool (Q.cutL 0 s.data.toList).isSome]) ∧
      w'.ownsRow w.heap.size 103 2 v ((Q.cutL 0 s.data.toList).getD []).length (cs ((Q.cutL 0 s.data.toList).getD [])) ∧ Below w.heap.size w w' := by
  obtain ⟨i0, hi, hz0, hz1, hz2⟩ := info_parts Try.infoTerm
  have HI : Hid (Try.prog.info? 103 = some i0 ∧ i0.zero = some (.agg #[.int .i64 0, .int .i64 0]) ∧ i0.size = 2 ∧ i0.bytes = 16) := ⟨hi, hz0, hz1, hz2⟩
  clear hi hz0 hz1 hz2
  have hend : Hid (Q.cutL 0 s.data.toList = none → ∀ wr, Below w.heap.size w wr → ∃ v, Ending.returned (.tuple #[.slice none 0 0, .bool false]) = .returned (.tuple #[v, .bool (Q.cutL 0 s.data.toList).isSome]) ∧
      wr.ownsRow w.heap.size 103 2 v ((Q.cutL 0 s.data.toList).getD []).length (cs ((Q.cutL 0 s.data.toList).getD [])) ∧ Below w.heap.size w wr) := by
    intro h wr hb; rw [h]; exact ⟨_, rfl, World.ownsRow_nil _ _ _ _, hb⟩
  have hfin : Hid (∀ l, Q.cutL 0 s.data.toList = some l → ∀ v wr, wr.ownsRow w.heap.size 103 2 v l.length (cs l) → Below w.heap.size w wr →
      ∃ v1, Ending.returned (.tuple #[v, .bool true]) = .returned (.tuple #[v1, .bool (Q.cutL 0 s.data.toList).isSome]) ∧
      wr.ownsRow w.heap.size 103 2 v1 ((Q.cutL 0 s.data.toList).getD []).length (cs ((Q.cutL 0 s.data.toList).getD [])) ∧ Below w.heap.size w wr) := by
    intro l h v wr ho hb; rw [h]; exact ⟨_, rfl, ho, hb⟩
  go_enter Try.func41, Try.ntmps41
  go_wp2
  go_loopw [0, 4, 5] (fun q v g wr => ∃ (r : ByteArray) (sg : Nat) (l : List (Nat × Nat)), q = .string r ∧ r.size + l.length ≤ 40 ∧ g = .int .i64 sg ∧
      wr.ownsRow w.heap.size 103 2 v l.length (cs l) ∧ Below w.heap.size w wr ∧ Hid (Q.cutL 0 s.data.toList = (Q.cutL sg r.data.toList).map (l ++ ·)))
    (fun q _ _ _ => strLen q)
  case atStart => exact ⟨s, 0, [], rfl, by simpa using hs, rfl, World.ownsRow_nil _ _ _ _, Below.refl _ _, by simp [Hid]⟩
  case round =>
    obtain ⟨r, sg, l, rfl, hk, rfl, hown, hnx, HP⟩ := hrel
    by_cases hlt : 0 < r.size
    · have hz0 : ((r.size : Int) == 0) = false := beq_eq_false_iff_ne.mpr (by omega)
      have HC : Hid (r.data.toList = r[0] :: (r.extract 1 r.size).data.toList) := bytes_cons r hlt
      cases hl : Q.isLet r[0] with
      | false =>
        have HL : Hid (Q.isLet r[0] = false) := hl
        have h1 : (r[0].toNat : Int) < 97 ∨ (97 ≤ (r[0].toNat : Int) ∧ 104 < (r[0].toNat : Int)) := by simp [Q.isLet] at hl; omega
        clear hl
        rcases h1 with h1 | ⟨h1, h2⟩
        all_goals
          go_wp2
          go_ret2
          exact hend.out (by rw [HP.out, HC.out, Q.cutL_notlet _ _ _ HL.out]; rfl) _ hnx
      | true =>
        have HL : Hid (Q.isLet r[0] = true) := hl
        have h1 : 97 ≤ (r[0].toNat : Int) := by simp [Q.isLet] at hl; omega
        have h2 : (r[0].toNat : Int) ≤ 104 := by simp [Q.isLet] at hl; omega
        clear hl
        have hB : w.heap.size ≤ wr.heap.size := hnx.size
        have hr1 : (r.extract 1 r.size).size = r.size - 1 := by simp
        have hsz1 : 1 ≤ r.size := hlt
        have HG : Hid ((((r[0].toNat : Int) - 97)) = ((r[0].toNat - 97 : Nat) : Int)) := by simp only [Hid]; omega
        by_cases hone : r.size = 1
        · have HO : Hid (r.size = 1) := hone
          have hz1 : (((r.size - 1 : Nat) : Int) == 0) = true := beq_iff_eq.mpr (by omega)
          clear hone
          go_wp2_with (first
            | (at_builtin; refine wpList_append_own _ rfl (.tmp 21) (.tmp 28) 68 rfl w.heap.size 103 i0 (.agg #[.int .i64 0, .int .i64 0]) 2 16 Try.underlying68 HI.out.1 HI.out.2.1 HI.out.2.2.1 HI.out.2.2.2 rfl (by decide) _ _ _ rfl (hown.alloc _) ⟨wr.heap.size, 0, none⟩ 1 1 [.int .i64 sg, .int .i64 ((r[0].toNat : Int) - 97)] rfl rfl (cell_two_new _ _ _ _) (oneCell_two _ _) (by unfold maxLen; omega) (by omega) (by simp; omega) ?_; intro v' w1 hown' hgrow _))
          go_ret2
          obtain ⟨q1, q2⟩ := rel_push (a := sg) (b := r[0].toNat - 97) hB hown hnx (by rw [← HG.out]; assumption) (by assumption)
          exact hfin.out _ (by rw [HP.out, HC.out, bytes_nil (r.extract 1 r.size) (by rw [hr1, HO.out]; omega), Q.cutL_one _ _ HL.out]; rfl) _ _ q1 q2
        · have hz1 : (((r.size - 1 : Nat) : Int) == 0) = false := beq_eq_false_iff_ne.mpr (by omega)
          have hm1 : (r.extract 1 r.size).size ≤ maxLen := by rw [hr1]; unfold maxLen; omega
          have hne : (r.extract 1 r.size).data.toList ≠ [] := by intro h; have := congrArg List.length h; rw [Array.length_toList] at this; have h2 : (r.extract 1 r.size).size = 0 := this; omega
          have hsg := fun W => rsign_any (r.extract 1 r.size) W hm1
          obtain ⟨a, b, hp⟩ : ∃ a b, Q.sgn (r.extract 1 r.size).data.toList = (a, b) := ⟨_, _, rfl⟩
          have hbd := Q.sgn_le (r.extract 1 r.size).data.toList
          rw [hp] at hbd
          rw [Array.length_toList] at hbd
          have hbd1 : b ≤ r.size - 1 := by have := hbd.1; have h2 : b ≤ (r.extract 1 r.size).size := this; omega
          have hcut := Q.cutL_more sg r[0] (r.extract 1 r.size).data.toList HL.out hne
          rw [hp] at hcut
          have HCut : Hid (Q.cutL sg (r[0] :: (r.extract 1 r.size).data.toList) = if b = 0 then none else (Q.cutL a ((r.extract 1 r.size).data.toList.drop b)).map ((sg, r[0].toNat - 97) :: ·)) := hcut
          clear hcut
          by_cases hb : b = 0
          · have hv : rsg (r.extract 1 r.size).data.toList = (-1, 0) := by unfold rsg; rw [hp]; simp [hb]
            rw [hv] at hsg
            have HS : Hid (∀ W, Calls Try.prog 60 #[.string (r.extract 1 r.size)] W fun e w' => e = .returned (.tuple #[.int .i64 (-1), .int .i64 0]) ∧ Below W.heap.size W w') := hsg
            have HB : Hid (b = 0) := hb
            clear hsg hv hb hp hbd hne
            go_wp2_with (first
              | (go_at_call 60; refine (HS.out _).mono ?_; rintro e w2 ⟨rfl, hb2⟩)
              | (at_builtin; refine wpList_append_own _ rfl (.tmp 21) (.tmp 28) 68 rfl w.heap.size 103 i0 (.agg #[.int .i64 0, .int .i64 0]) 2 16 Try.underlying68 HI.out.1 HI.out.2.1 HI.out.2.2.1 HI.out.2.2.2 rfl (by decide) _ _ _ rfl (hown.alloc _) ⟨wr.heap.size, 0, none⟩ 1 1 [.int .i64 sg, .int .i64 ((r[0].toNat : Int) - 97)] rfl rfl (cell_two_new _ _ _ _) (oneCell_two _ _) (by unfold maxLen; omega) (by omega) (by simp; omega) ?_; intro v' w1 hown' hgrow _))
            go_ret2
            obtain ⟨q1, q2⟩ := rel_push (a := sg) (b := r[0].toNat - 97) hB hown hnx (by rw [← HG.out]; assumption) (by assumption)
            exact hend.out (by rw [HP.out, HC.out, HCut.out, HB.out]; rfl) _ (q2.trans (hb2.mono q2.size))
          · have hv : rsg (r.extract 1 r.size).data.toList = ((a : Int), (b : Int)) := by unfold rsg; rw [hp]; simp [hb]
            rw [hv] at hsg
            have HS : Hid (∀ W, Calls Try.prog 60 #[.string (r.extract 1 r.size)] W fun e w' => e = .returned (.tuple #[.int .i64 (a : Int), .int .i64 (b : Int)]) ∧ Below W.heap.size W w') := hsg
            clear hsg hv hp hbd hne
            go_wp2_with (first
              | (go_at_call 60; refine (HS.out _).mono ?_; rintro e w2 ⟨rfl, hb2⟩)
              | (at_builtin; refine wpList_append_own _ rfl (.tmp 21) (.tmp 28) 68 rfl w.heap.size 103 i0 (.agg #[.int .i64 0, .int .i64 0]) 2 16 Try.underlying68 HI.out.1 HI.out.2.1 HI.out.2.2.1 HI.out.2.2.2 rfl (by decide) _ _ _ rfl (hown.alloc _) ⟨wr.heap.size, 0, none⟩ 1 1 [.int .i64 sg, .int .i64 ((r[0].toNat : Int) - 97)] rfl rfl (cell_two_new _ _ _ _) (oneCell_two _ _) (by unfold maxLen; omega) (by omega) (by simp; omega) ?_; intro v' w1 hown' hgrow _))
            obtain ⟨q1, q2⟩ := rel_push (a := sg) (b := r[0].toNat - 97) hB hown hnx (by rw [← HG.out]; assumption) (by assumption)
            have q3 := owns_below q1 hb2
            go_roundw
            case rel => exact ⟨_, a, l ++ [(sg, r[0].toNat - 97)], rfl, by simp; omega, rfl, q3, q2.trans (hb2.mono q2.size), by rw [extract_tail _ _ _ (by simp), HP.out, HC.out, HCut.out, if_neg hb]; simp [Hid, Function.comp_def]⟩
            case measure => simp [strLen]; omega
    · have hz0 : ((r.size : Int) == 0) = true := beq_iff_eq.mpr (by omega)
      go_wp2
      go_ret2
      exact hend.out (by rw [HP.out, bytes_nil r hlt]; rfl) _ hnx

end Go.Proofs.Ytpfcacedpkaihaa
