/- The document's without (package almanacref), walked. -/
import Derived.Test.YtkednbbjofeecaaGreatHb
namespace Go.Proofs.YtkednbbjofeecaaGreat
open Go.RowKit

theorem Tryz.infoEntry : (Tryz.prog.info? 55).map (fun i => (i.zero, i.size, i.bytes)) = some (some (.agg #[.string ByteArray.empty, .int .i32 0, .int .u64 0, .int .u64 0, .bool false, .int .u64 0]), 6, 56) := by kernel_rfl
theorem oneCell_ent (l : List EntE) : ∀ u ∈ l.flatMap entC, u.oneCell' = true := by
  intro u hu
  simp [entC] at hu
  obtain ⟨a, _, rfl | rfl | rfl | rfl | rfl | rfl⟩ := hu <;> rfl

def WithoutPost (w : World) (n : Nat) (l' : List EntE) (e : Ending) (w' : World) : Prop :=
  ∃ v, e = .returned v ∧ Row w' 55 6 v (n - 1) (l'.flatMap entC) ∧ Kept (fun _ => False) w w' ∧ (∀ x, v.ownBlock = some x → w.heap.size ≤ x)

theorem without_done {w w1 w2 : World} {n i m : Nat} {l : List EntE} {v1 v2 : Value} (hl : l.length = n) (hi : i < n) (hm : m = n - (i + 1))
    (h1 : Row w1 55 6 v1 i ((l.take i).flatMap entC) ∧ Kept (fun _ => False) w w1 ∧ (∀ x, v1.ownBlock = some x → w.heap.size ≤ x))
    (hA : Appended w1 w2 55 6 v1 v2 i m ((l.take i).flatMap entC) ((l.drop (i + 1)).flatMap entC)) : WithoutPost w n (l.eraseIdx i) (.returned v2) w2 := by
  refine ⟨v2, rfl, ?_, h1.2.1.trans hA.kept (fun _ => id) (fun x hx he => ?_), fun x hx => ?_⟩
  · have := hA.row
    rw [← List.flatMap_append, ← List.eraseIdx_eq_take_drop_succ, show i + m = n - 1 by omega] at this
    exact this
  · have := h1.2.2 x he; omega
  · rcases hA.own with e | e
    · exact h1.2.2 x (by rw [← e]; exact hx)
    · exact Nat.le_trans h1.2.1.size (e x hx)

set_option maxRecDepth 100000 in
set_option maxHeartbeats 1000000 in
theorem rwithout (w : World) (g n cap i : Nat) (l : List EntE) (hr : Row w 55 6 (.slice (some ⟨g, 0, none⟩) n cap) n (l.flatMap entC)) (hl : l.length = n) (hi : i < n) (hn : n ≤ 1000) (hcap : n ≤ cap) (hcm : cap ≤ maxLen) :
    Calls Tryz.prog 95 #[.slice (some ⟨g, 0, none⟩) n cap, .int .i64 i] w fun e w' => WithoutPost w n (l.eraseIdx i) e w' := by
  unfold maxLen at hcm
  obtain ⟨i0, hi0, hz0, hz1, hz2⟩ := info_parts Tryz.infoEntry
  have HI : Hid (Tryz.prog.info? 55 = some i0 ∧ i0.zero = some (.agg #[.string ByteArray.empty, .int .i32 0, .int .u64 0, .int .u64 0, .bool false, .int .u64 0]) ∧ i0.size = 6 ∧ i0.bytes = 56) := ⟨hi0, hz0, hz1, hz2⟩
  clear hi0 hz0 hz1 hz2
  have HN1 : Hid (∀ j u, ((l.take i).flatMap entC)[j]? = some u → w.cell? ((⟨g, 0, none⟩ : Addr).add j) = some u) := by
    intro j u hj
    have e : (⟨g, 0, none⟩ : Addr).add j = ⟨g, j, none⟩ := by cases j <;> simp [Addr.add]
    rw [e]
    refine hr.cell rfl j u ?_
    have hjl := (List.getElem?_eq_some_iff.mp hj).1
    rw [← List.take_append_drop i l, List.flatMap_append, List.getElem?_append_left hjl]; exact hj
  have HL1 : Hid (((l.take i).flatMap entC).length = i * 6) := by
    show _ = _
    rw [flat_length entC 6 (fun _ => rfl), List.length_take]; congr 1; omega
  have hii : (i : Int) ≤ (cap : Int) := by omega
  have hii1 : (i : Int) + 1 ≤ (n : Int) := by omega
  have hnc : (n : Int) ≤ (cap : Int) := by omega
  have b0 : 0 + i ≤ maxLen := by unfold maxLen; omega
  have b1 : (0 + i) * 56 ≤ 140737488355328 := by omega
  have HL2 : Hid (((l.drop (i + 1)).flatMap entC).length = (n - (i + 1)) * 6) := by
    show _ = _
    rw [flat_length entC 6 (fun _ => rfl), List.length_drop, hl]
  have b2 : i + (n - (i + 1)) ≤ maxLen := by unfold maxLen; omega
  have b3 : (i + (n - (i + 1))) * 56 ≤ 140737488355328 := by omega
  have HR : Hid (Row w 55 6 (.slice (some ⟨g, 0, none⟩) n cap) n (l.flatMap entC)) := hr
  clear hr
  by_cases hce : cap = i + 1
  · have HN2 : Hid (∀ w1, Kept (fun _ => False) w w1 → ∀ j u, ((l.drop (i + 1)).flatMap entC)[j]? = some u → w1.cell? ((⟨g, 0, none⟩ : Addr).add j) = some u) := by
      intro w1 _ j u hj
      rw [List.drop_eq_nil_of_le (by omega)] at hj
      simp at hj
    subst hce
    obtain rfl : n = i + 1 := by omega
    have HL3 : Hid (((l.drop (i + 1)).flatMap entC).length = 0 * 6) := by
      show _ = _
      rw [HL2.out]; omega
    have b4 : i + 0 ≤ maxLen := by unfold maxLen; omega
    have b5 : (i + 0) * 56 ≤ 140737488355328 := by omega
    go_enter Tryz.func95, Tryz.ntmps95
    go_wp2_with (first
      | (at_builtin; refine wpList_append_mine _ rfl (.tmp 6) (.tmp 9) 51 rfl 55 i0 (.agg #[.string ByteArray.empty, .int .i32 0, .int .u64 0, .int .u64 0, .bool false, .int .u64 0]) 6 56 Tryz.underlying51 HI.out.1 HI.out.2.1 HI.out.2.2.1 HI.out.2.2.2 rfl (by decide) (.slice none 0 0) 0 [] rfl (Row.nil _ _ _) ⟨g, 0, none⟩ i (i + 1) ((l.take i).flatMap entC) rfl HL1.out HN1.out (oneCell_ent _) b0 b1 ?_; intro v1 w1 hA1; have H1 : Hid (Row w1 55 6 v1 i ((l.take i).flatMap entC) ∧ Kept (fun _ => False) w w1 ∧ (∀ x, v1.ownBlock = some x → w.heap.size ≤ x)) := ⟨by have := hA1.row; rw [Nat.zero_add, List.nil_append] at this; exact this, hA1.kept.mono (fun k hk => by simp [Value.ownBlock] at hk), fun x hx => hA1.own.elim (fun e => by rw [e] at hx; simp [Value.ownBlock] at hx) (fun e => e x hx)⟩; clear hA1)
      | (at_builtin; refine wpList_append_mine _ rfl (.tmp 11) (.tmp 15) 51 rfl 55 i0 (.agg #[.string ByteArray.empty, .int .i32 0, .int .u64 0, .int .u64 0, .bool false, .int .u64 0]) 6 56 Tryz.underlying51 HI.out.1 HI.out.2.1 HI.out.2.2.1 HI.out.2.2.2 rfl (by decide) _ i ((l.take i).flatMap entC) rfl H1.out.1 ⟨g, 0, none⟩ 0 0 ((l.drop (i + 1)).flatMap entC) rfl HL3.out (HN2.out w1 H1.out.2.1) (oneCell_ent _) b4 b5 ?_; intro v2 w2 hA2; have H2 : Hid (WithoutPost w (i + 1) (l.eraseIdx i) (.returned v2) w2) := without_done hl hi (by omega) H1.out hA2; clear hA2))
    go_ret
    exact H2.out
  · have HN2 : Hid (∀ w1, Kept (fun _ => False) w w1 → ∀ j u, ((l.drop (i + 1)).flatMap entC)[j]? = some u → w1.cell? ((⟨g, (i + 1) * 6, none⟩ : Addr).add j) = some u) := by
      intro w1 hk j u hj
      have e : (⟨g, (i + 1) * 6, none⟩ : Addr).add j = ⟨g, (i + 1) * 6 + j, none⟩ := by cases j <;> simp [Addr.add]
      rw [e]
      refine (HR.out.kept hk (fun _ _ => id)).cell rfl ((i + 1) * 6 + j) u ?_
      have hlen : ((l.take (i + 1)).flatMap entC).length = (i + 1) * 6 := by rw [flat_length entC 6 (fun _ => rfl), List.length_take]; congr 1; omega
      rw [← List.take_append_drop (i + 1) l, List.flatMap_append, List.getElem?_append_right (by omega), hlen, Nat.add_sub_cancel_left]; exact hj
    go_enter Tryz.func95, Tryz.ntmps95
    go_wp2_with (first
      | (at_builtin; refine wpList_append_mine _ rfl (.tmp 6) (.tmp 9) 51 rfl 55 i0 (.agg #[.string ByteArray.empty, .int .i32 0, .int .u64 0, .int .u64 0, .bool false, .int .u64 0]) 6 56 Tryz.underlying51 HI.out.1 HI.out.2.1 HI.out.2.2.1 HI.out.2.2.2 rfl (by decide) (.slice none 0 0) 0 [] rfl (Row.nil _ _ _) ⟨g, 0, none⟩ i cap ((l.take i).flatMap entC) rfl HL1.out HN1.out (oneCell_ent _) b0 b1 ?_; intro v1 w1 hA1; have H1 : Hid (Row w1 55 6 v1 i ((l.take i).flatMap entC) ∧ Kept (fun _ => False) w w1 ∧ (∀ x, v1.ownBlock = some x → w.heap.size ≤ x)) := ⟨by have := hA1.row; rw [Nat.zero_add, List.nil_append] at this; exact this, hA1.kept.mono (fun k hk => by simp [Value.ownBlock] at hk), fun x hx => hA1.own.elim (fun e => by rw [e] at hx; simp [Value.ownBlock] at hx) (fun e => e x hx)⟩; clear hA1)
      | (at_builtin; refine wpList_append_mine _ rfl (.tmp 11) (.tmp 15) 51 rfl 55 i0 (.agg #[.string ByteArray.empty, .int .i32 0, .int .u64 0, .int .u64 0, .bool false, .int .u64 0]) 6 56 Tryz.underlying51 HI.out.1 HI.out.2.1 HI.out.2.2.1 HI.out.2.2.2 rfl (by decide) _ i ((l.take i).flatMap entC) rfl H1.out.1 ⟨g, (i + 1) * 6, none⟩ (n - (i + 1)) (cap - (i + 1)) ((l.drop (i + 1)).flatMap entC) rfl HL2.out (HN2.out w1 H1.out.2.1) (oneCell_ent _) b2 b3 ?_; intro v2 w2 hA2; have H2 : Hid (WithoutPost w n (l.eraseIdx i) (.returned v2) w2) := without_done hl hi rfl H1.out hA2; clear hA2))
    go_ret
    exact H2.out

end Go.Proofs.YtkednbbjofeecaaGreat
