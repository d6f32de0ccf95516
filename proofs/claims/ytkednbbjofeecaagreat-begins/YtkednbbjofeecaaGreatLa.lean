/- The law's own roomy (package almanaclaw), walked. -/
import Derived.Test.YtkednbbjofeecaaGreatGj
import Derived.Laws.AppendOwnNone
namespace Go.Proofs.YtkednbbjofeecaaGreat
open Go.RowKit

def wrC (x : Int × Int) : List Value := [.int .i64 x.1, .int .i32 x.2]
def farW : Int × Int := (-77, 0)
theorem Tryz.infoWrite : (Tryz.prog.info? 141).map (fun i => (i.zero, i.size, i.bytes)) = some (some (.agg #[.int .i64 0, .int .i32 0]), 2, 16) := by kernel_rfl

theorem oneCell_wr (ws : List (Int × Int)) : ∀ u ∈ ws.flatMap wrC, u.oneCell' = true := by
  intro u hu
  simp [wrC] at hu
  obtain ⟨a, b, _, rfl | rfl⟩ := hu <;> rfl

/-- the cells of a list of writes, one behind the other. -/
theorem Wr.news {w : World} {a : Addr} {n : Nat} {ws : List (Int × Int)} (h : Wr w (some a) n ws) : ∀ j u, (ws.flatMap wrC)[j]? = some u → w.cell? (a.add j) = some u := by
  intro j u hj
  have hl : (ws.flatMap wrC).length = ws.length * 2 := flat_length wrC 2 (fun _ => rfl) ws
  have hlt : j < ws.length * 2 := by rw [← hl]; exact (List.getElem?_eq_some_iff.mp hj).1
  obtain ⟨q, f, rfl, hf⟩ : ∃ q f, j = q * 2 + f ∧ f < 2 := ⟨j / 2, j % 2, by omega, by omega⟩
  have hq : q < ws.length := by omega
  obtain ⟨bl, off, e, c0, c1⟩ := h.cell q hq
  injection e with e
  subst e
  rw [flat_at wrC 2 (fun _ => rfl) ws q hq f hf] at hj
  have ea : (⟨bl, off, none⟩ : Addr).add (q * 2 + f) = ⟨bl, off + (q * 2 + f), none⟩ := by
    cases hz : q * 2 + f <;> simp [Addr.add]
  rw [ea]
  have hc : f = 0 ∨ f = 1 := by omega
  rcases hc with rfl | rfl
  · simp [wrC] at hj; subst hj; simpa using c0
  · simp [wrC] at hj; subst hj
    have : off + (q * 2 + 1) = off + q * 2 + 1 := by omega
    rw [this]; exact c1

def RoomyPost (w : World) (n : Nat) (ws : List (Int × Int)) (e : Ending) (w' : World) : Prop :=
  ∃ g cap, e = .returned (.slice (some ⟨g, 0, none⟩) n cap) ∧ n + 2 ≤ cap ∧ w.heap.size ≤ g ∧ Row w' 141 2 (.slice (some ⟨g, 0, none⟩) (n + 2) cap) (n + 2) ((ws ++ [farW, farW]).flatMap wrC) ∧ Kept (fun _ => False) w w'

theorem cell_four_new (w : World) (a b c d : Value) (t : TypeId) : ∀ j u, [a, b, c, d][j]? = some u → (w.alloc (.cells #[a, b, c, d] t)).cell? ((⟨w.heap.size, 0, none⟩ : Addr).add j) = some u := by
  intro j u hj
  match j, hj with
  | 0, hj => simp at hj; subst hj; simp [Addr.add]
  | 1, hj => simp at hj; subst hj; simp [Addr.add]
  | 2, hj => simp at hj; subst hj; simp [Addr.add]
  | 3, hj => simp at hj; subst hj; simp [Addr.add]
  | j + 4, hj => simp at hj

/-- the end of roomy: two writes more. -/
theorem roomy_done {w w1 w2 : World} {n : Nat} {ws : List (Int × Int)} {v v2 : Value} {o : Obj} (hk : Kept (fun _ => False) w w1) (ho : ∀ x, v.ownBlock = some x → w.heap.size ≤ x)
    (hA : Appended (w1.alloc o) w2 141 2 v v2 n 2 (ws.flatMap wrC) [.int .i64 (-77), .int .i32 0, .int .i64 (-77), .int .i32 0]) :
    ∃ g cap, v2 = .slice (some ⟨g, 0, none⟩) (n + 2) cap ∧ n + 2 ≤ cap ∧ w.heap.size ≤ g ∧ Row w2 141 2 (.slice (some ⟨g, 0, none⟩) (n + 2) cap) (n + 2) ((ws ++ [farW, farW]).flatMap wrC) ∧ Kept (fun _ => False) w w2 := by
  have hA := hA.of_alloc
  have hrow := hA.row
  rcases hrow.shape with ⟨_, hn, _⟩ | ⟨g, cap, cur, hv, hb, hc, _⟩
  · omega
  · refine ⟨g, cap, hv, hc, ?_, ?_, hk.trans hA.kept (fun _ => id) (fun x hx he => ?_)⟩
    · have hg : v2.ownBlock = some g := by rw [hv]; rfl
      rcases hA.own with e | e
      · exact ho g (by rw [← e]; exact hg)
      · exact Nat.le_trans hk.size (e g hg)
    · rw [← hv]
      have e : (ws ++ [farW, farW]).flatMap wrC = ws.flatMap wrC ++ [.int .i64 (-77), .int .i32 0, .int .i64 (-77), .int .i32 0] := by simp [wrC, farW]
      rw [e]; exact hrow
    · have := ho x he; omega

set_option maxRecDepth 100000 in
set_option maxHeartbeats 1000000 in
theorem roomy_some (w : World) (a : Addr) (n cap : Nat) (ws : List (Int × Int)) (hw : Wr w (some a) n ws) (hreach : n * 16 ≤ 140737488351232) :
    Calls Tryz.prog 27 #[.slice (some a) n cap] w fun e w' => RoomyPost w n ws e w' := by
  have HW : Hid (Wr w (some a) n ws) := hw
  have hl := hw.len
  have hlc : (ws.flatMap wrC).length = n * 2 := by rw [flat_length wrC 2 (fun _ => rfl) ws, hl]
  obtain ⟨i0, hi, hz0, hz1, hz2⟩ := info_parts Tryz.infoWrite
  have HI : Hid (Tryz.prog.info? 141 = some i0 ∧ i0.zero = some (.agg #[.int .i64 0, .int .i32 0]) ∧ i0.size = 2 ∧ i0.bytes = 16) := ⟨hi, hz0, hz1, hz2⟩
  have HLC : Hid ((ws.flatMap wrC).length = n * 2) := hlc
  clear hi hz0 hz1 hz2 hw hlc
  have bm : n + 2 ≤ maxLen := by unfold maxLen; omega
  have bm0 : 0 + n ≤ maxLen := by unfold maxLen; omega
  have bb : (n + 2) * 16 ≤ 140737488355328 := by omega
  have bb0 : (0 + n) * 16 ≤ 140737488355328 := by omega
  go_enter Tryz.func27, Tryz.ntmps27
  go_wp2_with (first
    | (at_builtin; refine wpList_append_mine _ rfl (.tmp 4) (.tmp 5) 35 rfl 141 i0 (.agg #[.int .i64 0, .int .i32 0]) 2 16 Tryz.underlying35 HI.out.1 HI.out.2.1 HI.out.2.2.1 HI.out.2.2.2 rfl (by decide) (.slice none 0 0) 0 [] rfl (Row.nil _ _ _) a n cap (ws.flatMap wrC) rfl HLC.out HW.out.news (oneCell_wr ws) bm0 bb0 ?_; intro v1 w1 hA1; have H1 : Hid (Row w1 141 2 v1 n (ws.flatMap wrC) ∧ Kept (fun _ => False) w w1 ∧ (∀ x, v1.ownBlock = some x → w.heap.size ≤ x)) := ⟨by have := hA1.row; rw [Nat.zero_add, List.nil_append] at this; exact this, hA1.kept.mono (fun k hk => by simp [Value.ownBlock] at hk), fun x hx => hA1.own.elim (fun e => by rw [e] at hx; simp [Value.ownBlock] at hx) (fun e => e x hx)⟩; clear hA1)
    | (at_builtin; refine wpList_append_mine _ rfl (.tmp 7) (.tmp 10) 35 rfl 141 i0 (.agg #[.int .i64 0, .int .i32 0]) 2 16 Tryz.underlying35 HI.out.1 HI.out.2.1 HI.out.2.2.1 HI.out.2.2.2 rfl (by decide) _ n (ws.flatMap wrC) rfl (H1.out.1.kept (Kept.alloc _ _ (fun _ => False)) (fun _ _ => id)) ⟨w1.heap.size, 0, none⟩ 2 2 [.int .i64 (-77), .int .i32 0, .int .i64 (-77), .int .i32 0] rfl rfl (cell_four_new _ _ _ _ _ _) (oneCell_wr [farW, farW]) bm bb ?_; intro v2 w2 hA2; have H2 := roomy_done H1.out.2.1 H1.out.2.2 hA2; clear hA2; obtain ⟨g, cp, hv2, q1, q2, q3, q4⟩ := H2; have HQ : Hid (w.heap.size ≤ g ∧ Row w2 141 2 (.slice (some ⟨g, 0, none⟩) (n + 2) cp) (n + 2) ((ws ++ [farW, farW]).flatMap wrC) ∧ Kept (fun _ => False) w w2) := ⟨q2, q3, q4⟩; clear q2 q3 q4; subst hv2))
  go_ret
  exact ⟨g, cp, rfl, by omega, HQ.out.1, HQ.out.2.1, HQ.out.2.2⟩

set_option maxRecDepth 100000 in
set_option maxHeartbeats 1000000 in
theorem roomy_none (w : World) :
    Calls Tryz.prog 27 #[.slice none 0 0] w fun e w' => RoomyPost w 0 [] e w' := by
  obtain ⟨i0, hi, hz0, hz1, hz2⟩ := info_parts Tryz.infoWrite
  have HI : Hid (Tryz.prog.info? 141 = some i0 ∧ i0.zero = some (.agg #[.int .i64 0, .int .i32 0]) ∧ i0.size = 2 ∧ i0.bytes = 16) := ⟨hi, hz0, hz1, hz2⟩
  clear hi hz0 hz1 hz2
  go_enter Tryz.func27, Tryz.ntmps27
  go_wp2_with (first
    | (at_builtin; refine wpList_append_own_none rfl (.tmp 4) (.tmp 5) 35 rfl 0 141 i0 2 Tryz.underlying35 HI.out.1 (.slice none 0 0) 0 [] rfl (World.ownsRow_nil _ _ _ _) rfl ?_)
    | (at_builtin; refine wpList_append_mine _ rfl (.tmp 7) (.tmp 10) 35 rfl 141 i0 (.agg #[.int .i64 0, .int .i32 0]) 2 16 Tryz.underlying35 HI.out.1 HI.out.2.1 HI.out.2.2.1 HI.out.2.2.2 rfl (by decide) (.slice none 0 0) 0 [] rfl (Row.nil _ _ _) ⟨w.heap.size, 0, none⟩ 2 2 [.int .i64 (-77), .int .i32 0, .int .i64 (-77), .int .i32 0] rfl rfl (cell_four_new _ _ _ _ _ _) (oneCell_wr [farW, farW]) (by unfold maxLen; omega) (by omega) ?_; intro v2 w2 hA2; have H2 := roomy_done (w := w) (ws := []) (Kept.refl _ _) (fun x hx => by simp [Value.ownBlock] at hx) hA2; clear hA2; obtain ⟨g, cp, hv2, q1, q2, q3, q4⟩ := H2; have HQ : Hid (w.heap.size ≤ g ∧ Row w2 141 2 (.slice (some ⟨g, 0, none⟩) (0 + 2) cp) (0 + 2) (([] ++ [farW, farW]).flatMap wrC) ∧ Kept (fun _ => False) w w2) := ⟨q2, q3, q4⟩; clear q2 q3 q4; subst hv2))
  go_ret
  exact ⟨g, cp, rfl, by omega, HQ.out.1, HQ.out.2.1, HQ.out.2.2⟩

end Go.Proofs.YtkednbbjofeecaaGreat
