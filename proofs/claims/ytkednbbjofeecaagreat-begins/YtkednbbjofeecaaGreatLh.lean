/- The law's commit (package almanaclaw), walked. -/
import Derived.Test.YtkednbbjofeecaaGreatLg
import Derived.Test.YtkednbbjofeecaaGreatLb
namespace Go.Proofs.YtkednbbjofeecaaGreat
open Go.RowKit

theorem roomy_use {w1 : World} {g cap n : Nat} {ws : List (Int × Int)} (hl : ws.length = n) (h : Row w1 141 2 (.slice (some ⟨g, 0, none⟩) (n + 2) cap) (n + 2) ((ws ++ [farW, farW]).flatMap wrC)) :
    Wr w1 (some ⟨g, 0, none⟩) n ws ∧ Left w1 w1 g 0 (ws ++ [farW, farW]) ∧ cap ≤ maxLen := by
  have hcell : ∀ j (hj : j < (ws ++ [farW, farW]).length), w1.cell? ⟨g, j * 2, none⟩ = some (.int .i64 (ws ++ [farW, farW])[j].1) ∧ w1.cell? ⟨g, j * 2 + 1, none⟩ = some (.int .i32 (ws ++ [farW, farW])[j].2) := by
    intro j hj
    refine ⟨h.cell rfl (j * 2) _ ?_, h.cell rfl (j * 2 + 1) _ ?_⟩
    · have := flat_at wrC 2 (fun _ => rfl) (ws ++ [farW, farW]) j hj 0 (by omega)
      rw [Nat.add_zero] at this
      rw [this]; rfl
    · rw [flat_at wrC 2 (fun _ => rfl) (ws ++ [farW, farW]) j hj 1 (by omega)]; rfl
  have hblk : ∃ cur, Blk w1 g 141 cur ∧ cap ≤ maxLen := by
    rcases h.shape with ⟨e, _⟩ | ⟨g', cap', cur, e, hb, _, hm, _⟩
    · cases e
    · injection e with e1 _ e2
      injection e1 with e1
      injection e1 with e1 _ _
      subst e1 e2
      exact ⟨cur, hb, hm⟩
  obtain ⟨cur, hb, hm⟩ := hblk
  refine ⟨⟨hl, fun j hj => ⟨g, 0, rfl, ?_⟩⟩, ⟨Kept.refl _ _, fun j hj _ => hcell j hj, fun o => hb.free o, hb.lt⟩, hm⟩
  have hj' : j < (ws ++ [farW, farW]).length := by simp; omega
  have e : (ws ++ [farW, farW])[j] = ws[j] := List.getElem_append_left hj
  have := hcell j hj'
  rw [e] at this
  simpa using this

theorem Left.kept' {w1 w3 : World} {g : Nat} {xs : List (Int × Int)} {F : Nat → Prop} (h : Left w1 w1 g 0 xs) (k : Kept F w1 w3) (hF : ¬ F g) : Left w3 w3 g 0 xs := by
  have hb := k.block g h.lt hF
  refine ⟨Kept.refl _ _, fun j hj _ => ?_, fun o => ?_, Nat.lt_of_lt_of_le h.lt k.size⟩
  · obtain ⟨c0, c1⟩ := h.cell j hj (Nat.zero_le _)
    exact ⟨(World.cell?_of_block (a := ⟨g, j * 2, none⟩) hb).trans c0, (World.cell?_of_block (a := ⟨g, j * 2 + 1, none⟩) hb).trans c1⟩
  · exact (World.frozen?_of_block (a := ⟨g, o, none⟩) hb).trans (h.free o)

theorem roomy_any (w : World) (ao : Option Addr) (n cap : Nat) (ws : List (Int × Int)) (hw : Wr w ao n ws) (hreach : n * 16 ≤ 140737488351232) (hno : ao = none → n = 0 ∧ cap = 0) :
    Calls Tryz.prog 27 #[.slice ao n cap] w fun e w' => RoomyPost w n ws e w' := by
  cases ao with
  | some a => exact roomy_some w a n cap ws hw hreach
  | none =>
    obtain ⟨rfl, rfl⟩ := hno rfl
    have : ws = [] := List.eq_nil_of_length_eq_zero hw.len
    subst this
    exact roomy_none w

/-- the play's own block. -/
def playC (vps : Value) (a b c : Value) (commits most : Int) : Array Value := #[vps, a, b, c, .int .i64 commits, .int .i64 most]

/-- what a commit of the law leaves. -/
def LCommitPost (w : World) (pb xb cb : Nat) (D : DevS) (R : RefS) (vps b0 b1 b2 : Value) (commits most : Int) (e : Ending) (w' : World) : Prop :=
  e = .returned (.bool true) ∧ Blk w' pb 34 (playC vps b0 b1 b2 (commits + 1) most) ∧
    ∃ D' R', Pair w' xb cb D' R' ∧ Kept (fun k => k = pb ∨ pfp xb cb D R k) w w' ∧ ∀ k, pfp xb cb D' R' k → pfp xb cb D R k ∨ w.heap.size ≤ k

/-- the play's block has turned, then both worlds. -/
theorem LCommitPost.mk' {w wc w' : World} {pb xb cb : Nat} {D : DevS} {R : RefS} {vps b0 b1 b2 : Value} {commits most : Int} (hpb : ¬ pfp xb cb D R pb)
    (k0 : Kept (fun k => k = pb) w wc) (hb : Blk wc pb 34 (playC vps b0 b1 b2 (commits + 1) most)) (h : Turned wc w' xb cb D R) :
    LCommitPost w pb xb cb D R vps b0 b1 b2 commits most (.returned (.bool true)) w' := by
  obtain ⟨D', R', hp, hk, hf⟩ := h
  exact ⟨rfl, hb.kept hk hpb, D', R', hp, k0.trans hk (fun _ => .inl) (fun _ _ => .inr), fun k hk => (hf k hk).imp id fun x => Nat.le_trans k0.size x⟩

end Go.Proofs.YtkednbbjofeecaaGreat
