/- The document's Drop (package almanacref), walked. -/
import Derived.Test.YtkednbbjofeecaaGreatHc
namespace Go.Proofs.YtkednbbjofeecaaGreat
open Go.RowKit

theorem Ref.c5 {w : World} {b : Nat} {R : RefS} (h : Ref w b R) : w.cell? ⟨b, 5, none⟩ = some R.vu := h.blk.cell 5

/-- the puts, others in their place. -/
def RefS.setPuts (R : RefS) (l : List EntE) (v : Value) : RefS := { R with puts := l, vu := v }
theorem Ref.setPuts {w w' : World} {b : Nat} {R : RefS} (h : Ref w b R) (l : List EntE) (v : Value) (k : Kept (fun _ => False) w w') (hr : Row w' 55 6 v l.length (l.flatMap entC)) (hown : ∀ x, v.ownBlock = some x → w.heap.size ≤ x) :
    Ref (w'.setCell ⟨b, 5, none⟩ v) b (R.setPuts l v) ∧ Kept (R.fp b) w (w'.setCell ⟨b, 5, none⟩ v) ∧ (∀ x, (R.setPuts l v).fp b x → R.fp b x ∨ w.heap.size ≤ x) :=
  h.put 3 5 ⟨55, 6, R.vu, R.puts.length, R.puts.flatMap entC⟩ ⟨55, 6, v, l.length, l.flatMap entC⟩ rfl (k.mono fun _ => False.elim) hr (fun x hx => .inr (hown x hx)) rfl (by dsimp only; decide) rfl

def DropPost (w : World) (b : Nat) (R : RefS) (i : Int) (e : Ending) (w' : World) : Prop :=
  ((i < 0 ∨ (R.puts.length : Int) ≤ i) ∧ e = .returned (.int .i64 10) ∧ w = w') ∨
  (0 ≤ i ∧ i < (R.puts.length : Int) ∧ e = .returned (.int .i64 0) ∧ ∃ v, Ref w' b (R.setPuts (R.puts.eraseIdx i.toNat) v) ∧ Kept (R.fp b) w w' ∧ (∀ x, (R.setPuts (R.puts.eraseIdx i.toNat) v).fp b x → R.fp b x ∨ w.heap.size ≤ x))

set_option maxRecDepth 100000 in
set_option maxHeartbeats 1000000 in
theorem rdrop (w : World) (b : Nat) (R : RefS) (i : Int) (h : Ref w b R) (hp : R.puts.length ≤ 10) :
    Calls Tryz.prog 44 #[.pointer (some ⟨b, 0, none⟩), .int .i64 i] w fun e w' => DropPost w b R i e w' := by
  obtain ⟨ao, cap, hv, _⟩ := h.puts.form
  have c5 := h.c5
  rw [hv] at c5
  by_cases h0 : i < 0
  · have hd : decide (i < 0) = true := by simpa using h0
    clear h hv
    go_enter Tryz.func44, Tryz.ntmps44
    go_wp2
    go_ret
    exact .inl ⟨.inl h0, rfl, rfl⟩
  · have hd : decide (i < 0) = false := by simpa using h0
    by_cases h1 : (R.puts.length : Int) ≤ i
    · have hd1 : decide ((R.puts.length : Int) ≤ i) = true := by simpa using h1
      clear h hv
      go_enter Tryz.func44, Tryz.ntmps44
      go_wp2
      go_ret
      exact .inl ⟨.inr h1, rfl, rfl⟩
    · have hd1 : decide ((R.puts.length : Int) ≤ i) = false := by simpa using h1
      obtain ⟨j, rfl⟩ : ∃ j : Nat, i = j := ⟨i.toNat, by omega⟩
      have hjl : j < R.puts.length := by omega
      rcases h.puts.shape with ⟨_, hn, _⟩ | ⟨g, cp, cur, hv', hb, hcp, hcm, _⟩
      · omega
      rw [hv] at hv'
      injection hv' with e1 _ e2
      subst e1
      subst e2
      have hrow := h.puts
      rw [hv] at hrow
      have HWO : Hid (Calls Tryz.prog 95 #[.slice (some ⟨g, 0, none⟩) R.puts.length cap, .int .i64 j] w fun e w' => WithoutPost w R.puts.length (R.puts.eraseIdx j) e w') := rwithout w g R.puts.length cap j R.puts hrow rfl hjl (by omega) hcp hcm
      have HR : Hid (Ref w b R) := h
      have hz := h.blk.lt
      clear h hv hb hrow
      go_enter Tryz.func44, Tryz.ntmps44
      go_wp2_with (go_at_call 95; refine HWO.out.mono ?_; rintro e w1 ⟨v, rfl, hr1, hk1, ho1⟩; have hl1 : (R.puts.eraseIdx j).length = R.puts.length - 1 := List.length_eraseIdx_of_lt hjl; have HS := HR.out.setPuts (R.puts.eraseIdx j) v hk1 (by rw [hl1]; exact hr1) ho1; have HSH : Hid (Ref (w1.setCell ⟨b, 5, none⟩ v) b (R.setPuts (R.puts.eraseIdx j) v) ∧ Kept (R.fp b) w (w1.setCell ⟨b, 5, none⟩ v) ∧ (∀ x, (R.setPuts (R.puts.eraseIdx j) v).fp b x → R.fp b x ∨ w.heap.size ≤ x)) := HS; have bb := (HR.out.blk.kept hk1 id); have k5 : w1.cell? ⟨b, 5, none⟩ = some R.vu := bb.cell 5; have f5 := bb.free 5; obtain ⟨ao', cap', hv', _⟩ := hr1.form; clear bb hr1 hk1 ho1 HS hl1; subst hv')
      go_ret
      exact .inr ⟨by omega, by omega, rfl, _, HSH.out⟩

end Go.Proofs.YtkednbbjofeecaaGreat
