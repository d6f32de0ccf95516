/- The program's store (package store): Since and written, walked. -/
import Derived.Test.YtkednbbjofeecaaGreatDb
import Derived.Test.YtkednbbjofeecaaGreatGw
namespace Go.Proofs.YtkednbbjofeecaaGreat
open Go.RowKit

/-- what Since tells: the first commit at the tick or later, or how many there are. -/
def First (l : List PastE) (tick : Int) (j : Nat) : Prop := j ≤ l.length ∧ (∀ i (h : i < l.length), i < j → l[i].tick < tick) ∧ ∀ (h : j < l.length), tick ≤ l[j].tick
def SincePost (w : World) (D : DevS) (tick : Int) (e : Ending) (w' : World) : Prop := ∃ j, First D.past tick j ∧ e = .returned (.int .u64 (j : Int)) ∧ Kept (fun _ => False) w w'

theorem Kept.keep {F : Nat → Prop} {w w' : World} (h : Kept F w w') {a : Addr} {v : Value} (hb : ¬ F a.block) (hc : w.cell? a = some v) : w'.cell? a = some v :=
  (World.cell?_of_block (h.block a.block (World.block_lt_of_cell? w _ hc) hb)).trans hc

theorem Kept.setNew {w wr : World} (h : Kept (fun _ => False) w wr) (b o : Nat) (v : Value) (hb : w.heap.size ≤ b) : Kept (fun _ => False) w (wr.setCell ⟨b, o, none⟩ v) :=
  h.trans (Kept.setCell wr ⟨b, o, none⟩ v) (fun _ => id) (fun i hi he => by simp at he; omega)
theorem Kept.allocNew {F : Nat → Prop} {w wr : World} (h : Kept F w wr) (o : Obj) : Kept F w (wr.alloc o) :=
  h.trans (Kept.alloc wr o (fun _ => False)) (fun _ => id) (fun _ _ => False.elim)

set_option maxRecDepth 100000 in
set_option maxHeartbeats 1000000 in
theorem dsince (w : World) (b : Nat) (D : DevS) (tick : Int) (h : Dev w b D) (hf : D.Fit) :
    Calls Tryz.prog 79 #[.pointer (some ⟨b, 0, none⟩), .int .i64 tick] w fun e w' => SincePost w D tick e w' := by
  have hm := hf.pmax
  obtain ⟨ao, cap, hv, hno⟩ := h.past.form
  have c1 := h.c1
  rw [hv] at c1
  have HC : Hid (w.cell? ⟨b, 1, none⟩ = some (.slice ao D.past.length cap)) := c1
  have HCELL : Hid (∀ k (hk : k < D.past.length), ∃ g, ao = some ⟨g, 0, none⟩ ∧ ∀ f, f < 10 → w.cell? ⟨g, k * 10 + f, none⟩ = (pastC D.past[k])[f]?) := by
    intro k hk
    obtain ⟨g, cap', hv', ho, _⟩ := h.past.block (by omega)
    rw [hv] at hv'
    injection hv' with e1 _ _
    refine ⟨g, e1, fun f hf => ?_⟩
    have e := past_at D.past k hk f hf
    obtain ⟨u, hu⟩ : ∃ u, (pastC D.past[k])[f]? = some u := ⟨(pastC D.past[k])[f]'(by simpa [pastC] using hf), List.getElem?_eq_getElem _⟩
    rw [hu]
    exact h.past.cell ho _ u (e.trans hu)
  clear h hf hv hno
  go_enter Tryz.func79, Tryz.ntmps79
  go_wp2
  go_loopw [12] (fun i wr => ∃ k : Nat, k ≤ D.past.length ∧ i = .int .i64 k ∧ Hid (∀ i (h : i < D.past.length), i < k → D.past[i].tick < tick) ∧ Hid (Kept (fun _ => False) w wr)) (fun i _ => D.past.length - (intOf i).toNat)
  case atStart => exact ⟨0, Nat.zero_le _, rfl, fun i _ hi => absurd hi (Nat.not_lt_zero _), Kept.refl _ _⟩
  case round =>
    obtain ⟨k, hk, rfl, HB, HK⟩ := hrel
    by_cases hlt : k < D.past.length
    · obtain ⟨g, hg, hcell⟩ := HCELL.out k hlt
      obtain ⟨p, hp⟩ : ∃ p, p = D.past[k] := ⟨_, rfl⟩
      rw [← hp] at hcell
      have s0 : wr.cell? ⟨g, k * 10, none⟩ = some (.int .i32 (p.st 0)) := HK.out.keep id (hcell 0 (by omega))
      have s1 : wr.cell? ⟨g, k * 10 + 1, none⟩ = some (.int .i32 (p.st 1)) := HK.out.keep id (hcell 1 (by omega))
      have s2 : wr.cell? ⟨g, k * 10 + 2, none⟩ = some (.int .i32 (p.st 2)) := HK.out.keep id (hcell 2 (by omega))
      have s3 : wr.cell? ⟨g, k * 10 + 3, none⟩ = some (.int .i32 (p.st 3)) := HK.out.keep id (hcell 3 (by omega))
      have s4 : wr.cell? ⟨g, k * 10 + 4, none⟩ = some (.int .i32 (p.st 4)) := HK.out.keep id (hcell 4 (by omega))
      have s5 : wr.cell? ⟨g, k * 10 + 5, none⟩ = some (.int .i32 (p.st 5)) := HK.out.keep id (hcell 5 (by omega))
      have s6 : wr.cell? ⟨g, k * 10 + 6, none⟩ = some (.int .i32 (p.st 6)) := HK.out.keep id (hcell 6 (by omega))
      have s7 : wr.cell? ⟨g, k * 10 + 7, none⟩ = some (.int .i32 (p.st 7)) := HK.out.keep id (hcell 7 (by omega))
      have s8 : wr.cell? ⟨g, k * 10 + 8, none⟩ = some (.int .u8 p.keys) := HK.out.keep id (hcell 8 (by omega))
      have s9 : wr.cell? ⟨g, k * 10 + 9, none⟩ = some (.int .i64 p.tick) := HK.out.keep id (hcell 9 (by omega))
      have HP : Hid (p = D.past[k]) := hp
      clear hcell hp c1
      subst hg
      by_cases ht : tick ≤ p.tick
      · go_wp2
        go_ret
        refine ⟨k, ⟨hk, HB.out, fun _ => by rw [← HP.out]; exact ht⟩, rt_int (by omega), ?_⟩
        exact HK.out.trans (Kept.alloc _ _ (fun _ => False)) (fun _ => id) (fun _ _ => id)
      · go_wp2
        go_roundw
        case rel =>
          refine ⟨k + 1, by omega, by go_num, fun i hi hik => ?_, HK.out.trans (Kept.alloc _ _ (fun _ => False)) (fun _ => id) (fun _ _ => id)⟩
          by_cases e : i = k
          · subst e; rw [← HP.out]; omega
          · exact HB.out i hi (by omega)
        case measure => simp [intOf]; omega
    · have hk' : k = D.past.length := by omega
      subst hk'
      have HC2 : Hid (wr.cell? ⟨b, 1, none⟩ = some (.slice ao D.past.length cap)) := HK.out.keep id HC.out
      go_wp2_with (go_at_call 77; refine (dnewest_c _ b _ _ _ HC2.out hm).mono ?_; rintro e w' ⟨rfl, rfl⟩)
      go_ret
      exact ⟨D.past.length, ⟨Nat.le_refl _, HB.out, fun h => absurd h (Nat.lt_irrefl _)⟩, rfl, HK.out⟩

end Go.Proofs.YtkednbbjofeecaaGreat
