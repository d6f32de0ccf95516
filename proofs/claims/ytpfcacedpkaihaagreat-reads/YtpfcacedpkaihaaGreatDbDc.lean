import Derived.Test.YtpfcacedpkaihaaGreatDa
/- The program's store (package store): Newest, Clock, Tick, At, Since, walked. -/
namespace Go.Proofs.YtpfcacedpkaihaaGreat
open Go.RowKit

theorem Dev.c0 {w : World} {b : Nat} {D : DevS} (h : Dev w b D) : w.cell? ⟨b, 0, none⟩ = some (.int .i64 D.clock) := h.blk.cell 0
theorem Dev.c1 {w : World} {b : Nat} {D : DevS} (h : Dev w b D) : w.cell? ⟨b, 1, none⟩ = some D.vc := h.blk.cell 1
theorem Dev.c2 {w : World} {b : Nat} {D : DevS} (h : Dev w b D) : w.cell? ⟨b, 2, none⟩ = some (.int .i64 (D.begun : Int)) := h.blk.cell 2

set_option maxHeartbeats 400000 in
theorem dnewest_c (w : World) (b : Nat) (ao : Option Addr) (n cap : Nat) (c1 : w.cell? ⟨b, 1, none⟩ = some (.slice ao n cap)) (hm : n ≤ 700) :
    Calls Tryz.prog 80 #[.pointer (some ⟨b, 0, none⟩)] w fun e w' => e = .returned (.int .u64 (n : Int)) ∧ w = w' := by
  go_enter Tryz.func80, Tryz.ntmps80
  go_wp2
  go_ret
  exact ⟨rt_int (by omega), rfl⟩

theorem dnewest (w : World) (b : Nat) (D : DevS) (h : Dev w b D) (hf : D.Fit) :
    Calls Tryz.prog 80 #[.pointer (some ⟨b, 0, none⟩)] w fun e w' => e = .returned (.int .u64 (D.past.length : Int)) ∧ w = w' := by
  obtain ⟨ao, cap, hv, _⟩ := h.past.form
  exact dnewest_c w b ao _ cap (by rw [h.c1, hv]) hf.pmax

set_option maxHeartbeats 400000 in
theorem dclock_c (w : World) (b : Nat) (k : Int) (c0 : w.cell? ⟨b, 0, none⟩ = some (.int .i64 k)) :
    Calls Tryz.prog 81 #[.pointer (some ⟨b, 0, none⟩)] w fun e w' => e = .returned (.int .i64 k) ∧ w = w' := by
  go_enter Tryz.func81, Tryz.ntmps81
  go_wp2
  go_ret
  exact ⟨rfl, rfl⟩

def DTickPost (w : World) (b : Nat) (D : DevS) (e : Ending) (w' : World) : Prop :=
  (D.clock = 100000 ∧ e = .returned (.int .i64 6) ∧ w = w') ∨ (D.clock < 100000 ∧ e = .returned (.int .i64 0) ∧ Dev w' b { D with clock := D.clock + 1 } ∧ Kept (D.fp b) w w')

set_option maxHeartbeats 400000 in
theorem dtick0 (w : World) (b : Nat) (D : DevS) (h : Dev w b D) (hf : D.Fit) :
    Calls Tryz.prog 79 #[.pointer (some ⟨b, 0, none⟩)] w fun e w' => DTickPost w b D e w' := by
  have c0 := h.c0
  have f0 := h.blk.free 0
  have hm0 := hf.clk0
  have hm1 := hf.clk1
  by_cases hc : D.clock < 100000
  · have HR : Hid (Dev w b D) := h
    clear h hf
    go_enter Tryz.func79, Tryz.ntmps79
    go_wp2
    go_ret
    exact .inr ⟨hc, rfl, HR.out.setOwn 0 _ rfl (by simp [DevS.cells]), (Kept.setCell _ _ _).mono fun k hk => .inl hk⟩
  · clear h hf
    go_enter Tryz.func79, Tryz.ntmps79
    go_wp2
    go_ret
    exact .inl ⟨by omega, rfl, rfl⟩

/-- the state with a stamp. -/
def stAt (l : List PastE) (t : Nat) : Nat → Int := if t = 0 then fun _ => 0 else (l[t - 1]?.map PastE.st).getD fun _ => 0
def stC (s : Nat → Int) : Array Value := #[.int .i32 (s 0), .int .i32 (s 1), .int .i32 (s 2), .int .i32 (s 3), .int .i32 (s 4), .int .i32 (s 5), .int .i32 (s 6), .int .i32 (s 7)]

set_option maxHeartbeats 1000000 in
theorem dat (w : World) (b : Nat) (D : DevS) (t : Nat) (h : Dev w b D) (hf : D.Fit) (ht : t ≤ D.past.length) :
    Calls Tryz.prog 128 #[.pointer (some ⟨b, 0, none⟩), .int .u64 t] w fun e w' => e = .returned (.agg (stC (stAt D.past t))) ∧ Kept (fun _ => False) w w' := by
  have hm := hf.pmax
  by_cases h0 : t = 0
  · subst h0
    go_enter Tryz.func128, Tryz.ntmps128
    go_wp2
    refine bodyPost_ret (v := .agg (stC (stAt D.past 0))) (by simp [results, Tryz.results128, go_sem, stC, stAt]) rfl ⟨rfl, ?_⟩
    trace_state
    exact (Kept.alloc _ _ _).trans (Kept.refl _ _) (fun _ => id) (fun _ _ => id)
  · obtain ⟨j, rfl⟩ : ∃ j, t = j + 1 := ⟨t - 1, by omega⟩
    have hlt : j < D.past.length := by omega
    obtain ⟨g, cap, hv, ho, hgl⟩ := h.past.block (by omega)
    have c1 := h.c1
    rw [hv] at c1
    have hbl := h.blk.lt
    have hb : (((j + 1 : Nat) : Int) == 0) = false := beq_eq_false_iff_ne.mpr (by omega)
    obtain ⟨p, hp⟩ : ∃ p, p = D.past[j] := ⟨_, rfl⟩
    have HS : ∀ f (hf : f < 10), w.cell? ⟨g, j * 10 + f, none⟩ = (pastC p)[f]? := by
      intro f hf
      have e := past_at D.past j hlt f hf
      rw [← hp] at e
      obtain ⟨u, hu⟩ : ∃ u, (pastC p)[f]? = some u := ⟨(pastC p)[f]'(by simpa [pastC] using hf), List.getElem?_eq_getElem _⟩
      rw [hu]
      exact h.past.cell ho _ u (e.trans hu)
    have s0 : w.cell? ⟨g, j * 10, none⟩ = some (.int .i32 (p.st 0)) := HS 0 (by omega)
    have s1 : w.cell? ⟨g, j * 10 + 1, none⟩ = some (.int .i32 (p.st 1)) := HS 1 (by omega)
    have s2 : w.cell? ⟨g, j * 10 + 2, none⟩ = some (.int .i32 (p.st 2)) := HS 2 (by omega)
    have s3 : w.cell? ⟨g, j * 10 + 3, none⟩ = some (.int .i32 (p.st 3)) := HS 3 (by omega)
    have s4 : w.cell? ⟨g, j * 10 + 4, none⟩ = some (.int .i32 (p.st 4)) := HS 4 (by omega)
    have s5 : w.cell? ⟨g, j * 10 + 5, none⟩ = some (.int .i32 (p.st 5)) := HS 5 (by omega)
    have s6 : w.cell? ⟨g, j * 10 + 6, none⟩ = some (.int .i32 (p.st 6)) := HS 6 (by omega)
    have s7 : w.cell? ⟨g, j * 10 + 7, none⟩ = some (.int .i32 (p.st 7)) := HS 7 (by omega)
    have HST : Hid (stAt D.past (j + 1) = p.st) := by simp [Hid, stAt, List.getElem?_eq_getElem hlt, hp]
    have HN : Hid (∀ W : World, W.cell? ⟨b, 1, none⟩ = some (.slice (some ⟨g, 0, none⟩) D.past.length cap) → Calls Tryz.prog 80 #[.pointer (some ⟨b, 0, none⟩)] W fun e w' => e = .returned (.int .u64 (D.past.length : Int)) ∧ W = w') := fun W hW => dnewest_c W b _ _ _ hW hm
    have n1 : ∀ o, (w.alloc o).cell? ⟨b, 1, none⟩ = some (.slice (some ⟨g, 0, none⟩) D.past.length cap) := fun o => (World.cell?_alloc_past o b 1 hbl).trans c1
    clear HS h hf hv ho hp
    go_enter Tryz.func128, Tryz.ntmps128
    go_wp2_with (go_at_call 80; refine (HN.out _ (n1 _)).mono ?_; rintro e w' ⟨rfl, rfl⟩)
    refine bodyPost_ret (v := .agg (stC p.st)) (by simp [results, Tryz.results128, go_sem, stC]) rfl ⟨by rw [HST.out], ?_⟩
    trace_state
    exact (Kept.alloc _ _ _).trans (Kept.refl _ _) (fun _ => id) (fun _ _ => id)

end Go.Proofs.YtpfcacedpkaihaaGreat

/- The program's store (package store): Since and written, walked. -/
namespace Go.Proofs.YtpfcacedpkaihaaGreat
open Go.RowKit

/-- what Since tells: the first commit at the tick or later, or how many there are. -/
def First (l : List PastE) (tick : Int) (j : Nat) : Prop := j ≤ l.length ∧ (∀ i (h : i < l.length), i < j → l[i].tick < tick) ∧ ∀ (h : j < l.length), tick ≤ l[j].tick
def SincePost (w : World) (D : DevS) (tick : Int) (e : Ending) (w' : World) : Prop := ∃ j, First D.past tick j ∧ e = .returned (.int .u64 (j : Int)) ∧ Kept (fun _ => False) w w'

set_option maxRecDepth 100000 in
set_option maxHeartbeats 1000000 in
theorem dsince (w : World) (b : Nat) (D : DevS) (tick : Int) (h : Dev w b D) (hf : D.Fit) :
    Calls Tryz.prog 82 #[.pointer (some ⟨b, 0, none⟩), .int .i64 tick] w fun e w' => SincePost w D tick e w' := by
  have hm := hf.pmax
  obtain ⟨ao, cap, hv, hno⟩ := h.past.form
  have c1 := h.c1
  rw [hv] at c1
  have HC : Hid (w.cell? ⟨b, 1, none⟩ = some (.slice ao D.past.length cap)) := c1
  have HCELL : Hid (∀ k (hk : k < D.past.length), ∃ g, ao = some ⟨g, 0, none⟩ ∧ ∀ f, f < 10 → w.cell? ⟨g, k * 10 + f, none⟩ = (pastC D.past[k])[f]?) := by
    intro k hk
    obtain ⟨g, cap', hv', ho, _⟩ := h.past.block (by omega)
    rw [hv] at hv'
    injection hv' with e1 _ _
    refine ⟨g, e1, fun f hf => ?_⟩
    have e := past_at D.past k hk f hf
    obtain ⟨u, hu⟩ : ∃ u, (pastC D.past[k])[f]? = some u := ⟨(pastC D.past[k])[f]'(by simpa [pastC] using hf), List.getElem?_eq_getElem _⟩
    rw [hu]
    exact h.past.cell ho _ u (e.trans hu)
  clear h hf hv hno
  go_enter Tryz.func82, Tryz.ntmps82
  go_wp2
  go_loopw [12] (fun i wr => ∃ k : Nat, k ≤ D.past.length ∧ i = .int .i64 k ∧ Hid (∀ i (h : i < D.past.length), i < k → D.past[i].tick < tick) ∧ Hid (Kept (fun _ => False) w wr)) (fun i _ => D.past.length - (intOf i).toNat)
  case atStart => exact ⟨0, Nat.zero_le _, rfl, fun i _ hi => absurd hi (Nat.not_lt_zero _), Kept.refl _ _⟩
  case round =>
    obtain ⟨k, hk, rfl, HB, HK⟩ := hrel
    by_cases hlt : k < D.past.length
    · obtain ⟨g, hg, hcell⟩ := HCELL.out k hlt
      obtain ⟨p, hp⟩ : ∃ p, p = D.past[k] := ⟨_, rfl⟩
      rw [← hp] at hcell
      have s0 : wr.cell? ⟨g, k * 10, none⟩ = some (.int .i32 (p.st 0)) := HK.out.keep id (hcell 0 (by omega))
      have s1 : wr.cell? ⟨g, k * 10 + 1, none⟩ = some (.int .i32 (p.st 1)) := HK.out.keep id (hcell 1 (by omega))
      have s2 : wr.cell? ⟨g, k * 10 + 2, none⟩ = some (.int .i32 (p.st 2)) := HK.out.keep id (hcell 2 (by omega))
      have s3 : wr.cell? ⟨g, k * 10 + 3, none⟩ = some (.int .i32 (p.st 3)) := HK.out.keep id (hcell 3 (by omega))
      have s4 : wr.cell? ⟨g, k * 10 + 4, none⟩ = some (.int .i32 (p.st 4)) := HK.out.keep id (hcell 4 (by omega))
      have s5 : wr.cell? ⟨g, k * 10 + 5, none⟩ = some (.int .i32 (p.st 5)) := HK.out.keep id (hcell 5 (by omega))
      have s6 : wr.cell? ⟨g, k * 10 + 6, none⟩ = some (.int .i32 (p.st 6)) := HK.out.keep id (hcell 6 (by omega))
      have s7 : wr.cell? ⟨g, k * 10 + 7, none⟩ = some (.int .i32 (p.st 7)) := HK.out.keep id (hcell 7 (by omega))
      have s8 : wr.cell? ⟨g, k * 10 + 8, none⟩ = some (.int .u8 p.keys) := HK.out.keep id (hcell 8 (by omega))
      have s9 : wr.cell? ⟨g, k * 10 + 9, none⟩ = some (.int .i64 p.tick) := HK.out.keep id (hcell 9 (by omega))
      have HP : Hid (p = D.past[k]) := hp
      clear hcell hp c1
      subst hg
      by_cases ht : tick ≤ p.tick
      · go_wp2
        go_ret
        refine ⟨k, ⟨hk, HB.out, fun _ => by rw [← HP.out]; exact ht⟩, rt_int (by omega), ?_⟩
        exact HK.out.trans (Kept.alloc _ _ (fun _ => False)) (fun _ => id) (fun _ _ => id)
      · go_wp2
        go_roundw
        case rel =>
          refine ⟨k + 1, by omega, by go_num, fun i hi hik => ?_, HK.out.trans (Kept.alloc _ _ (fun _ => False)) (fun _ => id) (fun _ _ => id)⟩
          by_cases e : i = k
          · subst e; rw [← HP.out]; omega
          · exact HB.out i hi (by omega)
        case measure => simp [intOf]; omega
    · have hk' : k = D.past.length := by omega
      subst hk'
      have HC2 : Hid (wr.cell? ⟨b, 1, none⟩ = some (.slice ao D.past.length cap)) := HK.out.keep id HC.out
      go_wp2_with (go_at_call 80; refine (dnewest_c _ b _ _ _ HC2.out hm).mono ?_; rintro e w' ⟨rfl, rfl⟩)
      go_ret
      exact ⟨D.past.length, ⟨Nat.le_refl _, HB.out, fun h => absurd h (Nat.lt_irrefl _)⟩, rfl, HK.out⟩

end Go.Proofs.YtpfcacedpkaihaaGreat
