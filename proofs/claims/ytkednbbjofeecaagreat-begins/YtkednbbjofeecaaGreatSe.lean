/- A world of the program's beside one of the document's: each call at both. -/
import Derived.Test.YtkednbbjofeecaaGreatSm
namespace Go.Proofs.YtkednbbjofeecaaGreat
open Go.RowKit

theorem fp_of_map {R R' : RefS} (h : R'.rows.map RowD.v = R.rows.map RowD.v) {b k : Nat} (hk : R'.fp b k) : R.fp b k := by
  rcases hk with hk | ⟨r, hr, hk⟩
  · exact .inl hk
  · have : r.v ∈ R.rows.map RowD.v := by rw [← h]; exact List.mem_map_of_mem hr
    obtain ⟨r', hr', e⟩ := List.mem_map.mp this
    exact .inr ⟨r', hr', by rw [e]; exact hk⟩

def pfp (xb cb : Nat) (D : DevS) (R : RefS) (k : Nat) : Prop := D.fp xb k ∨ R.fp cb k

structure Pair (w : World) (xb cb : Nat) (D : DevS) (R : RefS) : Prop where
  dev : Dev w xb D
  ref : Ref w cb R
  sim : Sim D R
  dfit : D.Fit
  rfit : R.Fit
  sep : ∀ k, D.fp xb k → ¬ R.fp cb k

theorem Pair.kept {w w' : World} {xb cb : Nat} {D : DevS} {R : RefS} {F : Nat → Prop} (h : Pair w xb cb D R) (k : Kept F w w') (hF : ∀ j, pfp xb cb D R j → ¬ F j) : Pair w' xb cb D R :=
  ⟨h.dev.kept k fun j hj => hF j (.inl hj), h.ref.kept k fun j hj => hF j (.inr hj), h.sim, h.dfit, h.rfit, h.sep⟩
theorem Pair.lt {w : World} {xb cb : Nat} {D : DevS} {R : RefS} (h : Pair w xb cb D R) : ∀ k, pfp xb cb D R k → k < w.heap.size := fun k hk => hk.elim (h.dev.lt k) (h.ref.lt k)

/-- what a call leaves of both. -/
def Turned (w w' : World) (xb cb : Nat) (D : DevS) (R : RefS) : Prop :=
  ∃ D' R', Pair w' xb cb D' R' ∧ Kept (pfp xb cb D R) w w' ∧ ∀ k, pfp xb cb D' R' k → pfp xb cb D R k ∨ w.heap.size ≤ k

theorem Turned.same {w w' : World} {xb cb : Nat} {D : DevS} {R : RefS} {F : Nat → Prop} (h : Pair w xb cb D R) (k : Kept F w w') (hF : ∀ j, j < w.heap.size → ¬ F j) : Turned w w' xb cb D R :=
  ⟨D, R, h.kept k (fun j hj => hF j (h.lt j hj)), ⟨k.os, k.tape, k.output, k.size, fun i hi _ => k.block i hi (hF i hi)⟩, fun _ hk => .inl hk⟩

/-- behind the program's call: nothing but its own has turned; the document's call, whatever is laid in between, gives the same. -/
def Then (f : FuncId) (args : Array Value) (w w1 : World) (xb cb : Nat) (D : DevS) (R : RefS) (v : Value) : Prop :=
  Kept (D.fp xb) w w1 ∧ ∀ w2, Kept (fun _ => False) w1 w2 → Calls Tryz.prog f args w2 fun e w3 => e = .returned v ∧ Turned w w3 xb cb D R ∧ Kept (R.fp cb) w2 w3

/-- both have turned. -/
theorem Pair.turned {w w1 w2 w3 : World} {xb cb : Nat} {D D' : DevS} {R R' : RefS} (h : Pair w xb cb D R) (hd : Dev w1 xb D') (k1 : Kept (D.fp xb) w w1) (f1 : ∀ k, D'.fp xb k → D.fp xb k ∨ w.heap.size ≤ k)
    (k2 : Kept (fun _ => False) w1 w2) (hr : Ref w3 cb R') (k3 : Kept (R.fp cb) w2 w3) (f3 : ∀ k, R'.fp cb k → R.fp cb k ∨ w2.heap.size ≤ k) (hs : Sim D' R') (hdf : D'.Fit) (hrf : R'.Fit) : Turned w w3 xb cb D R := by
  have hd2 : Dev w2 xb D' := hd.kept k2 (fun _ _ => id)
  have far : ∀ k, D'.fp xb k → ¬ R.fp cb k := fun k hk hr => (f1 k hk).elim (fun x => h.sep k x hr) (fun x => by have := h.ref.lt k hr; omega)
  have k12 : Kept (D.fp xb) w w2 := k1.trans k2 (fun _ => id) (fun _ _ => False.elim)
  refine ⟨D', R', ⟨hd2.kept k3 far, hr, hs, hdf, hrf, fun k hk hr' => ?_⟩, k12.trans k3 (fun _ => .inl) (fun _ _ => .inr), fun k hk => ?_⟩
  · rcases f3 k hr' with x | x
    · exact far k hk x
    · have := hd2.lt k hk; omega
  · rcases hk with hk | hk
    · exact (f1 k hk).imp .inl id
    · exact (f3 k hk).imp .inr fun x => Nat.le_trans k12.size x

/-- neither has turned. -/
theorem Pair.stays {w w1 w2 w3 : World} {xb cb : Nat} {D : DevS} {R : RefS} (h : Pair w xb cb D R) (k1 : Kept (fun _ => False) w w1) (k2 : Kept (fun _ => False) w1 w2) (k3 : Kept (fun _ => False) w2 w3) : Turned w w3 xb cb D R :=
  Turned.same h ((k1.trans k2 (fun _ => id) (fun _ _ => id)).trans k3 (fun _ => id) (fun _ _ => id)) (fun _ _ => id)

theorem Pair.ref_after {w w1 w2 : World} {xb cb : Nat} {D : DevS} {R : RefS} (h : Pair w xb cb D R) (k1 : Kept (D.fp xb) w w1) (k2 : Kept (fun _ => False) w1 w2) : Ref w2 cb R :=
  (h.ref.kept k1 fun j hj hd => h.sep j hd hj).kept k2 (fun _ _ => id)

/-! ### Tick -/
theorem pair_tick {w : World} {xb cb : Nat} {D : DevS} {R : RefS} (h : Pair w xb cb D R) :
    ∃ r : Int, Calls Tryz.prog 31 #[.pointer (some ⟨xb, 0, none⟩)] w fun e w1 => e = .returned (.int .i64 r) ∧
      Then 32 #[.pointer (some ⟨cb, 0, none⟩)] w w1 xb cb D R (.int .i64 r) := by
  have hc := h.sim.clock
  by_cases hlt : D.clock < 100000
  · refine ⟨0, (dtick w xb D h.dev h.dfit).mono fun e w1 hp => ?_⟩
    rcases hp with ⟨a, _⟩ | ⟨_, e1, hd, k1⟩
    · omega
    · refine ⟨e1, k1, fun w2 k2 => (rtick w2 cb R (h.ref_after k1 k2) h.rfit).mono fun e w3 hq => ?_⟩
      rcases hq with ⟨a, _⟩ | ⟨_, e2, hr, k3⟩
      · omega
      · have c0 := h.dfit.clk0
        refine ⟨e2, h.turned hd k1 (fun k hk => .inl hk) k2 hr k3 (fun k hk => .inl (fp_of_map rfl hk)) ⟨h.sim.past, by show R.clock + 1 = D.clock + 1; rw [hc], h.sim.rdr, h.sim.puts, h.sim.calm⟩ ⟨h.dfit.pmax, by show 0 ≤ D.clock + 1; omega, by show D.clock + 1 ≤ 100000; omega, h.dfit.bmax, h.dfit.qmax⟩ ⟨h.rfit.pos, h.rfit.pmax, by show 0 ≤ R.clock + 1; omega, by show R.clock + 1 ≤ 100000; omega, h.rfit.rmax, h.rfit.npos, h.rfit.nmax, h.rfit.fmax⟩, k3⟩
  · refine ⟨6, (dtick w xb D h.dev h.dfit).mono fun e w1 hp => ?_⟩
    rcases hp with ⟨_, e1, rfl⟩ | ⟨a, _⟩
    · refine ⟨e1, Kept.refl _ _, fun w2 k2 => (rtick w2 cb R (h.ref_after (Kept.refl _ _) k2) h.rfit).mono fun e w3 hq => ?_⟩
      rcases hq with ⟨_, e2, rfl⟩ | ⟨a, _⟩
      · exact ⟨e2, h.stays (Kept.refl _ _) k2 (Kept.refl _ _), Kept.refl _ _⟩
      · omega
    · omega

/-! ### Begin -/
theorem pair_begin {w : World} {xb cb : Nat} {D : DevS} {R : RefS} (h : Pair w xb cb D R) (limit : Int) :
    ∃ x y : Int, Calls Tryz.prog 34 #[.pointer (some ⟨xb, 0, none⟩), .int .i64 limit] w fun e w1 => e = .returned (.tuple #[.int .i64 x, .int .i64 y]) ∧
      Then 35 #[.pointer (some ⟨cb, 0, none⟩), .int .i64 limit] w w1 xb cb D R (.tuple #[.int .i64 x, .int .i64 y]) := by
  have hc := h.sim.clock
  have hlen := h.sim.len
  by_cases hl : limit < 0 ∨ 100000 < limit
  · refine ⟨0, 10, (dbegin_bad w xb limit hl).mono fun e w1 hp => ?_⟩
    obtain ⟨e1, rfl⟩ := hp
    refine ⟨e1, Kept.refl _ _, fun w2 k2 => (rbegin_bad w2 cb limit hl).mono fun e w3 hq => ?_⟩
    obtain ⟨e2, rfl⟩ := hq
    exact ⟨e2, h.stays (Kept.refl _ _) k2 (Kept.refl _ _), Kept.refl _ _⟩
  · have hl0 : 0 ≤ limit := by omega
    have hl1 : limit ≤ 100000 := by omega
    have hcount := h.sim.rdr.count
    have hbeg := h.sim.rdr.begun
    by_cases hall : ∀ i, i < 6 → (D.seats i).reads = true
    · have h6 := seatN_all hall
      refine ⟨0, 7, (dbegin w xb D limit h.dev h.dfit hl0 hl1).mono fun e w1 hp => ?_⟩
      obtain ⟨lo, _, ⟨_, e1, k1⟩ | ⟨j, hj, hr, _⟩ | ⟨j, hj, hr, _⟩⟩ := hp
      · refine ⟨e1, k1.mono (fun _ => False.elim), fun w2 k2 => (rbegin w2 cb R limit (h.ref_after (k1.mono (fun _ => False.elim)) k2) h.rfit hl0 hl1).mono fun e w3 hq => ?_⟩
        rcases hq with ⟨_, e2, rfl⟩ | ⟨a, _⟩ | ⟨a, _⟩
        · exact ⟨e2, h.stays k1 k2 (Kept.refl _ _), Kept.refl _ _⟩
        · omega
        · omega
      · rw [hall j hj] at hr; cases hr
      · rw [hall j hj] at hr; cases hr
    · obtain ⟨j0, hj0, hr0⟩ : ∃ j, j < 6 ∧ (D.seats j).reads = false := by
        false_or_by_contra
        rename_i hn
        refine hall fun i hi => ?_
        cases hh : (D.seats i).reads with
        | true => rfl
        | false => exact absurd ⟨i, hi, hh⟩ hn
      have h6 := seatN_free hj0 hr0
      by_cases h200 : 200 ≤ D.begun
      · refine ⟨0, 6, (dbegin w xb D limit h.dev h.dfit hl0 hl1).mono fun e w1 hp => ?_⟩
        obtain ⟨lo, _, ⟨a, _⟩ | ⟨j, hj, hr, _, e1, k1⟩ | ⟨j, hj, hr, a, _⟩⟩ := hp
        · exact absurd a hall
        · refine ⟨e1, k1.mono (fun _ => False.elim), fun w2 k2 => (rbegin w2 cb R limit (h.ref_after (k1.mono (fun _ => False.elim)) k2) h.rfit hl0 hl1).mono fun e w3 hq => ?_⟩
          rcases hq with ⟨a, _⟩ | ⟨_, _, e2, rfl⟩ | ⟨_, a, _⟩
          · omega
          · exact ⟨e2, h.stays k1 k2 (Kept.refl _ _), Kept.refl _ _⟩
          · omega
        · omega
      · refine ⟨D.begun, 0, (dbegin w xb D limit h.dev h.dfit hl0 hl1).mono fun e w1 hp => ?_⟩
        obtain ⟨lo, hfirst, ⟨a, _⟩ | ⟨j, hj, hr, a, _⟩ | ⟨j, hj, hr, _, e1, hd, k1⟩⟩ := hp
        · exact absurd a hall
        · omega
        · refine ⟨e1, k1, fun w2 k2 => (rbegin w2 cb R limit (h.ref_after k1 k2) h.rfit hl0 hl1).mono fun e w3 hq => ?_⟩
          rcases hq with ⟨a, _⟩ | ⟨_, a, _⟩ | ⟨_, _, lo', v, hleast, e2, hr3, k3, f3⟩
          · omega
          · omega
          · have hle : lo = lo' := by
              have a := least_cons hfirst.1 hfirst.2.1 hfirst.2.2 zeroP
              rw [← h.sim.past, ← hc] at a
              exact a.unique hleast
            subst hle
            have htop : R.past.length - 1 = D.past.length := by omega
            refine ⟨by rw [e2, hbeg], h.turned hd k1 (fun k hk => .inl hk) k2 hr3 k3 f3 ⟨h.sim.past, hc, ?_, h.sim.puts, h.sim.calm⟩ ⟨h.dfit.pmax, h.dfit.clk0, h.dfit.clk1, by show D.begun + 1 ≤ 200; omega, h.dfit.qmax⟩ ⟨h.rfit.pos, h.rfit.pmax, h.rfit.clk0, h.rfit.clk1, by show (R.rdrs ++ [_]).length ≤ 200; rw [List.length_append, List.length_singleton]; omega, h.rfit.npos, h.rfit.nmax, h.rfit.fmax⟩, k3⟩
            show SimR (D.begun + 1) (putSeat D.seats j _) (R.rdrs ++ [⟨lo, R.past.length - 1, false⟩]) D.past.length
            rw [htop]
            exact h.sim.rdr.beginS hj hr lo hfirst.1

/-! ### End -/
theorem goneB_open {l : List RdrE} {j : Nat} {x : RdrE} (hx : l[j]? = some x) (he : x.ended = false) : goneB l j = false := by
  have hlt := (List.getElem?_eq_some_iff.mp hx).1
  have a : ¬ (j : Int) < 0 := by omega
  have c : ¬ (l.length : Int) ≤ (j : Int) := by omega
  simp only [goneB, a, c, decide_false, Bool.false_or, Int.toNat_natCast, hx]
  exact he
theorem pair_end {w : World} {xb cb : Nat} {D : DevS} {R : RefS} (h : Pair w xb cb D R) (m : Int) :
    ∃ x y z : Int, Calls Tryz.prog 36 #[.pointer (some ⟨xb, 0, none⟩), .int .i64 m] w fun e w1 => e = .returned (.tuple #[.agg #[.int .u64 x, .int .u64 y], .int .i64 z]) ∧
      Then 37 #[.pointer (some ⟨cb, 0, none⟩), .int .i64 m] w w1 xb cb D R (.tuple #[.agg #[.int .u64 x, .int .u64 y], .int .i64 z]) := by
  by_cases hall : ∀ i, i < 6 → (D.seats i).reads = true → (D.seats i).num ≠ m
  · refine ⟨0, 0, 8, (dend w xb D m h.dev).mono fun e w1 hp => ?_⟩
    rcases hp with ⟨_, e1, k1⟩ | ⟨j, hj, hr, hn, _⟩
    · refine ⟨e1, k1.mono (fun _ => False.elim), fun w2 k2 => (rend w2 cb R m (h.ref_after (k1.mono (fun _ => False.elim)) k2) h.rfit).mono fun e w3 hq => ?_⟩
      rcases hq with ⟨_, e2, b3⟩ | ⟨j, x, rfl, hx, he, _⟩
      · exact ⟨e2, h.stays k1 k2 (Kept.of_below b3 _), Kept.of_below b3 _⟩
      · obtain ⟨i, hi, hr, hn⟩ := h.sim.rdr.back j x hx he
        exact absurd hn (hall i hi hr)
    · exact absurd hn (hall j hj hr)
  · obtain ⟨j0, hj0, hr0, hn0⟩ : ∃ j, j < 6 ∧ (D.seats j).reads = true ∧ (D.seats j).num = m := by
      false_or_by_contra
      rename_i hn
      exact hall fun i hi hr e => hn ⟨i, hi, hr, e⟩
    refine ⟨(D.seats j0).lo, (D.seats j0).hi, 0, (dend w xb D m h.dev).mono fun e w1 hp => ?_⟩
    rcases hp with ⟨a, _⟩ | ⟨j, hj, hr, hn, e1, hd, k1⟩
    · exact absurd a hall
    · have hjj : j = j0 := h.sim.rdr.one j j0 hj hj0 hr hr0 (by rw [hn, hn0])
      subst hjj
      refine ⟨e1, k1, fun w2 k2 => (rend w2 cb R m (h.ref_after k1 k2) h.rfit).mono fun e w3 hq => ?_⟩
      obtain ⟨q, x, hq1, hx, he, hlo, hhi⟩ := h.sim.rdr.seat j hj hr
      have hmq : m = q := by rw [← hn, hq1]
      rcases hq with ⟨a, _⟩ | ⟨q', x', hm', hx', he', e2, hr3, k3⟩
      · rw [hmq, goneB_open hx he] at a; cases a
      · have hqq : q' = q := by omega
        subst hqq
        rw [hx] at hx'
        injection hx' with hx'
        subst hx'
        refine ⟨by rw [e2, hlo, hhi], h.turned hd k1 (fun k hk => .inl hk) k2 hr3 k3 (fun k hk => .inl (fp_of_map (R' := R.endR _ x) (R := R) rfl hk)) ⟨h.sim.past, h.sim.clock, ?_, h.sim.puts, h.sim.calm⟩ ⟨h.dfit.pmax, h.dfit.clk0, h.dfit.clk1, h.dfit.bmax, h.dfit.qmax⟩ ⟨h.rfit.pos, h.rfit.pmax, h.rfit.clk0, h.rfit.clk1, by show (R.rdrs.set _ _).length ≤ 200; rw [List.length_set]; exact h.rfit.rmax, h.rfit.npos, h.rfit.nmax, h.rfit.fmax⟩, k3⟩
        exact h.sim.rdr.endS hj hr hq1 hx he

/-! ### Commit -/
theorem Wr.kept' {w w' : World} {F : Nat → Prop} {ao : Option Addr} {n : Nat} {ws : List (Int × Int)} (h : Wr w ao n ws) (k : Kept F w w') (hF : 0 < n → ∀ a, ao = some a → ¬ F a.block) : Wr w' ao n ws := by
  by_cases hn : 0 < n
  · exact h.kept k (hF hn)
  · exact ⟨h.len, fun j hj => by have := h.len; omega⟩
theorem pair_commit {w : World} {xb cb : Nat} {D : DevS} {R : RefS} (h : Pair w xb cb D R) (ao ao' : Option Addr) (n cap cap' : Nat) (ws : List (Int × Int)) (hw : Wr w ao n ws) (hw' : Wr w ao' n ws) (hm : n ≤ maxLen) (hfar : 0 < n → ∀ a, ao' = some a → ¬ D.fp xb a.block) :
    ∃ x y : Int, Calls Tryz.prog 28 #[.pointer (some ⟨xb, 0, none⟩), .slice ao n cap] w fun e w1 => e = .returned (.tuple #[.int .u64 x, .int .i64 y]) ∧
      Then 29 #[.pointer (some ⟨cb, 0, none⟩), .slice ao' n cap'] w w1 xb cb D R (.tuple #[.int .u64 x, .int .i64 y]) := by
  have hlen := h.sim.len
  by_cases h8 : n ≤ 8
  · cases hk : ws.all keyOk with
    | false =>
      refine ⟨0, 5, (dcommit w xb D ao n cap ws h.dev h.dfit hw hm).mono fun e w1 hp => ?_⟩
      rcases hp with ⟨a, _⟩ | ⟨_, ⟨_, e1, k1⟩ | ⟨a, _⟩ | ⟨a, _⟩⟩
      · omega
      · refine ⟨e1, k1.mono (fun _ => False.elim), fun w2 k2 => (rcommit_key w2 cb ao' n cap' ws ((hw'.kept k1 fun _ _ => id).kept k2 fun _ _ => id) h8 hk).mono fun e w3 hq => ?_⟩
        obtain ⟨e2, rfl⟩ := hq
        exact ⟨e2, h.stays k1 k2 (Kept.refl _ _), Kept.refl _ _⟩
      · rw [hk] at a; cases a
      · rw [hk] at a; cases a
    | true =>
      by_cases h7 : 700 ≤ D.past.length
      · refine ⟨0, 6, (dcommit w xb D ao n cap ws h.dev h.dfit hw hm).mono fun e w1 hp => ?_⟩
        have hpm := h.dfit.pmax
        rcases hp with ⟨a, _⟩ | ⟨_, ⟨a, _⟩ | ⟨_, _, e1, k1⟩ | ⟨_, a, _⟩⟩
        · omega
        · rw [hk] at a; cases a
        · refine ⟨e1, k1.mono (fun _ => False.elim), fun w2 k2 => (rcommit_full w2 cb R ao' n cap' ws (h.ref_after (k1.mono (fun _ => False.elim)) k2) h.rfit ((hw'.kept k1 fun _ _ => id).kept k2 fun _ _ => id) h8 hk (by omega)).mono fun e w3 hq => ?_⟩
          obtain ⟨e2, rfl⟩ := hq
          exact ⟨e2, h.stays k1 k2 (Kept.refl _ _), Kept.refl _ _⟩
        · omega
      · refine ⟨((D.past.length + 1 : Nat) : Int), 0, (dcommit w xb D ao n cap ws h.dev h.dfit hw hm).mono fun e w1 hp => ?_⟩
        rcases hp with ⟨a, _⟩ | ⟨_, ⟨a, _⟩ | ⟨_, a, _⟩ | ⟨_, _, e1, v, hd, k1, f1⟩⟩
        · omega
        · rw [hk] at a; cases a
        · omega
        · refine ⟨e1, k1, fun w2 k2 => (rcommit_good w2 cb R ao' n cap' ws (h.ref_after k1 k2) h.rfit ((hw'.kept' k1 hfar).kept k2 fun _ _ => id) h8 hk (by omega)).mono fun e w3 hq => ?_⟩
          obtain ⟨e2, p, v', l, hp, hr3, ht, hfit, k3, f3⟩ := hq
          refine ⟨by rw [e2, hlen], h.turned hd k1 f1 k2 hr3 k3 f3 (h.sim.commit hp ht) ⟨by show (D.past ++ [_]).length ≤ 700; rw [List.length_append, List.length_singleton]; omega, h.dfit.clk0, h.dfit.clk1, h.dfit.bmax, h.dfit.qmax⟩ hfit, k3⟩
  · refine ⟨0, 3, (dcommit w xb D ao n cap ws h.dev h.dfit hw hm).mono fun e w1 hp => ?_⟩
    rcases hp with ⟨_, e1, rfl⟩ | ⟨a, _⟩
    · refine ⟨e1, Kept.refl _ _, fun w2 k2 => (rcommit_long w2 cb ao' n cap' (by omega) hm).mono fun e w3 hq => ?_⟩
      obtain ⟨e2, rfl⟩ := hq
      exact ⟨e2, h.stays (Kept.refl _ _) k2 (Kept.refl _ _), Kept.refl _ _⟩
    · omega

end Go.Proofs.YtkednbbjofeecaaGreat
