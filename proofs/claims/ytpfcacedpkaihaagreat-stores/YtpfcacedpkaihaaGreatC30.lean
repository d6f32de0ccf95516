import Derived.Test.YtpfcacedpkaihaaGreatC29
import Derived.Laws.AppendOwnNone
import Derived.Test.YtpfcacedpkaihaaGreatC24
namespace Go.Proofs.YtpfcacedpkaihaaGreat
open Go.RowKit
set_option maxRecDepth 100000
set_option maxHeartbeats 16000000
theorem fp_of_map {R R' : RefS} (h : R'.rows.map RowD.v = R.rows.map RowD.v) {b k : Nat} (hk : R'.fp b k) : R.fp b k := by
 rcases hk with hk | ⟨r, hr, hk⟩
 · exact .inl hk
 · have : r.v ∈ R.rows.map RowD.v := by rw [← h]; exact List.mem_map_of_mem hr
  obtain ⟨r', hr', e⟩ := List.mem_map.mp this
  exact .inr ⟨r', hr', by rw [e]; exact hk⟩
def pfp (xb cb : Nat) (D : DevS) (R : RefS) (k : Nat) : Prop := D.fp xb k ∨ R.fp cb k
structure Pair (w : World) (xb cb : Nat) (D : DevS) (R : RefS) : Prop where
 dev : Dev w xb D
 ref : Ref w cb R
 sim : Sim D.pu R
 good : D.pu.Good R.uses.length
 rfit : R.Fit
 nx0 : 0 ≤ R.next
 nx1 : R.next ≤ (R.uses.length : Int)
 sep : ∀ k, D.fp xb k → ¬ R.fp cb k
theorem Pair.kept {w w' : World} {xb cb : Nat} {D : DevS} {R : RefS} {F : Nat → Prop} (h : Pair w xb cb D R) (k : Kept F w w') (hF : ∀ j, pfp xb cb D R j → ¬ F j) : Pair w' xb cb D R :=
 ⟨h.dev.kept k fun j hj => hF j (.inl hj), h.ref.kept k fun j hj => hF j (.inr hj), h.sim, h.good, h.rfit, h.nx0, h.nx1, h.sep⟩
theorem Pair.lt {w : World} {xb cb : Nat} {D : DevS} {R : RefS} (h : Pair w xb cb D R) : ∀ k, pfp xb cb D R k → k < w.heap.size := fun k hk => hk.elim (h.dev.lt k) (h.ref.lt k)
theorem Pair.dfit {w : World} {xb cb : Nat} {D : DevS} {R : RefS} (h : Pair w xb cb D R) : D.Fit := ⟨h.good.pmax, h.good.clk0, h.good.clk1, h.good.bmax, h.good.qmax⟩
def Turned (w w' : World) (xb cb : Nat) (D : DevS) (R : RefS) : Prop :=
 ∃ D' R', Pair w' xb cb D' R' ∧ Kept (pfp xb cb D R) w w' ∧ (∀ k, pfp xb cb D' R' k → pfp xb cb D R k ∨ w.heap.size ≤ k) ∧ R'.uses.length ≤ R.uses.length + 1
theorem Turned.same {w w' : World} {xb cb : Nat} {D : DevS} {R : RefS} {F : Nat → Prop} (h : Pair w xb cb D R) (k : Kept F w w') (hF : ∀ j, j < w.heap.size → ¬ F j) : Turned w w' xb cb D R :=
 ⟨D, R, h.kept k (fun j hj => hF j (h.lt j hj)), ⟨k.os, k.tape, k.output, k.size, fun i hi _ => k.block i hi (hF i hi)⟩, fun _ hk => .inl hk, Nat.le_succ _⟩
def Then (f : FuncId) (args : Array Value) (w w1 : World) (xb cb : Nat) (D : DevS) (R : RefS) (v : Value) : Prop :=
 Kept (D.fp xb) w w1 ∧ ∀ w2, Kept (fun _ => False) w1 w2 → Calls Tryz.prog f args w2 fun e w3 => e = .returned v ∧ Turned w w3 xb cb D R ∧ Kept (R.fp cb) w2 w3
theorem Pair.turned {w w1 w2 w3 : World} {xb cb : Nat} {D : DevS} {P : DP} {R R' : RefS} (h : Pair w xb cb D R) (g : Goes w xb D P w1)
  (k2 : Kept (fun _ => False) w1 w2) (hb : Became w2 cb R w3 R') (hs : Sim P R') (hg : P.Good R'.uses.length) (hrf : R'.Fit) (hu : R'.uses.length ≤ R.uses.length + 1) (hx0 : 0 ≤ R'.next) (hx1 : R'.next ≤ (R'.uses.length : Int)) : Turned w w3 xb cb D R := by
 obtain ⟨D', rfl, hd, k1, f1⟩ := g
 obtain ⟨hr, k3, f3⟩ := hb
 have hd2 : Dev w2 xb D' := hd.kept k2 (fun _ _ => id)
 have far : ∀ k, D'.fp xb k → ¬ R.fp cb k := fun k hk hr => (f1 k hk).elim (fun x => h.sep k x hr) (fun x => by have := h.ref.lt k hr; omega)
 have k12 : Kept (D.fp xb) w w2 := k1.trans k2 (fun _ => id) (fun _ _ => False.elim)
 refine ⟨D', R', ⟨hd2.kept k3 far, hr, hs, hg, hrf, hx0, hx1, fun k hk hr' => ?_⟩, k12.trans k3 (fun _ => .inl) (fun _ _ => .inr), fun k hk => ?_, hu⟩
 · rcases f3 k hr' with x | x
  · exact far k hk x
  · have := hd2.lt k hk; omega
 · rcases hk with hk | hk
  · exact (f1 k hk).imp .inl id
  · exact (f3 k hk).imp .inr fun x => Nat.le_trans k12.size x
theorem Pair.turned' {w w1 w2 w3 : World} {xb cb : Nat} {D : DevS} {P : DP} {R R' : RefS} (h : Pair w xb cb D R) (g : Goes w xb D P w1)
  (k2 : Kept (fun _ => False) w1 w2) (hb : Became w2 cb R w3 R') (hs : Sim P R') (hg : P.Good R.uses.length) (hrf : R'.Fit) (hu : R'.uses = R.uses) (hx : R'.next = R.next) : Turned w w3 xb cb D R :=
 h.turned g k2 hb hs (by rw [hu]; exact hg) hrf (by rw [hu]; exact Nat.le_succ _) (by rw [hx]; exact h.nx0) (by rw [hx, hu]; exact h.nx1)
theorem Pair.stays {w w1 w2 w3 : World} {xb cb : Nat} {D : DevS} {R : RefS} (h : Pair w xb cb D R) (k1 : Kept (fun _ => False) w w1) (k2 : Kept (fun _ => False) w1 w2) (k3 : Kept (fun _ => False) w2 w3) : Turned w w3 xb cb D R :=
 Turned.same h ((k1.trans k2 (fun _ => id) (fun _ _ => id)).trans k3 (fun _ => id) (fun _ _ => id)) (fun _ _ => id)
theorem Pair.ref_after {w w1 w2 : World} {xb cb : Nat} {D : DevS} {R : RefS} (h : Pair w xb cb D R) (k1 : Kept (D.fp xb) w w1) (k2 : Kept (fun _ => False) w1 w2) : Ref w2 cb R :=
 (h.ref.kept k1 fun j hj hd => h.sep j hd hj).kept k2 (fun _ _ => id)
theorem pair_tick {w : World} {xb cb : Nat} {D : DevS} {R : RefS} (h : Pair w xb cb D R) :
  ∃ r : Int, Calls Tryz.prog 31 #[.pointer (some ⟨xb, 0, none⟩)] w fun e w1 => e = .returned (.int .i64 r) ∧
   Then 32 #[.pointer (some ⟨cb, 0, none⟩)] w w1 xb cb D R (.int .i64 r) := by
 have hc : R.clock = D.clock := h.sim.clock
 by_cases hlt : D.clock < 100000
 · refine ⟨0, (dtick w xb D h.dev h.dfit).mono fun e w1 hp => ?_⟩
  rcases hp with ⟨a, _⟩ | ⟨_, e1, hd, k1⟩
  · omega
  · refine ⟨e1, k1, fun w2 k2 => (rtick w2 cb R (h.ref_after k1 k2) h.rfit).mono fun e w3 hq => ?_⟩
   rcases hq with ⟨a, _⟩ | ⟨_, e2, hr, k3⟩
   · omega
   · have c0 := h.dfit.clk0
    refine ⟨e2, h.turned' (P := { D.pu with clock := D.clock + 1 }) ⟨_, rfl, hd, k1, fun k hk => .inl hk⟩ k2 ⟨hr, k3, fun k hk => .inl (fp_of_map rfl hk)⟩ ⟨h.sim.past, by show R.clock + 1 = D.clock + 1; rw [hc], h.sim.rdr, h.sim.puts, h.sim.bd, h.sim.len, h.sim.node, h.sim.room, h.sim.names, h.sim.fresh⟩ ⟨h.good.pmax, by show 0 ≤ D.clock + 1; omega, by show D.clock + 1 ≤ 100000; omega, h.good.bmax, h.good.qmax, h.good.s1, h.good.s3, h.good.sites, h.good.puts⟩ ⟨h.rfit.pos, h.rfit.pmax, by show 0 ≤ R.clock + 1; omega, by show R.clock + 1 ≤ 100000; omega, h.rfit.rmax, h.rfit.npos, h.rfit.nmax, h.rfit.fmax⟩ rfl rfl, k3⟩
 · refine ⟨6, (dtick w xb D h.dev h.dfit).mono fun e w1 hp => ?_⟩
  rcases hp with ⟨_, e1, rfl⟩ | ⟨a, _⟩
  · refine ⟨e1, Kept.refl _ _, fun w2 k2 => (rtick w2 cb R (h.ref_after (Kept.refl _ _) k2) h.rfit).mono fun e w3 hq => ?_⟩
   rcases hq with ⟨_, e2, rfl⟩ | ⟨a, _⟩
   · exact ⟨e2, h.stays (Kept.refl _ _) k2 (Kept.refl _ _), Kept.refl _ _⟩
   · omega
  · omega
theorem pair_begin {w : World} {xb cb : Nat} {D : DevS} {R : RefS} (h : Pair w xb cb D R) (limit : Int) :
  ∃ x y : Int, Calls Tryz.prog 34 #[.pointer (some ⟨xb, 0, none⟩), .int .i64 limit] w fun e w1 => e = .returned (.tuple #[.int .i64 x, .int .i64 y]) ∧
   Then 35 #[.pointer (some ⟨cb, 0, none⟩), .int .i64 limit] w w1 xb cb D R (.tuple #[.int .i64 x, .int .i64 y]) := by
 have hc : R.clock = D.clock := h.sim.clock
 have hlen : R.past.length = D.past.length + 1 := h.sim.plen
 by_cases hl : limit < 0 ∨ 100000 < limit
 · refine ⟨0, 10, (dbegin_bad w xb limit hl).mono fun e w1 hp => ?_⟩
  obtain ⟨e1, rfl⟩ := hp
  refine ⟨e1, Kept.refl _ _, fun w2 k2 => (rbegin_bad w2 cb limit hl).mono fun e w3 hq => ?_⟩
  obtain ⟨e2, rfl⟩ := hq
  exact ⟨e2, h.stays (Kept.refl _ _) k2 (Kept.refl _ _), Kept.refl _ _⟩
 · have hl0 : 0 ≤ limit := by omega
  have hl1 : limit ≤ 100000 := by omega
  have hcount : openN R.rdrs = seatN D.seats := h.sim.rdr.count
  have hbeg : D.begun = R.rdrs.length := h.sim.rdr.begun
  by_cases hall : ∀ i, i < 6 → (D.seats i).reads = true
  · have h6 := seatN_all hall
   refine ⟨0, 7, (dbegin w xb D limit h.dev h.dfit hl0 hl1).mono fun e w1 hp => ?_⟩
   obtain ⟨lo, _, ⟨_, e1, k1⟩ | ⟨j, hj, hr, _⟩ | ⟨j, hj, hr, _⟩⟩ := hp
   · refine ⟨e1, k1.mono (fun _ => False.elim), fun w2 k2 => (rbegin w2 cb R limit (h.ref_after (k1.mono (fun _ => False.elim)) k2) h.rfit hl0 hl1).mono fun e w3 hq => ?_⟩
    rcases hq with ⟨_, e2, rfl⟩ | ⟨a, _⟩ | ⟨a, _⟩
    · exact ⟨e2, h.stays k1 k2 (Kept.refl _ _), Kept.refl _ _⟩
    · omega
    · omega
   · rw [hall j hj] at hr; cases hr
   · rw [hall j hj] at hr; cases hr
  · obtain ⟨j0, hj0, hr0⟩ : ∃ j, j < 6 ∧ (D.seats j).reads = false := by
    false_or_by_contra
    rename_i hn
    refine hall fun i hi => ?_
    cases hh : (D.seats i).reads with
    | true => rfl
    | false => exact absurd ⟨i, hi, hh⟩ hn
   have h6 := seatN_free hj0 hr0
   by_cases h200 : 200 ≤ D.begun
   · refine ⟨0, 6, (dbegin w xb D limit h.dev h.dfit hl0 hl1).mono fun e w1 hp => ?_⟩
    obtain ⟨lo, _, ⟨a, _⟩ | ⟨j, hj, hr, _, e1, k1⟩ | ⟨j, hj, hr, a, _⟩⟩ := hp
    · exact absurd a hall
    · refine ⟨e1, k1.mono (fun _ => False.elim), fun w2 k2 => (rbegin w2 cb R limit (h.ref_after (k1.mono (fun _ => False.elim)) k2) h.rfit hl0 hl1).mono fun e w3 hq => ?_⟩
     rcases hq with ⟨a, _⟩ | ⟨_, _, e2, rfl⟩ | ⟨_, a, _⟩
     · omega
     · exact ⟨e2, h.stays k1 k2 (Kept.refl _ _), Kept.refl _ _⟩
     · omega
    · omega
   · refine ⟨D.begun, 0, (dbegin w xb D limit h.dev h.dfit hl0 hl1).mono fun e w1 hp => ?_⟩
    obtain ⟨lo, hfirst, ⟨a, _⟩ | ⟨j, hj, hr, a, _⟩ | ⟨j, hj, hr, _, e1, hd, k1⟩⟩ := hp
    · exact absurd a hall
    · omega
    · refine ⟨e1, k1, fun w2 k2 => (rbegin w2 cb R limit (h.ref_after k1 k2) h.rfit hl0 hl1).mono fun e w3 hq => ?_⟩
     rcases hq with ⟨a, _⟩ | ⟨_, a, _⟩ | ⟨_, _, lo', v, hleast, e2, hr3, k3, f3⟩
     · omega
     · omega
     · have hle : lo = lo' := by
       have a := least_cons hfirst.1 hfirst.2.1 hfirst.2.2 zeroP
       rw [show zeroP :: D.past = R.past from h.sim.past.symm, ← hc] at a
       exact a.unique hleast
      subst hle
      have htop : R.past.length - 1 = D.past.length := by omega
      refine ⟨by rw [e2, hbeg], h.turned' ⟨_, rfl, hd, k1, fun k hk => .inl hk⟩ k2 ⟨hr3, k3, f3⟩ ⟨h.sim.past, hc, ?_, h.sim.puts, h.sim.bd, h.sim.len, h.sim.node, h.sim.room, h.sim.names, h.sim.fresh⟩ (h.good.seats _ (D.begun + 1) (by omega)) ⟨h.rfit.pos, h.rfit.pmax, h.rfit.clk0, h.rfit.clk1, by show (R.rdrs ++ [_]).length ≤ 200; rw [List.length_append, List.length_singleton]; omega, h.rfit.npos, h.rfit.nmax, h.rfit.fmax⟩ rfl rfl, k3⟩
      show SimR (D.begun + 1) (putSeat D.seats j _) (R.rdrs ++ [⟨lo, R.past.length - 1, false⟩]) D.past.length
      rw [htop]
      exact h.sim.rdr.beginS hj hr lo hfirst.1
theorem goneB_open {l : List RdrE} {j : Nat} {x : RdrE} (hx : l[j]? = some x) (he : x.ended = false) : goneB l j = false := by
 have hlt := (List.getElem?_eq_some_iff.mp hx).1
 have a : ¬ (j : Int) < 0 := by omega
 have c : ¬ (l.length : Int) ≤ (j : Int) := by omega
 simp only [goneB, a, c, decide_false, Bool.false_or, Int.toNat_natCast, hx]
 exact he
theorem pair_end {w : World} {xb cb : Nat} {D : DevS} {R : RefS} (h : Pair w xb cb D R) (m : Int) :
  ∃ x y z : Int, Calls Tryz.prog 36 #[.pointer (some ⟨xb, 0, none⟩), .int .i64 m] w fun e w1 => e = .returned (.tuple #[.agg #[.int .u64 x, .int .u64 y], .int .i64 z]) ∧
   Then 37 #[.pointer (some ⟨cb, 0, none⟩), .int .i64 m] w w1 xb cb D R (.tuple #[.agg #[.int .u64 x, .int .u64 y], .int .i64 z]) := by
 have hrdr : SimR D.begun D.seats R.rdrs D.past.length := h.sim.rdr
 by_cases hall : ∀ i, i < 6 → (D.seats i).reads = true → (D.seats i).num ≠ m
 · refine ⟨0, 0, 8, (dend w xb D m h.dev).mono fun e w1 hp => ?_⟩
  rcases hp with ⟨_, e1, k1⟩ | ⟨j, hj, hr, hn, _⟩
  · refine ⟨e1, k1.mono (fun _ => False.elim), fun w2 k2 => (rend w2 cb R m (h.ref_after (k1.mono (fun _ => False.elim)) k2) h.rfit).mono fun e w3 hq => ?_⟩
   rcases hq with ⟨_, e2, b3⟩ | ⟨j, x, rfl, hx, he, _⟩
   · exact ⟨e2, h.stays k1 k2 (Kept.of_below b3 _), Kept.of_below b3 _⟩
   · obtain ⟨i, hi, hr, hn⟩ := hrdr.back j x hx he
    exact absurd hn (hall i hi hr)
  · exact absurd hn (hall j hj hr)
 · obtain ⟨j0, hj0, hr0, hn0⟩ : ∃ j, j < 6 ∧ (D.seats j).reads = true ∧ (D.seats j).num = m := by
   false_or_by_contra
   rename_i hn
   exact hall fun i hi hr e => hn ⟨i, hi, hr, e⟩
  refine ⟨(D.seats j0).lo, (D.seats j0).hi, 0, (dend w xb D m h.dev).mono fun e w1 hp => ?_⟩
  rcases hp with ⟨a, _⟩ | ⟨j, hj, hr, hn, e1, hd, k1⟩
  · exact absurd a hall
  · have hjj : j = j0 := hrdr.one j j0 hj hj0 hr hr0 (by rw [hn, hn0])
   subst hjj
   refine ⟨e1, k1, fun w2 k2 => (rend w2 cb R m (h.ref_after k1 k2) h.rfit).mono fun e w3 hq => ?_⟩
   obtain ⟨q, x, hq1, hx, he, hlo, hhi⟩ := hrdr.seat j hj hr
   have hmq : m = q := by rw [← hn, hq1]
   rcases hq with ⟨a, _⟩ | ⟨q', x', hm', hx', he', e2, hr3, k3⟩
   · rw [hmq, goneB_open hx he] at a; cases a
   · have hqq : q' = q := by omega
    subst hqq
    rw [hx] at hx'
    injection hx' with hx'
    subst hx'
    refine ⟨by rw [e2, hlo, hhi], h.turned' ⟨_, rfl, hd, k1, fun k hk => .inl hk⟩ k2 ⟨hr3, k3, fun k hk => .inl (fp_of_map (R' := R.endR _ x) (R := R) rfl hk)⟩ ⟨h.sim.past, h.sim.clock, ?_, h.sim.puts, h.sim.bd, h.sim.len, h.sim.node, h.sim.room, h.sim.names, h.sim.fresh⟩ (h.good.seats _ D.begun h.good.bmax) ⟨h.rfit.pos, h.rfit.pmax, h.rfit.clk0, h.rfit.clk1, by show (R.rdrs.set _ _).length ≤ 200; rw [List.length_set]; exact h.rfit.rmax, h.rfit.npos, h.rfit.nmax, h.rfit.fmax⟩ rfl rfl, k3⟩
    exact hrdr.endS hj hr hq1 hx he
theorem Wr.kept' {w w' : World} {F : Nat → Prop} {ao : Option Addr} {n : Nat} {ws : List (Int × Int)} (h : Wr w ao n ws) (k : Kept F w w') (hF : 0 < n → ∀ a, ao = some a → ¬ F a.block) : Wr w' ao n ws := by
 by_cases hn : 0 < n
 · exact h.kept k (hF hn)
 · exact ⟨h.len, fun j hj => by have := h.len; omega⟩
theorem pair_commit {w : World} {xb cb : Nat} {D : DevS} {R : RefS} (h : Pair w xb cb D R) (hnn : R.uses.length < 9223372036854775807) (ao ao' : Option Addr) (n cap cap' : Nat) (ws : List (Int × Int)) (hw : Wr w ao n ws) (hw' : Wr w ao' n ws) (hm : n ≤ maxLen) (hfar : 0 < n → ∀ a, ao' = some a → ¬ D.fp xb a.block) (hwb : BdW ws) :
  ∃ x y : Int, Calls Tryz.prog 28 #[.pointer (some ⟨xb, 0, none⟩), .slice ao n cap] w fun e w1 => e = .returned (.tuple #[.int .u64 x, .int .i64 y]) ∧
   Then 29 #[.pointer (some ⟨cb, 0, none⟩), .slice ao' n cap'] w w1 xb cb D R (.tuple #[.int .u64 x, .int .i64 y]) := by
 have hlen := h.sim.plen
 have hwalk := h.good.walk hnn
 have hpm := h.good.pmax
 refine ⟨_, _, (dCommit w xb D ao n cap ws h.dev hwalk hw hm).mono fun e w1 hp => ⟨hp.1, ?_⟩⟩
 obtain ⟨D', hD', hd, k1, f1⟩ := hp.2
 have hwd : ∀ w2, Kept (fun _ => False) w1 w2 → Wr w2 ao' n ws := fun w2 k2 => (hw'.kept' k1 hfar).kept k2 fun _ _ => id
 have keep : ∀ w2 w3, Kept (fun _ => False) w1 w2 → Kept (fun _ => False) w2 w3 → D'.pu = D.pu → Turned w w3 xb cb D R := fun w2 w3 k2 k3 hpu => by
  have hr2 := h.ref_after k1 k2
  exact h.turned' ⟨D', hpu, hd, k1, f1⟩ k2 ⟨hr2.kept k3 (fun _ _ => id), k3.mono (fun _ => False.elim), fun _ hx => .inl hx⟩ h.sim h.good h.rfit rfl rfl
 refine ⟨k1, fun w2 k2 => ?_⟩
 by_cases h8 : 8 < n
 · rw [DP.commit, if_pos h8] at hD' ⊢
  refine (rcommit_long w2 cb ao' n cap' (by omega) hm).mono fun e w3 hq => ?_
  obtain ⟨e2, rfl⟩ := hq
  exact ⟨e2, keep _ _ k2 (Kept.refl _ _) hD', Kept.refl _ _⟩
 · rw [DP.commit, if_neg h8] at hD' ⊢
  by_cases hk : ws.all keyOk = false
  · rw [if_pos hk] at hD' ⊢
   refine (rcommit_key w2 cb ao' n cap' ws (hwd w2 k2) (by omega) hk).mono fun e w3 hq => ?_
   obtain ⟨e2, rfl⟩ := hq
   exact ⟨e2, keep _ _ k2 (Kept.refl _ _) hD', Kept.refl _ _⟩
  · rw [if_neg hk] at hD' ⊢
   have hk : ws.all keyOk = true := by cases h : ws.all keyOk with
    | true => rfl
    | false => exact absurd h hk
   by_cases h7 : 700 ≤ D.pu.past.length
   · rw [if_pos h7] at hD' ⊢
    refine (rcommit_full w2 cb R ao' n cap' ws (h.ref_after k1 k2) h.rfit (hwd w2 k2) (by omega) hk (by omega)).mono fun e w3 hq => ?_
    obtain ⟨e2, rfl⟩ := hq
    exact ⟨e2, keep _ _ k2 (Kept.refl _ _) hD', Kept.refl _ _⟩
   · rw [if_neg h7] at hD' ⊢
    refine (rcommit_good w2 cb R ao' n cap' ws (h.ref_after k1 k2) h.rfit (hwd w2 k2) (by omega) hk (by omega)).mono fun e w3 hq => ?_
    obtain ⟨e2, p, v', l, hp, hr3, ht, hfit, k3, f3⟩ := hq
    refine ⟨by rw [e2, hlen], h.turned' ⟨D', hD', hd, k1, f1⟩ k2 ⟨hr3, k3, f3⟩ (h.sim.commit hp ht hwb) (h.good.push _ (by omega)) hfit rfl rfl, k3⟩
theorem Turned.from {w wb w' : World} {xb cb : Nat} {D : DevS} {R : RefS} (h : Turned wb w' xb cb D R) (k : Kept (fun _ => False) w wb) : Turned w w' xb cb D R := by
 obtain ⟨D', R', hp, hk, hf, hu⟩ := h
 exact ⟨D', R', hp, k.trans hk (fun _ => False.elim) (fun _ _ => id), fun i hi => (hf i hi).imp id fun x => Nat.le_trans k.size x, hu⟩
theorem Turned.still {w wb w' w2 : World} {xb cb : Nat} {D : DevS} {R : RefS} {F : Nat → Prop} (h : Turned wb w' xb cb D R) (k0 : Kept (fun _ => False) w wb) (k : Kept F w' w2) (hF : ∀ i, F i → w.heap.size ≤ i ∧ i < wb.heap.size) (hlt : ∀ i, pfp xb cb D R i → i < w.heap.size) : Turned w w2 xb cb D R := by
 obtain ⟨D', R', hp, hk, hf, hu⟩ := h
 refine ⟨D', R', hp.kept k fun j hj hfj => ?_, (k0.trans hk (H := pfp xb cb D R) (fun _ => False.elim) (fun _ _ => id)).trans k (fun _ => id) (fun i hi hfi => ?_), fun i hi => (hf i hi).imp id fun x => Nat.le_trans k0.size x, hu⟩
 · obtain ⟨a, c⟩ := hF j hfj
  rcases hf j hj with x | x
  · have := hlt j x; omega
  · omega
 · have := (hF i hfi).1; omega
def boxed (w : World) (xb cb : Nat) (kd a b c : Int) (s : ByteArray) (l : Value) : World :=
 (w.alloc (.cells #[.pointer (some ⟨xb, 0, none⟩), .pointer (some ⟨cb, 0, none⟩)] 44)).alloc (.cells #[.int .i64 kd, .int .i64 a, .int .i64 b, .int .i64 c, .string s, l] 37)
theorem boxed_kept (w : World) (xb cb : Nat) (kd a b c : Int) (s : ByteArray) (l : Value) : Kept (fun _ => False) w (boxed w xb cb kd a b c s l) := (Kept.alloc w _ _).allocNew _
theorem boxed_c {w w1 : World} {xb cb : Nat} {kd a b c : Int} {s : ByteArray} {l : Value} {F : Nat → Prop} (k : Kept F (boxed w xb cb kd a b c s l) w1) (hF : ∀ i, F i → i < w.heap.size) : w1.cell? ⟨w.heap.size, 1, none⟩ = some (.pointer (some ⟨cb, 0, none⟩)) :=
 k.keep (fun hf => by have := hF _ hf; simp at this) (by simp [boxed])
theorem boxed_b {w w1 : World} {xb cb : Nat} {kd a b c : Int} {s : ByteArray} {l : Value} {F : Nat → Prop} (k : Kept F (boxed w xb cb kd a b c s l) w1) (hF : ∀ i, F i → i < w.heap.size) : w1.cell? ⟨w.heap.size + 1, 2, none⟩ = some (.int .i64 b) :=
 k.keep (fun hf => by have := hF _ hf; simp at this; omega) (by simp [boxed])
theorem boxed_size (w : World) (xb cb : Nat) (kd a b c : Int) (s : ByteArray) (l : Value) : (boxed w xb cb kd a b c s l).heap.size = w.heap.size + 2 := by simp [boxed]
theorem span_box {w1 w3 : World} {a b : Value} {T : TypeId} {F : Nat → Prop} (k : Kept F (w1.alloc (.cells #[a, b] T)) w3) (hF : ∀ i, F i → i < w1.heap.size) : w3.cell? ⟨w1.heap.size, 0, none⟩ = some a ∧ w3.cell? ⟨w1.heap.size, 1, none⟩ = some b ∧ w1.heap.size < w3.heap.size :=
 ⟨k.keep (fun hf => by have := hF _ hf; simp at this) (by simp), k.keep (fun hf => by have := hF _ hf; simp at this) (by simp), by have := k.size; simp at this; omega⟩
def StepPost (w : World) (xb cb : Nat) (D : DevS) (R : RefS) (e : Ending) (w' : World) : Prop := e = .returned (.bool true) ∧ Turned w w' xb cb D R
theorem lreader_tick (w : World) (pb xb cb : Nat) (a b c : Int) (s : ByteArray) (ao : Option Addr) (n cap : Nat) (D : DevS) (R : RefS) (h : Pair w xb cb D R) :
  Calls Tryz.prog 15 #[.pointer (some ⟨pb, 0, none⟩), .agg #[.pointer (some ⟨xb, 0, none⟩), .pointer (some ⟨cb, 0, none⟩)], .agg #[.int .i64 3, .int .i64 a, .int .i64 b, .int .i64 c, .string s, .slice ao n cap]] w fun e w' => StepPost w xb cb D R e w' := by
 have hk := boxed_kept w xb cb 3 a b c s (.slice ao n cap)
 obtain ⟨r, hr⟩ := pair_tick (h.kept hk fun _ _ => id)
 have H0 : Hid (Calls Tryz.prog 31 #[.pointer (some ⟨xb, 0, none⟩)] (boxed w xb cb 3 a b c s (.slice ao n cap)) fun e w1 => e = .returned (.int .i64 r) ∧ Hid (Then 32 #[.pointer (some ⟨cb, 0, none⟩)] (boxed w xb cb 3 a b c s (.slice ao n cap)) w1 xb cb D R (.int .i64 r))) := hr
 have HK : Hid (Kept (fun _ => False) w (boxed w xb cb 3 a b c s (.slice ao n cap))) := hk
 have HL : Hid (∀ i, D.fp xb i → i < w.heap.size) := h.dev.lt
 clear hr hk h
 go_enter Tryz.func15, Tryz.ntmps15
 go_wp2_with first
  | (go_at_call 31; refine H0.out.mono ?_; rintro e w1 ⟨rfl, ht⟩; have q1 := boxed_c ht.out.1 HL.out)
  | (go_at_call 32; refine (ht.out.2 _ (Kept.refl _ _)).mono ?_; rintro e w3 ⟨rfl, hz, _⟩; have HZ : Hid (Turned (boxed w xb cb 3 a b c s (.slice ao n cap)) w3 xb cb D R) := hz; clear hz)
 go_ret
 exact ⟨rt_bool (by simp), HZ.out.from HK.out⟩
theorem lreader_now (w : World) (pb xb cb : Nat) (a b c : Int) (s : ByteArray) (ao : Option Addr) (n cap : Nat) (D : DevS) (R : RefS) (h : Pair w xb cb D R) :
  Calls Tryz.prog 15 #[.pointer (some ⟨pb, 0, none⟩), .agg #[.pointer (some ⟨xb, 0, none⟩), .pointer (some ⟨cb, 0, none⟩)], .agg #[.int .i64 4, .int .i64 a, .int .i64 b, .int .i64 c, .string s, .slice ao n cap]] w fun e w' => StepPost w xb cb D R e w' := by
 have hk := boxed_kept w xb cb 4 a b c s (.slice ao n cap)
 have hp := h.kept hk fun _ _ => id
 have H0 : Hid (Calls Tryz.prog 33 #[.pointer (some ⟨xb, 0, none⟩)] (boxed w xb cb 4 a b c s (.slice ao n cap)) fun e w1 => e = .returned (.tuple #[.int .u64 (D.past.length : Int), .int .i64 D.clock]) ∧ boxed w xb cb 4 a b c s (.slice ao n cap) = w1) := dnow _ xb D hp.dev hp.dfit
 obtain ⟨av, cv, hv, _⟩ := h.ref.past.form
 have c0 := h.ref.c0
 have c1 := h.ref.c1
 rw [hv, show R.past.length = D.past.length + 1 from h.sim.plen] at c0
 rw [show R.clock = D.clock from h.sim.clock] at c1
 have hcb := h.ref.blk.lt
 have hpm := h.dfit.pmax
 have HK : Hid (Kept (fun _ => False) w (boxed w xb cb 4 a b c s (.slice ao n cap))) := hk
 have HH : Hid (Pair w xb cb D R) := h
 clear hp hk h hv
 go_enter Tryz.func15, Tryz.ntmps15
 go_wp2_with (go_at_call 33; refine H0.out.mono ?_; rintro e w1 ⟨rfl, rfl⟩; unfold boxed)
 go_ret
 exact ⟨rt_bool (by simp), Turned.same HH.out HK.out (fun _ _ => id)⟩
theorem lreader_begin (w : World) (pb xb cb : Nat) (a b c : Int) (s : ByteArray) (ao : Option Addr) (n cap : Nat) (D : DevS) (R : RefS) (h : Pair w xb cb D R) :
  Calls Tryz.prog 15 #[.pointer (some ⟨pb, 0, none⟩), .agg #[.pointer (some ⟨xb, 0, none⟩), .pointer (some ⟨cb, 0, none⟩)], .agg #[.int .i64 5, .int .i64 a, .int .i64 b, .int .i64 c, .string s, .slice ao n cap]] w fun e w' => StepPost w xb cb D R e w' := by
 have hk := boxed_kept w xb cb 5 a b c s (.slice ao n cap)
 obtain ⟨x, y, hr⟩ := pair_begin (h.kept hk fun _ _ => id) b
 have H0 : Hid (Calls Tryz.prog 34 #[.pointer (some ⟨xb, 0, none⟩), .int .i64 b] (boxed w xb cb 5 a b c s (.slice ao n cap)) fun e w1 => e = .returned (.tuple #[.int .i64 x, .int .i64 y]) ∧ Hid (Then 35 #[.pointer (some ⟨cb, 0, none⟩), .int .i64 b] (boxed w xb cb 5 a b c s (.slice ao n cap)) w1 xb cb D R (.tuple #[.int .i64 x, .int .i64 y]))) := hr
 have HK : Hid (Kept (fun _ => False) w (boxed w xb cb 5 a b c s (.slice ao n cap))) := hk
 have HL : Hid (∀ i, D.fp xb i → i < w.heap.size) := h.dev.lt
 clear hr hk h
 go_enter Tryz.func15, Tryz.ntmps15
 go_wp2_with first
  | (go_at_call 34; refine H0.out.mono ?_; rintro e w1 ⟨rfl, ht⟩; have q1 := boxed_c ht.out.1 HL.out; have q2 := boxed_b ht.out.1 HL.out)
  | (go_at_call 35; refine (ht.out.2 _ (Kept.refl _ _)).mono ?_; rintro e w3 ⟨rfl, hz, _⟩; have HZ : Hid (Turned (boxed w xb cb 5 a b c s (.slice ao n cap)) w3 xb cb D R) := hz; clear hz)
 go_ret
 exact ⟨rt_bool (by simp), HZ.out.from HK.out⟩
theorem lreader_end (w : World) (pb xb cb : Nat) (a b c : Int) (s : ByteArray) (ao : Option Addr) (n cap : Nat) (D : DevS) (R : RefS) (h : Pair w xb cb D R) :
  Calls Tryz.prog 15 #[.pointer (some ⟨pb, 0, none⟩), .agg #[.pointer (some ⟨xb, 0, none⟩), .pointer (some ⟨cb, 0, none⟩)], .agg #[.int .i64 6, .int .i64 a, .int .i64 b, .int .i64 c, .string s, .slice ao n cap]] w fun e w' => StepPost w xb cb D R e w' := by
 have hk := boxed_kept w xb cb 6 a b c s (.slice ao n cap)
 obtain ⟨x, y, z, hr⟩ := pair_end (h.kept hk fun _ _ => id) b
 have H0 : Hid (Calls Tryz.prog 36 #[.pointer (some ⟨xb, 0, none⟩), .int .i64 b] (boxed w xb cb 6 a b c s (.slice ao n cap)) fun e w1 => e = .returned (.tuple #[.agg #[.int .u64 x, .int .u64 y], .int .i64 z]) ∧ Hid (Then 37 #[.pointer (some ⟨cb, 0, none⟩), .int .i64 b] (boxed w xb cb 6 a b c s (.slice ao n cap)) w1 xb cb D R (.tuple #[.agg #[.int .u64 x, .int .u64 y], .int .i64 z]))) := hr
 have HK : Hid (Kept (fun _ => False) w (boxed w xb cb 6 a b c s (.slice ao n cap))) := hk
 have HL : Hid (∀ i, D.fp xb i → i < w.heap.size) := h.dev.lt
 have HLR : Hid (∀ i, R.fp cb i → i < w.heap.size) := h.ref.lt
 have HP : Hid (∀ i, pfp xb cb D R i → i < w.heap.size) := h.lt
 clear hr hk h
 go_enter Tryz.func15, Tryz.ntmps15
 go_wp2_with first
  | (go_at_call 36; refine H0.out.mono ?_; rintro e w1 ⟨rfl, ht⟩; have q1 := boxed_c ht.out.1 HL.out; have q2 := boxed_b ht.out.1 HL.out; have hs1 := ht.out.1.size; have hs2 : w.heap.size + 2 ≤ w1.heap.size := Nat.le_trans (Nat.le_of_eq (boxed_size _ _ _ _ _ _ _ _ _).symm) hs1; have hs3 : w.heap.size < w1.heap.size := Nat.lt_of_lt_of_le (Nat.lt_add_of_pos_right (Nat.succ_pos 1)) hs2; have hs4 : w.heap.size + 1 < w1.heap.size := hs2; clear hs1)
  | (go_at_call 37; refine (ht.out.2 _ (Kept.alloc _ _ _)).mono ?_; rintro e w3 ⟨rfl, hz, hk3⟩; have HZ : Hid (Turned (boxed w xb cb 6 a b c s (.slice ao n cap)) w3 xb cb D R) := hz; clear hz; have y0 := span_box hk3 (fun i hi => Nat.lt_trans (HLR.out i hi) hs3); clear hk3)
 obtain ⟨y0, y1, y2⟩ := y0
 go_wp2
 go_ret
 exact ⟨rt_bool (by simp), HZ.out.still HK.out (Kept.alloc _ _ (fun _ => False)) (fun _ => False.elim) HP.out⟩
def wrC (x : Int × Int) : List Value := [.int .i64 x.1, .int .i32 x.2]
def farW : Int × Int := (-77, 0)
theorem Tryz.infoWrite : (Tryz.prog.info? 152).map (fun i => (i.zero, i.size, i.bytes)) = some (some (.agg #[.int .i64 0, .int .i32 0]), 2, 16) := by kernel_rfl
theorem oneCell_wr (ws : List (Int × Int)) : ∀ u ∈ ws.flatMap wrC, u.oneCell' = true := by
 intro u hu
 simp [wrC] at hu
 obtain ⟨a, b, _, rfl | rfl⟩ := hu <;> rfl
theorem Wr.news {w : World} {a : Addr} {n : Nat} {ws : List (Int × Int)} (h : Wr w (some a) n ws) : ∀ j u, (ws.flatMap wrC)[j]? = some u → w.cell? (a.add j) = some u := by
 intro j u hj
 have hl : (ws.flatMap wrC).length = ws.length * 2 := flat_length wrC 2 (fun _ => rfl) ws
 have hlt : j < ws.length * 2 := by rw [← hl]; exact (List.getElem?_eq_some_iff.mp hj).1
 obtain ⟨q, f, rfl, hf⟩ : ∃ q f, j = q * 2 + f ∧ f < 2 := ⟨j / 2, j % 2, by omega, by omega⟩
 have hq : q < ws.length := by omega
 obtain ⟨bl, off, e, c0, c1⟩ := h.cell q hq
 injection e with e
 subst e
 rw [flat_at wrC 2 (fun _ => rfl) ws q hq f hf] at hj
 have ea : (⟨bl, off, none⟩ : Addr).add (q * 2 + f) = ⟨bl, off + (q * 2 + f), none⟩ := by
  cases hz : q * 2 + f <;> simp [Addr.add]
 rw [ea]
 have hc : f = 0 ∨ f = 1 := by omega
 rcases hc with rfl | rfl
 · simp [wrC] at hj; subst hj; simpa using c0
 · simp [wrC] at hj; subst hj
  have : off + (q * 2 + 1) = off + q * 2 + 1 := by omega
  rw [this]; exact c1
def RoomyPost (w : World) (n : Nat) (ws : List (Int × Int)) (e : Ending) (w' : World) : Prop :=
 ∃ g cap, e = .returned (.slice (some ⟨g, 0, none⟩) n cap) ∧ n + 2 ≤ cap ∧ w.heap.size ≤ g ∧ Row w' 152 2 (.slice (some ⟨g, 0, none⟩) (n + 2) cap) (n + 2) ((ws ++ [farW, farW]).flatMap wrC) ∧ Kept (fun _ => False) w w'
theorem cell_four_new (w : World) (a b c d : Value) (t : TypeId) : ∀ j u, [a, b, c, d][j]? = some u → (w.alloc (.cells #[a, b, c, d] t)).cell? ((⟨w.heap.size, 0, none⟩ : Addr).add j) = some u := by
 intro j u hj
 match j, hj with
 | 0, hj => simp at hj; subst hj; simp [Addr.add]
 | 1, hj => simp at hj; subst hj; simp [Addr.add]
 | 2, hj => simp at hj; subst hj; simp [Addr.add]
 | 3, hj => simp at hj; subst hj; simp [Addr.add]
 | j + 4, hj => simp at hj
theorem roomy_done {w w1 w2 : World} {n : Nat} {ws : List (Int × Int)} {v v2 : Value} {o : Obj} (hk : Kept (fun _ => False) w w1) (ho : ∀ x, v.ownBlock = some x → w.heap.size ≤ x)
  (hA : Appended (w1.alloc o) w2 152 2 v v2 n 2 (ws.flatMap wrC) [.int .i64 (-77), .int .i32 0, .int .i64 (-77), .int .i32 0]) :
  ∃ g cap, v2 = .slice (some ⟨g, 0, none⟩) (n + 2) cap ∧ n + 2 ≤ cap ∧ w.heap.size ≤ g ∧ Row w2 152 2 (.slice (some ⟨g, 0, none⟩) (n + 2) cap) (n + 2) ((ws ++ [farW, farW]).flatMap wrC) ∧ Kept (fun _ => False) w w2 := by
 have hA := hA.of_alloc
 have hrow := hA.row
 rcases hrow.shape with ⟨_, hn, _⟩ | ⟨g, cap, cur, hv, hb, hc, _⟩
 · omega
 · refine ⟨g, cap, hv, hc, ?_, ?_, hk.trans hA.kept (fun _ => id) (fun x hx he => ?_)⟩
  · have hg : v2.ownBlock = some g := by rw [hv]; rfl
   rcases hA.own with e | e
   · exact ho g (by rw [← e]; exact hg)
   · exact Nat.le_trans hk.size (e g hg)
  · rw [← hv]
   have e : (ws ++ [farW, farW]).flatMap wrC = ws.flatMap wrC ++ [.int .i64 (-77), .int .i32 0, .int .i64 (-77), .int .i32 0] := by simp [wrC, farW]
   rw [e]; exact hrow
  · have := ho x he; omega
theorem roomy_some (w : World) (a : Addr) (n cap : Nat) (ws : List (Int × Int)) (hw : Wr w (some a) n ws) (hreach : n * 16 ≤ 140737488351232) :
  Calls Tryz.prog 27 #[.slice (some a) n cap] w fun e w' => RoomyPost w n ws e w' := by
 have HW : Hid (Wr w (some a) n ws) := hw
 have hl := hw.len
 have hlc : (ws.flatMap wrC).length = n * 2 := by rw [flat_length wrC 2 (fun _ => rfl) ws, hl]
 obtain ⟨i0, hi, hz0, hz1, hz2⟩ := info_parts Tryz.infoWrite
 have HI : Hid (Tryz.prog.info? 152 = some i0 ∧ i0.zero = some (.agg #[.int .i64 0, .int .i32 0]) ∧ i0.size = 2 ∧ i0.bytes = 16) := ⟨hi, hz0, hz1, hz2⟩
 have HLC : Hid ((ws.flatMap wrC).length = n * 2) := hlc
 clear hi hz0 hz1 hz2 hw hlc
 have bm : n + 2 ≤ maxLen := by unfold maxLen; omega
 have bm0 : 0 + n ≤ maxLen := by unfold maxLen; omega
 have bb : (n + 2) * 16 ≤ 140737488355328 := by omega
 have bb0 : (0 + n) * 16 ≤ 140737488355328 := by omega
 go_enter Tryz.func27, Tryz.ntmps27
 go_wp2_with (first
  | (at_builtin; refine wpList_append_mine _ rfl (.tmp 4) (.tmp 5) 35 rfl 152 i0 (.agg #[.int .i64 0, .int .i32 0]) 2 16 Tryz.underlying35 HI.out.1 HI.out.2.1 HI.out.2.2.1 HI.out.2.2.2 rfl (by decide) (.slice none 0 0) 0 [] rfl (Row.nil _ _ _) a n cap (ws.flatMap wrC) rfl HLC.out HW.out.news (oneCell_wr ws) bm0 bb0 ?_; intro v1 w1 hA1; have H1 : Hid (Row w1 152 2 v1 n (ws.flatMap wrC) ∧ Kept (fun _ => False) w w1 ∧ (∀ x, v1.ownBlock = some x → w.heap.size ≤ x)) := ⟨by have := hA1.row; rw [Nat.zero_add, List.nil_append] at this; exact this, hA1.kept.mono (fun k hk => by simp [Value.ownBlock] at hk), fun x hx => hA1.own.elim (fun e => by rw [e] at hx; simp [Value.ownBlock] at hx) (fun e => e x hx)⟩; clear hA1)
  | (at_builtin; refine wpList_append_mine _ rfl (.tmp 7) (.tmp 10) 35 rfl 152 i0 (.agg #[.int .i64 0, .int .i32 0]) 2 16 Tryz.underlying35 HI.out.1 HI.out.2.1 HI.out.2.2.1 HI.out.2.2.2 rfl (by decide) _ n (ws.flatMap wrC) rfl (H1.out.1.kept (Kept.alloc _ _ (fun _ => False)) (fun _ _ => id)) ⟨w1.heap.size, 0, none⟩ 2 2 [.int .i64 (-77), .int .i32 0, .int .i64 (-77), .int .i32 0] rfl rfl (cell_four_new _ _ _ _ _ _) (oneCell_wr [farW, farW]) bm bb ?_; intro v2 w2 hA2; have H2 := roomy_done H1.out.2.1 H1.out.2.2 hA2; clear hA2; obtain ⟨g, cp, hv2, q1, q2, q3, q4⟩ := H2; have HQ : Hid (w.heap.size ≤ g ∧ Row w2 152 2 (.slice (some ⟨g, 0, none⟩) (n + 2) cp) (n + 2) ((ws ++ [farW, farW]).flatMap wrC) ∧ Kept (fun _ => False) w w2) := ⟨q2, q3, q4⟩; clear q2 q3 q4; subst hv2))
 go_ret
 exact ⟨g, cp, rfl, by omega, HQ.out.1, HQ.out.2.1, HQ.out.2.2⟩
theorem roomy_none (w : World) :
  Calls Tryz.prog 27 #[.slice none 0 0] w fun e w' => RoomyPost w 0 [] e w' := by
 obtain ⟨i0, hi, hz0, hz1, hz2⟩ := info_parts Tryz.infoWrite
 have HI : Hid (Tryz.prog.info? 152 = some i0 ∧ i0.zero = some (.agg #[.int .i64 0, .int .i32 0]) ∧ i0.size = 2 ∧ i0.bytes = 16) := ⟨hi, hz0, hz1, hz2⟩
 clear hi hz0 hz1 hz2
 go_enter Tryz.func27, Tryz.ntmps27
 go_wp2_with (first
  | (at_builtin; refine wpList_append_own_none rfl (.tmp 4) (.tmp 5) 35 rfl 0 152 i0 2 Tryz.underlying35 HI.out.1 (.slice none 0 0) 0 [] rfl (World.ownsRow_nil _ _ _ _) rfl ?_)
  | (at_builtin; refine wpList_append_mine _ rfl (.tmp 7) (.tmp 10) 35 rfl 152 i0 (.agg #[.int .i64 0, .int .i32 0]) 2 16 Tryz.underlying35 HI.out.1 HI.out.2.1 HI.out.2.2.1 HI.out.2.2.2 rfl (by decide) (.slice none 0 0) 0 [] rfl (Row.nil _ _ _) ⟨w.heap.size, 0, none⟩ 2 2 [.int .i64 (-77), .int .i32 0, .int .i64 (-77), .int .i32 0] rfl rfl (cell_four_new _ _ _ _ _ _) (oneCell_wr [farW, farW]) (by unfold maxLen; omega) (by omega) ?_; intro v2 w2 hA2; have H2 := roomy_done (w := w) (ws := []) (Kept.refl _ _) (fun x hx => by simp [Value.ownBlock] at hx) hA2; clear hA2; obtain ⟨g, cp, hv2, q1, q2, q3, q4⟩ := H2; have HQ : Hid (w.heap.size ≤ g ∧ Row w2 152 2 (.slice (some ⟨g, 0, none⟩) (0 + 2) cp) (0 + 2) (([] ++ [farW, farW]).flatMap wrC) ∧ Kept (fun _ => False) w w2) := ⟨q2, q3, q4⟩; clear q2 q3 q4; subst hv2))
 go_ret
 exact ⟨g, cp, rfl, by omega, HQ.out.1, HQ.out.2.1, HQ.out.2.2⟩
end Go.Proofs.YtpfcacedpkaihaaGreat
