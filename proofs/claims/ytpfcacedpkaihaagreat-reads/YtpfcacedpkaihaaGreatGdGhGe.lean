import Derived.Test.YtpfcacedpkaihaaGreatGaGbGc
import Derived.Deep.RegionWith
/- The document's Begin (package almanacref), walked. -/
namespace Go.Proofs.YtpfcacedpkaihaaGreat
open Go.RowKit
theorem openN_snoc (l : List RdrE) (j : Nat) (h : j < l.length) : openN (l.take (j + 1)) = openN (l.take j) + if l[j].ended then 0 else 1 := by
  rw [List.take_succ_eq_append_getElem h, openN, List.filter_append, List.length_append]
  cases hh : l[j].ended <;> simp [openN, hh]
theorem openN_le (l : List RdrE) (j : Nat) : openN (l.take j) ≤ l.length := by
  unfold openN
  exact Nat.le_trans (List.length_filter_le _ _) (by simp; omega)

theorem Tryz.infoReader : (Tryz.prog.info? 162).map (fun i => (i.zero, i.size, i.bytes)) = some (some (.agg #[.int .u64 0, .int .u64 0, .bool false]), 3, 24) := by kernel_rfl

/-- a reader begins. -/
def RefS.beginR (R : RefS) (lo : Nat) (v : Value) : RefS := { R with rdrs := R.rdrs ++ [⟨lo, R.past.length - 1, false⟩], vr := v }

theorem Ref.beginR {w w' : World} {b : Nat} {R : RefS} (h : Ref w b R) (lo : Nat) (v : Value) (hA : Appended w w' 162 3 R.vr v R.rdrs.length 1 (R.rdrs.flatMap rdrC) [.int .u64 (lo : Int), .int .u64 ((R.past.length - 1 : Nat) : Int), .bool false]) :
    Ref (w'.setCell ⟨b, 2, none⟩ v) b (R.beginR lo v) ∧ Kept (R.fp b) w (w'.setCell ⟨b, 2, none⟩ v) ∧ (∀ k, (R.beginR lo v).fp b k → R.fp b k ∨ w.heap.size ≤ k) := by
  refine h.put 1 2 ⟨162, 3, R.vr, R.rdrs.length, R.rdrs.flatMap rdrC⟩ ⟨162, 3, v, (R.rdrs ++ [(⟨lo, R.past.length - 1, false⟩ : RdrE)]).length, (R.rdrs ++ [(⟨lo, R.past.length - 1, false⟩ : RdrE)]).flatMap rdrC⟩ rfl hA.kept ?_ (fun x hx => hA.own.imp (fun e => by show R.vr.ownBlock = some x; rw [← e]; exact hx) (fun e => e x hx)) rfl (by dsimp only; decide) rfl
  show Row _ _ 3 v (R.rdrs ++ [_]).length ((R.rdrs ++ [_]).flatMap rdrC)
  rw [List.length_append, List.flatMap_append]
  exact hA.row

set_option maxHeartbeats 1000000 in
theorem rbegin_bad (w : World) (b : Nat) (limit : Int) (hl : limit < 0 ∨ 100000 < limit) :
    Calls Tryz.prog 35 #[.pointer (some ⟨b, 0, none⟩), .int .i64 limit] w fun e w' => e = .returned (.tuple #[.int .i64 0, .int .i64 10]) ∧ w = w' := by
  by_cases h0 : limit < 0
  · have hd : decide (limit < 0) = true := by simpa using h0
    go_enter Tryz.func35, Tryz.ntmps35
    go_wp2
    go_ret2
    exact ⟨rfl, rfl⟩
  · have hd : decide (limit < 0) = false := by simpa using h0
    have h1 : 100000 < limit := by omega
    go_enter Tryz.func35, Tryz.ntmps35
    go_wp2
    go_ret2
    exact ⟨rfl, rfl⟩

/-- the least stamp whose state was newest at some tick from one on. -/
def Least (l : List PastE) (tick : Int) (t : Nat) : Prop := t < l.length ∧ freshB l t tick = true ∧ ∀ i, i < t → freshB l i tick = false

def cellN (w : World) (a : Addr) : Nat := match w.cell? a with
  | some (.int _ n) => n.toNat
  | _ => 0

theorem Ref.drewN {w : World} {b : Nat} {R : RefS} (h : Ref w b R) (n : Nat) : Ref (w.drewN n) b R := h.same fun _ _ => rfl

theorem fresh_last (l : List PastE) (tick : Int) (t : Nat) (h : l.length ≤ t + 1) (ht : t < l.length) : freshB l t tick = true := by
  have : t = l.length - 1 := by omega
  simp [freshB, this]

theorem oneCell_rdr (a b : Int) (c : Bool) : ∀ u ∈ [Value.int .u64 a, Value.int .u64 b, Value.bool c], u.oneCell' = true := by
  intro u hu; simp at hu; rcases hu with rfl | rfl | rfl <;> rfl
theorem cell_three_new (w : World) (a b c : Value) (t : TypeId) : ∀ j u, [a, b, c][j]? = some u → (w.alloc (.cells #[a, b, c] t)).cell? ((⟨w.heap.size, 0, none⟩ : Addr).add j) = some u := by
  intro j u hj
  match j, hj with
  | 0, hj => simp at hj; subst hj; simp [Addr.add]
  | 1, hj => simp at hj; subst hj; simp [Addr.add]
  | 2, hj => simp at hj; subst hj; simp [Addr.add]
  | j + 3, hj => simp at hj

theorem begin_in {W w' : World} {b : Nat} {R : RefS} {v v' : Value} {news : List Value} {n : Nat} {xs : List Value} (h : Ref W b R) (hv : R.vr = v) (hA : Appended W w' 162 3 v v' n 1 xs news) :
    w'.cell? ⟨b, 2, none⟩ = some v ∧ w'.frozen? ⟨b, 2, none⟩ = false := by
  have nb : ¬ v.ownBlock = some b := fun e => h.rdrs.ne_block h.blk (by decide) (by rw [hv, e])
  have blk1 := h.blk.kept hA.kept nb
  exact ⟨by rw [blk1.cell 2, ← hv]; rfl, blk1.free 2⟩
theorem span_next {wr w : World} {j : Nat} {n : Int} {T : TypeId} (h : Blk wr w.heap.size T #[.int .u64 (j : Int), .int .u64 n]) (k : Kept (fun _ => False) w wr) :
    Blk (wr.setCell ⟨w.heap.size, 0, none⟩ (.int .u64 ((j : Int) + 1))) w.heap.size T #[.int .u64 ((j + 1 : Nat) : Int), .int .u64 n] ∧ Kept (fun _ => False) w (wr.setCell ⟨w.heap.size, 0, none⟩ (.int .u64 ((j : Int) + 1))) ∧
    cellN (wr.setCell ⟨w.heap.size, 0, none⟩ (.int .u64 ((j : Int) + 1))) ⟨w.heap.size, 0, none⟩ = j + 1 := by
  have hb := h.set 0 (.int .u64 ((j : Int) + 1))
  have e : (#[.int .u64 (j : Int), .int .u64 n] : Array Value).setIfInBounds 0 (.int .u64 ((j : Int) + 1)) = #[.int .u64 ((j + 1 : Nat) : Int), .int .u64 n] := by simp
  rw [e] at hb
  refine ⟨hb, k.trans (Kept.setCell _ _ _) (fun _ => id) (fun i hi he => by simp at he; omega), ?_⟩
  have hc := hb.cell 0
  simp at hc
  simp [cellN, hc]

/-- what Begin leaves, with a limit that may be. -/
def BeginPost (w : World) (b : Nat) (R : RefS) (limit : Int) (e : Ending) (w' : World) : Prop :=
      (6 ≤ openN R.rdrs ∧ e = .returned (.tuple #[.int .i64 0, .int .i64 7]) ∧ w = w') ∨
      (openN R.rdrs < 6 ∧ 200 ≤ R.rdrs.length ∧ e = .returned (.tuple #[.int .i64 0, .int .i64 6]) ∧ w = w') ∨
      (openN R.rdrs < 6 ∧ R.rdrs.length < 200 ∧ ∃ lo v, Least R.past (R.clock - limit) lo ∧ e = .returned (.tuple #[.int .i64 (R.rdrs.length : Int), .int .i64 0]) ∧ Ref w' b (R.beginR lo v) ∧ Kept (R.fp b) w w' ∧
        (∀ k, (R.beginR lo v).fp b k → R.fp b k ∨ w.heap.size ≤ k))

set_option maxRecDepth 100000 in
set_option maxHeartbeats 4000000 in
theorem rbegin (w : World) (b : Nat) (R : RefS) (limit : Int) (h : Ref w b R) (hf : R.Fit) (hl0 : 0 ≤ limit) (hl1 : limit ≤ 100000) :
    Calls Tryz.prog 35 #[.pointer (some ⟨b, 0, none⟩), .int .i64 limit] w fun e w' => BeginPost w b R limit e w' := by
  have hm := hf.rmax
  have hc0 := hf.clk0
  have hc1 := hf.clk1
  obtain ⟨ao, cap, hv, hno⟩ := h.rdrs.form
  have c2 := h.c2
  rw [hv] at c2
  have HR : Hid (Ref w b R) := h
  have HF : Hid R.Fit := hf
  have HV : Hid (R.vr = .slice ao R.rdrs.length cap) := hv
  have HCELL : Hid (∀ k (hk : k < R.rdrs.length), ∃ g, ao = some ⟨g, 0, none⟩ ∧ w.cell? ⟨g, k * 3 + 2, none⟩ = some (.bool R.rdrs[k].ended)) := by
    intro k hk
    obtain ⟨g, cap', hv', ho, _⟩ := h.rdrs.block (by omega)
    rw [hv] at hv'
    injection hv' with e1 _ _
    exact ⟨g, e1, h.rdrs.cell ho (k * 3 + 2) _ (by rw [rdr_at R.rdrs k hk 2 (by omega)]; rfl)⟩
  clear h hf hv hno
  go_enter Tryz.func35, Tryz.ntmps35
  go_wp2
  go_loop [6, 7] (fun n i => ∃ k : Nat, k ≤ R.rdrs.length ∧ i = .int .i64 k ∧ n = .int .i64 (openN (R.rdrs.take k) : Nat)) (fun _ i => R.rdrs.length - (intOf i).toNat)
  case atStart => exact ⟨0, Nat.zero_le _, rfl, rfl⟩
  case round =>
    obtain ⟨k, hk, rfl, rfl⟩ := hrel
    have ho := openN_le R.rdrs k
    by_cases hlt : k < R.rdrs.length
    · obtain ⟨g, hg, hcell⟩ := HCELL.out k hlt
      have hs := openN_snoc R.rdrs k hlt
      cases hen : R.rdrs[k].ended with
      | true =>
        rw [hen] at hcell
        have HS : Hid (openN (R.rdrs.take (k + 1)) = openN (R.rdrs.take k)) := by show _ = _; rw [hen] at hs; simpa using hs
        clear hs hen
        rw [hg] at c2
        go_wp2
        go_round
        case rel => exact ⟨k + 1, by omega, by go_num, by rw [HS.out]⟩
        case measure => simp [intOf]; omega
      | false =>
        rw [hen] at hcell
        have HS : Hid (openN (R.rdrs.take (k + 1)) = openN (R.rdrs.take k) + 1) := by show _ = _; rw [hen] at hs; simpa using hs
        clear hs hen
        rw [hg] at c2
        go_wp2
        go_round
        case rel => exact ⟨k + 1, by omega, by go_num, by rw [HS.out]; go_num⟩
        case measure => simp [intOf]; omega
    · have hk' : k = R.rdrs.length := by omega
      subst hk'
      rw [List.take_length] at ho ⊢
      by_cases h6 : 6 ≤ openN R.rdrs
      · go_wp2
        go_ret2
        exact .inl ⟨h6, rfl, rfl⟩
      · by_cases h200 : 200 ≤ R.rdrs.length
        · go_wp2
          go_ret2
          exact .inr (.inl ⟨by omega, h200, rfl, rfl⟩)
        · go_wp2_with (go_at_call 77; refine (rnewest _ b R HR.out HF.out).mono ?_; rintro e w' ⟨rfl, rfl⟩)
          have hp1 := HF.out.pmax
          have hp0 := HF.out.pos
          obtain ⟨i0, hi, hz0, hz1, hz2⟩ := info_parts Tryz.infoReader
          have HI : Hid (Tryz.prog.info? 162 = some i0 ∧ i0.zero = some (.agg #[.int .u64 0, .int .u64 0, .bool false]) ∧ i0.size = 3 ∧ i0.bytes = 24) := ⟨hi, hz0, hz1, hz2⟩
          clear hi hz0 hz1 hz2
          go_loopw [9] (fun _ wr => ∃ j : Nat, j < R.past.length ∧ Hid (∀ i, i < j → freshB R.past i (R.clock - limit) = false) ∧ Hid (Blk wr w.heap.size 88 #[.int .u64 (j : Int), .int .u64 ((R.past.length - 1 : Nat) : Int)]) ∧ Hid (Kept (fun _ => False) w wr) ∧ w.heap.size < wr.heap.size)
            (fun _ wr => R.past.length - cellN wr ⟨w.heap.size, 0, none⟩)
          case atStart => exact ⟨0, hp0, fun i hi => absurd hi (Nat.not_lt_zero _), Blk.new _ _ _, Kept.alloc _ _ _, by simp⟩
          case round =>
            obtain ⟨j, hj, HFr, HB, HK, hz⟩ := hrel
            have HRr : Hid (Ref wr b R) := HR.out.kept HK.out (fun _ _ => id)
            have q0 := HB.out.cell 0
            have q1 := HB.out.cell 1
            have qf := HB.out.free 0
            simp at q0 q1
            have d1 := HRr.out.c1
            have d2 := HRr.out.c2
            rw [HV.out] at d2
            have HFC := fun n => rfresh (wr.drewN n) b R j (R.clock - limit) (HRr.out.drewN n) HF.out hj
            have hms : cellN wr ⟨w.heap.size, 0, none⟩ = j := by simp [cellN, q0]
            clear c2
            cases hfr : freshB R.past j (R.clock - limit) with
            | true =>
              rw [hfr] at HFC
              have HC : Hid (∀ n, Calls Tryz.prog 84 #[.pointer (some ⟨b, 0, none⟩), .int .u64 j, .int .i64 (R.clock - limit)] (wr.drewN n) fun e w' => e = .returned (.bool true) ∧ w' = wr.drewN n) := fun n => (HFC n).mono fun _ _ h => ⟨h.1, h.2.symm⟩
              have HL : Hid (freshB R.past j (R.clock - limit) = true) := hfr
              clear HFC hfr hms
              go_wp2_with fail
              go_quiet ((go_at_call 84; exact Calls.quiet_of_same (HC.out _)))
              go_wp2
              have HRW : Hid (∀ W : World, (∀ k, k < wr.heap.size → W.heap[k]? = wr.heap[k]?) → Ref W b R) := fun W hW => HRr.out.same fun k hk => hW k (HRr.out.lt k hk)
              have hbb : b < wr.heap.size := HRr.out.blk.lt
              have HOwn : Hid (∀ W : World, (∀ k, k < wr.heap.size → W.heap[k]? = wr.heap[k]?) → Row W 162 3 (.slice ao R.rdrs.length cap) R.rdrs.length (R.rdrs.flatMap rdrC)) := fun W hW => by rw [← HV.out]; exact (HRW.out W hW).rdrs
              have b1 : R.rdrs.length + 1 ≤ maxLen := by unfold maxLen; omega
              have b2 : (R.rdrs.length + 1) * 24 ≤ 140737488355328 := by omega
              have HALL : Hid (∀ (m : Nat) (o : Obj) (k : Nat), k < wr.heap.size → ((wr.drewN m).alloc o).heap[k]? = wr.heap[k]?) := fun m o k hk => Below.heap_alloc (wr.drewN m) o k hk
              have dA : ∀ (m : Nat) (o : Obj), ((wr.drewN m).alloc o).cell? ⟨b, 2, none⟩ = some (.slice ao R.rdrs.length cap) := fun m o => by rw [(HRW.out _ (HALL.out m o)).c2, HV.out]
              go_region_law (refine step_append_mine rfl (.tmp 66) (.tmp 69) 81 rfl 162 i0 (.agg #[.int .u64 0, .int .u64 0, .bool false]) 3 24 Tryz.underlying81 HI.out.1 HI.out.2.1 HI.out.2.2.1 HI.out.2.2.2 rfl (Nat.succ_pos 2) (.slice ao R.rdrs.length cap) R.rdrs.length (R.rdrs.flatMap rdrC) rfl (HOwn.out _ (HALL.out _ _)) ⟨wr.heap.size, 0, none⟩ 1 1 [.int .u64 j, .int .u64 ((R.past.length - 1 : Nat) : Int), .bool false] rfl rfl (cell_three_new (wr.drewN _) _ _ _ _) (oneCell_rdr _ _ _) b1 b2 ?_; intro v' w' hA; obtain ⟨k2, k2f⟩ := begin_in (HRW.out _ (HALL.out _ _)) HV.out hA; obtain ⟨ao', cap', hv', _⟩ := hA.row.form; subst hv')
              all_goals
                rw [← HV.out] at hA
                obtain ⟨z1, z2, z3⟩ := Ref.beginR (HRW.out _ (HALL.out _ _)) j _ hA
                have HZ : Hid (Ref (w'.setCell ⟨b, 2, none⟩ (.slice ao' (R.rdrs.length + 1) cap')) b (R.beginR j (.slice ao' (R.rdrs.length + 1) cap')) ∧ Kept (R.fp b) w (w'.setCell ⟨b, 2, none⟩ (.slice ao' (R.rdrs.length + 1) cap')) ∧ (∀ k, (R.beginR j (.slice ao' (R.rdrs.length + 1) cap')).fp b k → R.fp b k ∨ w.heap.size ≤ k)) := by
                  refine ⟨z1, ((HK.out.drewN _).trans (Kept.alloc _ _ (fun _ => False)) (fun _ => id) (fun _ _ => id)).trans z2 (fun _ => False.elim) (fun _ _ => id), fun k hk => (z3 k hk).imp id fun hh => ?_⟩
                  simp only [World.size_alloc] at hh
                  have h2 := HK.out.size
                  have h3 : wr.heap.size + 1 ≤ k := hh
                  omega
                clear z1 z2 z3 hA dA d1 d2 q0 q1 qf
                go_wp2
                go_ret2
                exact .inr (.inr ⟨by omega, by omega, j, _, ⟨hj, HL.out, HFr.out⟩, rfl, HZ.out⟩)
            | false =>
              rw [hfr] at HFC
              have HC : Hid (∀ n, Calls Tryz.prog 84 #[.pointer (some ⟨b, 0, none⟩), .int .u64 j, .int .i64 (R.clock - limit)] (wr.drewN n) fun e w' => e = .returned (.bool false) ∧ w' = wr.drewN n) := fun n => (HFC n).mono fun _ _ h => ⟨h.1, h.2.symm⟩
              have hjl : j + 1 < R.past.length := by
                by_cases hh : j + 1 < R.past.length
                · exact hh
                · rw [fresh_last R.past _ j (by omega) hj] at hfr; cases hfr
              have HL : Hid (freshB R.past j (R.clock - limit) = false) := hfr
              have HMS : Hid (cellN wr ⟨w.heap.size, 0, none⟩ = j) := hms
              clear HFC hfr hms
              go_wp2_with fail
              go_quiet ((go_at_call 84; exact Calls.quiet_of_same (HC.out _)))
              go_wp2
              obtain ⟨s1, s2, s3⟩ := span_next (wr := wr.drewN nq) (HB.out.same rfl) (HK.out.drewN _)
              go_roundw
              case rel =>
                refine ⟨j + 1, hjl, fun i hi => ?_, s1, s2, by simpa using hz⟩
                by_cases he : i = j
                · rw [he]; exact HL.out
                · exact HFr.out i (by omega)
              case measure => rw [s3, HMS.out]; omega

end Go.Proofs.YtpfcacedpkaihaaGreat

/- The document's Commit (package almanacref), walked as far as the new state. -/
namespace Go.Proofs.YtpfcacedpkaihaaGreat
open Go.RowKit
set_option maxHeartbeats 400000 in
theorem rcommit_long (w : World) (b : Nat) (ao : Option Addr) (n cap : Nat) (hn : 8 < n) (hm : n ≤ maxLen) :
    Calls Tryz.prog 29 #[.pointer (some ⟨b, 0, none⟩), .slice ao n cap] w fun e w' => e = .returned (.tuple #[.int .u64 0, .int .i64 3]) ∧ w = w' := by
  unfold maxLen at hm
  go_enter Tryz.func29, Tryz.ntmps29
  go_wp2
  go_ret2
  exact ⟨rfl, rfl⟩

def KeyPost (w : World) (e : Ending) (w' : World) : Prop := e = .returned (.tuple #[.int .u64 0, .int .i64 5]) ∧ w = w'

set_option maxRecDepth 100000 in
set_option maxHeartbeats 1000000 in
theorem rcommit_key (w : World) (b : Nat) (ao : Option Addr) (n cap : Nat) (ws : List (Int × Int)) (hw : Wr w ao n ws) (hn : n ≤ 8) (hk : ws.all keyOk = false) :
    Calls Tryz.prog 29 #[.pointer (some ⟨b, 0, none⟩), .slice ao n cap] w fun e w' => KeyPost w e w' := by
  have HW : Hid (Wr w ao n ws) := hw
  have HB : Hid (ws.all keyOk = false) := hk
  have hl := hw.len
  clear hw hk
  go_enter Tryz.func29, Tryz.ntmps29
  go_wp2
  go_loop [6] (fun i => ∃ k : Nat, k ≤ n ∧ i = .int .i64 k ∧ Hid (∀ j (h : j < ws.length), j < k → keyOk ws[j] = true)) (fun i => n - (intOf i).toNat)
  case atStart => exact ⟨0, Nat.zero_le _, rfl, fun j _ hj => absurd hj (Nat.not_lt_zero _)⟩
  case round =>
    obtain ⟨k, hkn, rfl, HP⟩ := hrel
    by_cases hlt : k < n
    · have hlt' : k < ws.length := by omega
      obtain ⟨bl, off, hao, c0, _⟩ := HW.out.cell k hlt'
      obtain ⟨x, hx⟩ : ∃ x, x = ws[k].1 := ⟨_, rfl⟩
      rw [← hx] at c0
      have HX : Hid (keyOk ws[k] = (decide (0 ≤ x) && decide (x < 8))) := by simp [Hid, keyOk, hx]
      have HAO : Hid (ao = some ⟨bl, off, none⟩) := hao
      subst hao
      clear hx
      by_cases h0 : x < 0
      · have hd : decide (x < 0) = true := by simpa using h0
        go_wp2
        go_ret2
        exact ⟨rfl, rfl⟩
      · have hd : decide (x < 0) = false := by simpa using h0
        by_cases h8 : 8 ≤ x
        · go_wp2
          go_ret2
          exact ⟨rfl, rfl⟩
        · go_wp2
          go_round
          case rel =>
            refine ⟨k + 1, by omega, by go_num, fun j hj hjk => ?_⟩
            by_cases e : j = k
            · subst e; rw [HX.out]; simp; omega
            · exact HP.out j hj (by omega)
          case measure => simp [intOf]; omega
    · exfalso
      have : ws.all keyOk = true := by
        rw [List.all_eq_true]
        intro y hy
        obtain ⟨j, hj, rfl⟩ := List.getElem_of_mem hy
        exact HP.out j hj (by omega)
      rw [HB.out] at this
      cases this

end Go.Proofs.YtpfcacedpkaihaaGreat

/- The document's fall (package almanacref), walked; what the change of one node leaves of a world. -/
namespace Go.Proofs.YtpfcacedpkaihaaGreat
open Go.RowKit

/-- a node that has fallen. -/
def zeroN : NodeE := ⟨false, 0, 0, .slice none 0 0, .slice none 0 0, .slice none 0 0, .slice none 0 0, [], [], [], []⟩

theorem nilD (w : World) (T size : Nat) : RowD.Is w ⟨T, size, .slice none 0 0, 0, []⟩ := Row.nil w T size

theorem Ref.putZero {w w' : World} {b k : Nat} {R : RefS} {nd : NodeE} (h : Ref w b R) (hnd : R.nodes[k]? = some nd) (kn : Kept (fun j => R.vn.ownBlock = some j) w w')
    (hn : Row w' 146 7 R.vn (R.nodes.set k zeroN).length ((R.nodes.set k zeroN).flatMap nodeC)) : Ref w' b (R.putN k zeroN) := by
  obtain ⟨hk, hnd'⟩ := List.getElem?_eq_some_iff.mp hnd
  have nown : ∀ (r : RowD) (x : Nat), (Value.slice none 0 0).ownBlock = some x → r.v.ownBlock = some x ∨ w.heap.size ≤ x := fun _ x hx => by simp [Value.ownBlock] at hx
  have g0 : R.rows[(k * 4 + 0) + 5]? = _ := rows_at hnd 0 (by omega)
  have g1 : R.rows[(k * 4 + 1) + 5]? = _ := rows_at hnd 1 (by omega)
  have g2 : R.rows[(k * 4 + 2) + 5]? = _ := rows_at hnd 2 (by omega)
  have g3 : R.rows[(k * 4 + 3) + 5]? = _ := rows_at hnd 3 (by omega)
  have a0 := h.all.put _ _ ⟨53, 1, .slice none 0 0, 0, []⟩ g0 (Kept.refl _ w) (nilD w _ _) (nown _)
  have a1 := a0.put ((k * 4 + 1) + 5) _ ⟨53, 1, .slice none 0 0, 0, []⟩ (by rw [List.getElem?_set_ne (by omega)]; exact g1) (Kept.refl _ w) (nilD w _ _) (nown _)
  have a2 := a1.put ((k * 4 + 2) + 5) _ ⟨55, 6, .slice none 0 0, 0, []⟩ (by rw [List.getElem?_set_ne (by omega), List.getElem?_set_ne (by omega)]; exact g2) (Kept.refl _ w) (nilD w _ _) (nown _)
  have a3 := a2.put ((k * 4 + 3) + 5) _ ⟨3, 1, .slice none 0 0, 0, []⟩ (by rw [List.getElem?_set_ne (by omega), List.getElem?_set_ne (by omega), List.getElem?_set_ne (by omega)]; exact g3) (Kept.refl _ w) (nilD w _ _) (nown _)
  have a4 := a3.put 2 R.nodeD (R.putN k zeroN).nodeD (by rw [List.getElem?_set_ne (by omega), List.getElem?_set_ne (by omega), List.getElem?_set_ne (by omega), List.getElem?_set_ne (by omega)]; rfl) kn hn (fun x hx => .inl hx)
  have s0 := flat_set nodeR 4 (fun _ => rfl) R.nodes k hk 0 (by omega) ⟨53, 1, .slice none 0 0, 0, []⟩ { nd with fl := .slice none 0 0, fls := [] } (by rw [hnd']; rfl)
  have s1 := flat_set nodeR 4 (fun _ => rfl) (R.nodes.set k { nd with fl := .slice none 0 0, fls := [] }) k (by simpa using hk) 1 (by omega) ⟨53, 1, .slice none 0 0, 0, []⟩ { nd with fl := .slice none 0 0, fls := [], wt := .slice none 0 0, wts := [] } (by rw [List.getElem_set_self]; rfl)
  have s2 := flat_set nodeR 4 (fun _ => rfl) (R.nodes.set k { nd with fl := .slice none 0 0, fls := [], wt := .slice none 0 0, wts := [] }) k (by simpa using hk) 2 (by omega) ⟨55, 6, .slice none 0 0, 0, []⟩ { nd with fl := .slice none 0 0, fls := [], wt := .slice none 0 0, wts := [], en := .slice none 0 0, ents := [] } (by rw [List.getElem_set_self]; rfl)
  have s3 := flat_set nodeR 4 (fun _ => rfl) (R.nodes.set k { nd with fl := .slice none 0 0, fls := [], wt := .slice none 0 0, wts := [], en := .slice none 0 0, ents := [] }) k (by simpa using hk) 3 (by omega) ⟨3, 1, .slice none 0 0, 0, []⟩ zeroN (by rw [List.getElem_set_self]; rfl)
  rw [List.set_set] at s1 s2 s3
  have er : (R.putN k zeroN).rows = ((((R.rows.set ((k * 4 + 0) + 5) ⟨53, 1, .slice none 0 0, 0, []⟩).set ((k * 4 + 1) + 5) ⟨53, 1, .slice none 0 0, 0, []⟩).set ((k * 4 + 2) + 5) ⟨55, 6, .slice none 0 0, 0, []⟩).set ((k * 4 + 3) + 5) ⟨3, 1, .slice none 0 0, 0, []⟩).set 2 (R.putN k zeroN).nodeD := by
    show _ :: _ :: _ :: _ :: _ :: (R.nodes.set k zeroN).flatMap nodeR = _ :: _ :: _ :: _ :: _ :: ((((R.nodes.flatMap nodeR).set (k * 4 + 0) _).set (k * 4 + 1) _).set (k * 4 + 2) _).set (k * 4 + 3) _
    rw [s0, s1, s2, s3]; rfl
  exact ⟨h.blk.kept kn fun he => h.nodes.ne_block h.blk (by decide) he, by rw [er]; exact a4⟩

theorem node_put {l : List NodeE} {k : Nat} (hk : k < l.length) (nd : NodeE) :
    (((((((l.flatMap nodeC).set (k * 7) (.bool nd.up)).set (k * 7 + 1) (.int .u64 (nd.since : Int))).set (k * 7 + 2) (.int .u64 (nd.horizon : Int))).set (k * 7 + 3) nd.fl).set (k * 7 + 4) nd.wt).set (k * 7 + 5) nd.en).set (k * 7 + 6) nd.nm = (l.set k nd).flatMap nodeC := by
  obtain ⟨y, hy⟩ : ∃ y, y = l[k] := ⟨_, rfl⟩
  have s0 := flat_set nodeC 7 (fun _ => rfl) l k hk 0 (by omega) (.bool nd.up) { y with up := nd.up } (by rw [← hy]; rfl)
  have s1 := flat_set nodeC 7 (fun _ => rfl) (l.set k { y with up := nd.up }) k (by simpa using hk) 1 (by omega) (.int .u64 (nd.since : Int)) { y with up := nd.up, since := nd.since } (by rw [List.getElem_set_self]; rfl)
  have s2 := flat_set nodeC 7 (fun _ => rfl) (l.set k { y with up := nd.up, since := nd.since }) k (by simpa using hk) 2 (by omega) (.int .u64 (nd.horizon : Int)) { y with up := nd.up, since := nd.since, horizon := nd.horizon } (by rw [List.getElem_set_self]; rfl)
  have s3 := flat_set nodeC 7 (fun _ => rfl) (l.set k { y with up := nd.up, since := nd.since, horizon := nd.horizon }) k (by simpa using hk) 3 (by omega) nd.fl { y with up := nd.up, since := nd.since, horizon := nd.horizon, fl := nd.fl } (by rw [List.getElem_set_self]; rfl)
  have s4 := flat_set nodeC 7 (fun _ => rfl) (l.set k { y with up := nd.up, since := nd.since, horizon := nd.horizon, fl := nd.fl }) k (by simpa using hk) 4 (by omega) nd.wt { y with up := nd.up, since := nd.since, horizon := nd.horizon, fl := nd.fl, wt := nd.wt } (by rw [List.getElem_set_self]; rfl)
  have s5 := flat_set nodeC 7 (fun _ => rfl) (l.set k { y with up := nd.up, since := nd.since, horizon := nd.horizon, fl := nd.fl, wt := nd.wt }) k (by simpa using hk) 5 (by omega) nd.en { y with up := nd.up, since := nd.since, horizon := nd.horizon, fl := nd.fl, wt := nd.wt, en := nd.en } (by rw [List.getElem_set_self]; rfl)
  have s6 := flat_set nodeC 7 (fun _ => rfl) (l.set k { y with up := nd.up, since := nd.since, horizon := nd.horizon, fl := nd.fl, wt := nd.wt, en := nd.en }) k (by simpa using hk) 6 (by omega) nd.nm nd (by rw [List.getElem_set_self]; rfl)
  rw [Nat.add_zero] at s0
  rw [List.set_set] at s1 s2 s3 s4 s5 s6
  rw [s0, s1, s2, s3, s4, s5, s6]

set_option maxHeartbeats 1000000 in
theorem rfall (w : World) (b : Nat) (R : RefS) (k : Nat) (h : Ref w b R) (hm : R.nodes.length ≤ 3) (hk : k < R.nodes.length) :
    Calls Tryz.prog 123 #[.pointer (some ⟨b, 0, none⟩), .int .i64 k] w fun e w' => e = .returned (.tuple #[]) ∧ Ref w' b (R.putN k zeroN) ∧ Kept (fun j => R.vn.ownBlock = some j) w w' := by
  obtain ⟨g, cap, hv, ho, hgl⟩ := h.nodes.block (by omega)
  have c3 := h.c3
  rw [hv] at c3
  have a0 := h.nodes.cell ho (k * 7) _ (by have := node_at R.nodes k hk 0 (by omega); rw [Nat.add_zero] at this; rw [this]; rfl)
  have a1 := h.nodes.cell ho (k * 7 + 1) _ (by rw [node_at R.nodes k hk 1 (by omega)]; rfl)
  have a2 := h.nodes.cell ho (k * 7 + 2) _ (by rw [node_at R.nodes k hk 2 (by omega)]; rfl)
  have a3 := h.nodes.cell ho (k * 7 + 3) _ (by rw [node_at R.nodes k hk 3 (by omega)]; rfl)
  have a4 := h.nodes.cell ho (k * 7 + 4) _ (by rw [node_at R.nodes k hk 4 (by omega)]; rfl)
  have a5 := h.nodes.cell ho (k * 7 + 5) _ (by rw [node_at R.nodes k hk 5 (by omega)]; rfl)
  have a6 := h.nodes.cell ho (k * 7 + 6) _ (by rw [node_at R.nodes k hk 6 (by omega)]; rfl)
  have f0 := h.nodes.free ho (k * 7)
  have f1 := h.nodes.free ho (k * 7 + 1)
  have f2 := h.nodes.free ho (k * 7 + 2)
  have f3 := h.nodes.free ho (k * 7 + 3)
  have f4 := h.nodes.free ho (k * 7 + 4)
  have f5 := h.nodes.free ho (k * 7 + 5)
  have f6 := h.nodes.free ho (k * 7 + 6)
  have r0 := (((((((h.nodes.set ho (k * 7) (.bool false)).set ho (k * 7 + 1) (.int .u64 0)).set ho (k * 7 + 2) (.int .u64 0)).set ho (k * 7 + 3) (.slice none 0 0)).set ho (k * 7 + 4) (.slice none 0 0)).set ho (k * 7 + 5) (.slice none 0 0)).set ho (k * 7 + 6) (.slice none 0 0))
  have e0 := node_put hk zeroN
  have k0 : Kept (fun j => R.vn.ownBlock = some j) w (((((((w.setCell ⟨g, k * 7, none⟩ (.bool false)).setCell ⟨g, k * 7 + 1, none⟩ (.int .u64 0)).setCell ⟨g, k * 7 + 2, none⟩ (.int .u64 0)).setCell ⟨g, k * 7 + 3, none⟩ (.slice none 0 0)).setCell ⟨g, k * 7 + 4, none⟩ (.slice none 0 0)).setCell ⟨g, k * 7 + 5, none⟩ (.slice none 0 0)).setCell ⟨g, k * 7 + 6, none⟩ (.slice none 0 0)) := by
    have one : ∀ (u : World) (o : Nat) (v : Value), Kept (fun j => R.vn.ownBlock = some j) u (u.setCell ⟨g, o, none⟩ v) := fun u o v => (Kept.setCell u _ _).mono fun j hj => by rw [ho, hj]
    have tr : ∀ {a b c : World}, Kept (fun j => R.vn.ownBlock = some j) a b → Kept (fun j => R.vn.ownBlock = some j) b c → Kept (fun j => R.vn.ownBlock = some j) a c := fun p q => p.trans q (fun _ => id) (fun _ _ => id)
    exact tr (tr (tr (tr (tr (tr (one _ _ _) (one _ _ _)) (one _ _ _)) (one _ _ _)) (one _ _ _)) (one _ _ _)) (one _ _ _)
  have HZ := h.putZero (List.getElem?_eq_getElem hk) k0 (by rw [List.length_set, ← e0]; exact r0)
  have HZ' : Hid (Ref (((((((w.setCell ⟨g, k * 7, none⟩ (.bool false)).setCell ⟨g, k * 7 + 1, none⟩ (.int .u64 0)).setCell ⟨g, k * 7 + 2, none⟩ (.int .u64 0)).setCell ⟨g, k * 7 + 3, none⟩ (.slice none 0 0)).setCell ⟨g, k * 7 + 4, none⟩ (.slice none 0 0)).setCell ⟨g, k * 7 + 5, none⟩ (.slice none 0 0)).setCell ⟨g, k * 7 + 6, none⟩ (.slice none 0 0)) b (R.putN k zeroN)) := HZ
  have HK : Hid (Kept (fun j => R.vn.ownBlock = some j) w (((((((w.setCell ⟨g, k * 7, none⟩ (.bool false)).setCell ⟨g, k * 7 + 1, none⟩ (.int .u64 0)).setCell ⟨g, k * 7 + 2, none⟩ (.int .u64 0)).setCell ⟨g, k * 7 + 3, none⟩ (.slice none 0 0)).setCell ⟨g, k * 7 + 4, none⟩ (.slice none 0 0)).setCell ⟨g, k * 7 + 5, none⟩ (.slice none 0 0)).setCell ⟨g, k * 7 + 6, none⟩ (.slice none 0 0))) := k0
  clear r0 e0 k0 HZ h hv ho
  go_enter Tryz.func123, Tryz.ntmps123
  go_wp2
  go_end0
  exact ⟨rfl, HZ'.out, HK.out⟩

end Go.Proofs.YtpfcacedpkaihaaGreat
