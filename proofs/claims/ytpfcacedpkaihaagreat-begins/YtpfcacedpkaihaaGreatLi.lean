/- The law's commit (package almanaclaw), walked: its two ways. -/
import Derived.Test.YtpfcacedpkaihaaGreatLaLbLh
import Derived.BigQuiet
namespace Go.Proofs.YtpfcacedpkaihaaGreat
open Go.RowKit

/-- what is known behind roomy. -/
structure Roomed (W w1 : World) (n g cp : Nat) (ws : List (Int × Int)) : Prop where
  room : n + 2 ≤ cp
  new : W.heap.size ≤ g
  left : Left w1 w1 g 0 (ws ++ [farW, farW])
  most : cp ≤ maxLen
  kept : Kept (fun _ => False) W w1

theorem roomed_call {W : World} {xb cb : Nat} {D : DevS} {R : RefS} {ao : Option Addr} {n cap : Nat} {ws : List (Int × Int)} (h : Pair W xb cb D R) (hu : R.uses.length < 9223372036854775807) (hw : Wr W ao n ws) (hreach : n * 16 ≤ 140737488351232) (hno : ao = none → n = 0 ∧ cap = 0)
    (hfar : 0 < n → ∀ a, ao = some a → ¬ pfp xb cb D R a.block) (hwb : BdW ws) :
    Calls Tryz.prog 27 #[.slice ao n cap] W fun e w1 => ∃ (g cp : Nat) (x y : Int), e = .returned (.slice (some ⟨g, 0, none⟩) n cp) ∧ Hid (Roomed W w1 n g cp ws) ∧
      Hid (Calls Tryz.prog 28 #[.pointer (some ⟨xb, 0, none⟩), .slice (some ⟨g, 0, none⟩) n cp] w1 fun e w2 => e = .returned (.tuple #[.int .u64 x, .int .i64 y]) ∧
        Hid (Then 29 #[.pointer (some ⟨cb, 0, none⟩), .slice ao n cap] w1 w2 xb cb D R (.tuple #[.int .u64 x, .int .i64 y]))) := by
  refine (roomy_any W ao n cap ws hw hreach hno).mono fun e w1 hp => ?_
  obtain ⟨g, cp, e1, hcp, hg, hrow, hk⟩ := hp
  obtain ⟨hwr, hleft, hm⟩ := roomy_use hw.len hrow
  have hn : n ≤ maxLen := by unfold maxLen; omega
  obtain ⟨x, y, hc⟩ := pair_commit (h.kept hk fun _ _ => id) hu (some ⟨g, 0, none⟩) ao n cp cap ws hwr (hw.kept hk fun _ _ => id) hn (fun hn a ha hd => hfar hn a ha (.inl hd)) hwb
  exact ⟨g, cp, x, y, e1, ⟨hcp, hg, hleft, hm, hk⟩, hc⟩

theorem still_there {w wc W w1 w3 : World} {xb cb pb g n cp cap : Nat} {D : DevS} {R : RefS} {ao : Option Addr} {ws : List (Int × Int)} (hfar : 0 < n → ∀ a, ao = some a → ¬ pfp xb cb D R a.block ∧ a.block ≠ pb ∧ a.block < wc.heap.size) (hlt : ∀ i, pfp xb cb D R i → i < w.heap.size)
    (hsz : wc.heap.size = w.heap.size) (hw : Wr wc ao n ws) (kW : Kept (fun _ => False) wc W) (hro : Roomed W w1 n g cp ws) (ht : Turned w1 w3 xb cb D R) : Hid (Calls Tryz.prog 30 #[.slice (some ⟨g, 0, none⟩) n cp, .slice ao n cap] w3 fun e w4 => StillPost w3 g e w4) := by
  obtain ⟨_, _, _, hk, _⟩ := ht
  have hg : wc.heap.size ≤ g := Nat.le_trans kW.size hro.new
  have hwr : Wr w3 ao n ws := ((hw.kept kW fun _ _ => id).kept hro.kept fun _ _ => id).kept' hk fun hn a ha => (hfar hn a ha).1
  exact still_any w3 g n cp ao cap ws hwr (fun hn a ha => by have := (hfar hn a ha).2.2; omega) hro.room hro.most (hro.left.kept' hk fun hp => by have := hlt g hp; omega)

set_option maxRecDepth 100000 in
set_option maxHeartbeats 1000000 in
theorem lcommit (w : World) (pb xb cb : Nat) (a b c : Int) (s : ByteArray) (ao : Option Addr) (n cap : Nat) (ws : List (Int × Int)) (D : DevS) (R : RefS) (vps b0 b1 b2 : Value) (commits most : Int) (h : Pair w xb cb D R) (hu : R.uses.length < 9223372036854775807)
    (hblk : Blk w pb 34 (playC vps b0 b1 b2 commits most)) (hpb : ¬ pfp xb cb D R pb) (hc0 : 0 ≤ commits) (hc1 : commits ≤ 4611686018427387904) (hw : Wr w ao n ws) (hreach : n * 16 ≤ 140737488351232) (hno : ao = none → n = 0 ∧ cap = 0)
    (hfar : 0 < n → ∀ a, ao = some a → ¬ pfp xb cb D R a.block ∧ a.block ≠ pb ∧ a.block < w.heap.size) (hwb : BdW ws) :
    Calls Tryz.prog 14 #[.pointer (some ⟨pb, 0, none⟩), .agg #[.pointer (some ⟨xb, 0, none⟩), .pointer (some ⟨cb, 0, none⟩)], .agg #[.int .i64 2, .int .i64 a, .int .i64 b, .int .i64 c, .string s, .slice ao n cap]] w fun e w' => LCommitPost w pb xb cb D R vps b0 b1 b2 commits most e w' := by
  have hpl := hblk.lt
  have c4 : w.cell? ⟨pb, 4, none⟩ = some (.int .i64 commits) := hblk.cell 4
  have c5 : w.cell? ⟨pb, 5, none⟩ = some (.int .i64 most) := hblk.cell 5
  have f4 := hblk.free 4
  obtain ⟨wc, hwc⟩ : ∃ wc, wc = w.setCell ⟨pb, 4, none⟩ (.int .i64 (commits + 1)) := ⟨_, rfl⟩
  have kc : Kept (fun k => k = pb) w wc := by rw [hwc]; exact Kept.setCell w ⟨pb, 4, none⟩ _
  have hsz : wc.heap.size = w.heap.size := by rw [hwc]; simp [World.setCell]
  have hbc : Blk wc pb 34 (playC vps b0 b1 b2 (commits + 1) most) := by rw [hwc]; exact hblk.set 4 _
  have hpc : Pair wc xb cb D R := h.kept kc fun j hj e => by rw [e] at hj; exact hpb hj
  have hwr : Wr wc ao n ws := hw.kept' kc fun hn a ha e => (hfar hn a ha).2.1 e
  have HM : Hid (∀ w', Turned wc w' xb cb D R → LCommitPost w pb xb cb D R vps b0 b1 b2 commits most (.returned (.bool true)) w') := fun w' ht => LCommitPost.mk' hpb kc hbc ht
  have HP : Hid (Pair wc xb cb D R) := hpc
  have HWC : Hid (wc = w.setCell ⟨pb, 4, none⟩ (.int .i64 (commits + 1))) := hwc
  have HSZ : Hid (wc.heap.size = w.heap.size) := hsz
  have d4 : wc.cell? ⟨pb, 4, none⟩ = some (.int .i64 (commits + 1)) := hbc.cell 4
  have d5 : wc.cell? ⟨pb, 5, none⟩ = some (.int .i64 most) := hbc.cell 5
  have HD : Hid (wc.cell? ⟨pb, 4, none⟩ = some (.int .i64 (commits + 1)) ∧ wc.cell? ⟨pb, 5, none⟩ = some (.int .i64 most)) := ⟨d4, d5⟩
  by_cases hlt : most < commits + 1
  · clear h hu hpc hwr hw hfar hno hreach hbc hblk hwc hsz kc d4 d5
    go_enter Tryz.func14, Tryz.ntmps14
    go_wp2_with fail
    go_quiet (fail)
    go_wp2
    go_ret
    rw [← HWC.out]
    exact HM.out _ (Turned.same HP.out (((Kept.alloc _ _ (fun _ => False)).allocNew _).drewN _) (fun _ _ => id))
  · have HRO : Hid (∀ W, Kept (fun _ => False) wc W → Calls Tryz.prog 27 #[.slice ao n cap] W fun e w1 => ∃ (g cp : Nat) (x y : Int), e = .returned (.slice (some ⟨g, 0, none⟩) n cp) ∧ Hid (Roomed W w1 n g cp ws) ∧
      Hid (Calls Tryz.prog 28 #[.pointer (some ⟨xb, 0, none⟩), .slice (some ⟨g, 0, none⟩) n cp] w1 fun e w2 => e = .returned (.tuple #[.int .u64 x, .int .i64 y]) ∧
        Hid (Then 29 #[.pointer (some ⟨cb, 0, none⟩), .slice ao n cap] w1 w2 xb cb D R (.tuple #[.int .u64 x, .int .i64 y])))) :=
      fun W hk => roomed_call (hpc.kept hk fun _ _ => id) hu (hwr.kept hk fun _ _ => id) hreach hno (fun hn a ha => (hfar hn a ha).1) hwb
    have HFAR : Hid (0 < n → ∀ a, ao = some a → ¬ pfp xb cb D R a.block ∧ a.block ≠ pb ∧ a.block < wc.heap.size) := by rw [hsz]; exact hfar
    have HWR : Hid (Wr wc ao n ws) := hwr
    have HLT : Hid (∀ i, pfp xb cb D R i → i < w.heap.size) := h.lt
    clear h hu hpc hwr hw hfar hno hreach hbc hblk hwc hsz kc d4 d5
    go_enter Tryz.func14, Tryz.ntmps14
    go_wp2_with fail
    go_quiet (fail)
    rw [← HWC.out]
    obtain ⟨W, hW⟩ : ∃ W, W = (boxed wc xb cb 2 a b c s (.slice ao n cap)).drewN nq := ⟨_, rfl⟩
    have kW : Kept (fun _ => False) wc W := by rw [hW]; exact (boxed_kept _ _ _ _ _ _ _ _ _).drewN _
    have z0 : W.cell? ⟨w.heap.size, 0, none⟩ = some (.pointer (some ⟨xb, 0, none⟩)) := by rw [hW, ← HSZ.out]; show (boxed wc xb cb 2 a b c s (.slice ao n cap)).cell? _ = _; simp [boxed]
    have z1 : W.cell? ⟨w.heap.size, 1, none⟩ = some (.pointer (some ⟨cb, 0, none⟩)) := by rw [hW, ← HSZ.out]; show (boxed wc xb cb 2 a b c s (.slice ao n cap)).cell? _ = _; simp [boxed]
    have z5 : W.cell? ⟨w.heap.size + 1, 5, none⟩ = some (.slice ao n cap) := by rw [hW, ← HSZ.out]; show (boxed wc xb cb 2 a b c s (.slice ao n cap)).cell? _ = _; simp [boxed]
    have hWs : W.heap.size = w.heap.size + 2 := by rw [hW, ← HSZ.out]; exact boxed_size _ _ _ _ _ _ _ _ _
    unfold boxed at hW
    rw [← hW]
    have HZ : Hid (W.cell? ⟨w.heap.size, 0, none⟩ = some (.pointer (some ⟨xb, 0, none⟩)) ∧ W.cell? ⟨w.heap.size, 1, none⟩ = some (.pointer (some ⟨cb, 0, none⟩)) ∧ W.cell? ⟨w.heap.size + 1, 5, none⟩ = some (.slice ao n cap)) := ⟨z0, z1, z5⟩
    have HKW : Hid (Kept (fun _ => False) wc W) := kW
    have HWS : Hid (W.heap.size = w.heap.size + 2) := hWs
    clear hW kW hWs
    go_wp2_with first
      | (go_at_call 27; refine (HRO.out _ HKW.out).mono ?_; rintro e w1 ⟨g, cp, x, y, rfl, hro, hdc⟩; have y0 := hro.out.kept.keep id HZ.out.1; have y1 := hro.out.kept.keep id HZ.out.2.1; have y5 := hro.out.kept.keep id HZ.out.2.2)
      | (go_at_call 28; refine hdc.out.mono ?_; rintro e w2 ⟨rfl, ht⟩; have x1 := ht.out.1.keep (fun hf => Nat.lt_irrefl _ (HLT.out _ (.inl hf))) y1; have x5 := ht.out.1.keep (fun hf => Nat.not_succ_lt_self (HLT.out _ (.inl hf))) y5)
      | (go_at_call 29; refine (ht.out.2 _ (Kept.refl _ _)).mono ?_; rintro e w3 ⟨rfl, hz, hk3⟩; have HT : Hid (Turned w1 w3 xb cb D R) := hz; clear hz; have v5 := hk3.keep (fun hf => Nat.not_succ_lt_self (HLT.out _ (.inr hf))) x5; have HST := still_there (cap := cap) HFAR.out HLT.out HSZ.out HWR.out HKW.out hro.out HT.out; clear hk3)
      | (go_at_call 30; refine HST.out.mono ?_; rintro e w4 ⟨rfl, hk4⟩; have HK4 : Hid (Kept (fun x => x = g) w3 w4) := hk4; clear hk4)
    go_ret
    refine HM.out _ (HT.out.still (HKW.out.trans hro.out.kept (fun _ => id) (fun _ _ => id)) HK4.out (fun i hi => ?_) (by rw [HSZ.out]; exact HLT.out))
    subst hi
    exact ⟨Nat.le_trans HKW.out.size hro.out.new, hro.out.left.lt⟩

end Go.Proofs.YtpfcacedpkaihaaGreat
