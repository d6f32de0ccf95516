import Derived.Test.YtpfcacedpkaihaaGreatLaLbLh
import Derived.BigQuiet
import Derived.Test.YtpfcacedpkaihaaGreatGaGbGc
import Derived.Test.YtpfcacedpkaihaaGreatIwSrDp
/- The law's commit (package almanaclaw), walked: its two ways. -/
namespace Go.Proofs.YtpfcacedpkaihaaGreat
open Go.RowKit

/-- what is known behind roomy. -/
structure Roomed (W w1 : World) (n g cp : Nat) (ws : List (Int × Int)) : Prop where
  room : n + 2 ≤ cp
  new : W.heap.size ≤ g
  left : Left w1 w1 g 0 (ws ++ [farW, farW])
  most : cp ≤ maxLen
  kept : Kept (fun _ => False) W w1

theorem roomed_call {W : World} {xb cb : Nat} {D : DevS} {R : RefS} {ao : Option Addr} {n cap : Nat} {ws : List (Int × Int)} (h : Pair W xb cb D R) (hu : R.uses.length < 9223372036854775807) (hw : Wr W ao n ws) (hreach : n * 16 ≤ 140737488351232) (hno : ao = none → n = 0 ∧ cap = 0)
    (hfar : 0 < n → ∀ a, ao = some a → ¬ pfp xb cb D R a.block) (hwb : BdW ws) :
    Calls Tryz.prog 27 #[.slice ao n cap] W fun e w1 => ∃ (g cp : Nat) (x y : Int), e = .returned (.slice (some ⟨g, 0, none⟩) n cp) ∧ Hid (Roomed W w1 n g cp ws) ∧
      Hid (Calls Tryz.prog 28 #[.pointer (some ⟨xb, 0, none⟩), .slice (some ⟨g, 0, none⟩) n cp] w1 fun e w2 => e = .returned (.tuple #[.int .u64 x, .int .i64 y]) ∧
        Hid (Then 29 #[.pointer (some ⟨cb, 0, none⟩), .slice ao n cap] w1 w2 xb cb D R (.tuple #[.int .u64 x, .int .i64 y]))) := by
  refine (roomy_any W ao n cap ws hw hreach hno).mono fun e w1 hp => ?_
  obtain ⟨g, cp, e1, hcp, hg, hrow, hk⟩ := hp
  obtain ⟨hwr, hleft, hm⟩ := roomy_use hw.len hrow
  have hn : n ≤ maxLen := by unfold maxLen; omega
  obtain ⟨x, y, hc⟩ := pair_commit (h.kept hk fun _ _ => id) hu (some ⟨g, 0, none⟩) ao n cp cap ws hwr (hw.kept hk fun _ _ => id) hn (fun hn a ha hd => hfar hn a ha (.inl hd)) hwb
  exact ⟨g, cp, x, y, e1, ⟨hcp, hg, hleft, hm, hk⟩, hc⟩

theorem still_there {w wc W w1 w3 : World} {xb cb pb g n cp cap : Nat} {D : DevS} {R : RefS} {ao : Option Addr} {ws : List (Int × Int)} (hfar : 0 < n → ∀ a, ao = some a → ¬ pfp xb cb D R a.block ∧ a.block ≠ pb ∧ a.block < wc.heap.size) (hlt : ∀ i, pfp xb cb D R i → i < w.heap.size)
    (hsz : wc.heap.size = w.heap.size) (hw : Wr wc ao n ws) (kW : Kept (fun _ => False) wc W) (hro : Roomed W w1 n g cp ws) (ht : Turned w1 w3 xb cb D R) : Hid (Calls Tryz.prog 30 #[.slice (some ⟨g, 0, none⟩) n cp, .slice ao n cap] w3 fun e w4 => StillPost w3 g e w4) := by
  obtain ⟨_, _, _, hk, _⟩ := ht
  have hg : wc.heap.size ≤ g := Nat.le_trans kW.size hro.new
  have hwr : Wr w3 ao n ws := ((hw.kept kW fun _ _ => id).kept hro.kept fun _ _ => id).kept' hk fun hn a ha => (hfar hn a ha).1
  exact still_any w3 g n cp ao cap ws hwr (fun hn a ha => by have := (hfar hn a ha).2.2; omega) hro.room hro.most (hro.left.kept' hk fun hp => by have := hlt g hp; omega)

set_option maxRecDepth 100000 in
set_option maxHeartbeats 1000000 in
theorem lcommit (w : World) (pb xb cb : Nat) (a b c : Int) (s : ByteArray) (ao : Option Addr) (n cap : Nat) (ws : List (Int × Int)) (D : DevS) (R : RefS) (vps b0 b1 b2 : Value) (commits most : Int) (h : Pair w xb cb D R) (hu : R.uses.length < 9223372036854775807)
    (hblk : Blk w pb 34 (playC vps b0 b1 b2 commits most)) (hpb : ¬ pfp xb cb D R pb) (hc0 : 0 ≤ commits) (hc1 : commits ≤ 4611686018427387904) (hw : Wr w ao n ws) (hreach : n * 16 ≤ 140737488351232) (hno : ao = none → n = 0 ∧ cap = 0)
    (hfar : 0 < n → ∀ a, ao = some a → ¬ pfp xb cb D R a.block ∧ a.block ≠ pb ∧ a.block < w.heap.size) (hwb : BdW ws) :
    Calls Tryz.prog 14 #[.pointer (some ⟨pb, 0, none⟩), .agg #[.pointer (some ⟨xb, 0, none⟩), .pointer (some ⟨cb, 0, none⟩)], .agg #[.int .i64 2, .int .i64 a, .int .i64 b, .int .i64 c, .string s, .slice ao n cap]] w fun e w' => LCommitPost w pb xb cb D R vps b0 b1 b2 commits most e w' := by
  have hpl := hblk.lt
  have c4 : w.cell? ⟨pb, 4, none⟩ = some (.int .i64 commits) := hblk.cell 4
  have c5 : w.cell? ⟨pb, 5, none⟩ = some (.int .i64 most) := hblk.cell 5
  have f4 := hblk.free 4
  obtain ⟨wc, hwc⟩ : ∃ wc, wc = w.setCell ⟨pb, 4, none⟩ (.int .i64 (commits + 1)) := ⟨_, rfl⟩
  have kc : Kept (fun k => k = pb) w wc := by rw [hwc]; exact Kept.setCell w ⟨pb, 4, none⟩ _
  have hsz : wc.heap.size = w.heap.size := by rw [hwc]; simp [World.setCell]
  have hbc : Blk wc pb 34 (playC vps b0 b1 b2 (commits + 1) most) := by rw [hwc]; exact hblk.set 4 _
  have hpc : Pair wc xb cb D R := h.kept kc fun j hj e => by rw [e] at hj; exact hpb hj
  have hwr : Wr wc ao n ws := hw.kept' kc fun hn a ha e => (hfar hn a ha).2.1 e
  have HM : Hid (∀ w', Turned wc w' xb cb D R → LCommitPost w pb xb cb D R vps b0 b1 b2 commits most (.returned (.bool true)) w') := fun w' ht => LCommitPost.mk' hpb kc hbc ht
  have HP : Hid (Pair wc xb cb D R) := hpc
  have HWC : Hid (wc = w.setCell ⟨pb, 4, none⟩ (.int .i64 (commits + 1))) := hwc
  have HSZ : Hid (wc.heap.size = w.heap.size) := hsz
  have d4 : wc.cell? ⟨pb, 4, none⟩ = some (.int .i64 (commits + 1)) := hbc.cell 4
  have d5 : wc.cell? ⟨pb, 5, none⟩ = some (.int .i64 most) := hbc.cell 5
  have HD : Hid (wc.cell? ⟨pb, 4, none⟩ = some (.int .i64 (commits + 1)) ∧ wc.cell? ⟨pb, 5, none⟩ = some (.int .i64 most)) := ⟨d4, d5⟩
  by_cases hlt : most < commits + 1
  · clear h hu hpc hwr hw hfar hno hreach hbc hblk hwc hsz kc d4 d5
    go_enter Tryz.func14, Tryz.ntmps14
    go_wp2_with fail
    go_quiet (fail)
    go_wp2
    go_ret
    rw [← HWC.out]
    exact HM.out _ (Turned.same HP.out (((Kept.alloc _ _ (fun _ => False)).allocNew _).drewN _) (fun _ _ => id))
  · have HRO : Hid (∀ W, Kept (fun _ => False) wc W → Calls Tryz.prog 27 #[.slice ao n cap] W fun e w1 => ∃ (g cp : Nat) (x y : Int), e = .returned (.slice (some ⟨g, 0, none⟩) n cp) ∧ Hid (Roomed W w1 n g cp ws) ∧
      Hid (Calls Tryz.prog 28 #[.pointer (some ⟨xb, 0, none⟩), .slice (some ⟨g, 0, none⟩) n cp] w1 fun e w2 => e = .returned (.tuple #[.int .u64 x, .int .i64 y]) ∧
        Hid (Then 29 #[.pointer (some ⟨cb, 0, none⟩), .slice ao n cap] w1 w2 xb cb D R (.tuple #[.int .u64 x, .int .i64 y])))) :=
      fun W hk => roomed_call (hpc.kept hk fun _ _ => id) hu (hwr.kept hk fun _ _ => id) hreach hno (fun hn a ha => (hfar hn a ha).1) hwb
    have HFAR : Hid (0 < n → ∀ a, ao = some a → ¬ pfp xb cb D R a.block ∧ a.block ≠ pb ∧ a.block < wc.heap.size) := by rw [hsz]; exact hfar
    have HWR : Hid (Wr wc ao n ws) := hwr
    have HLT : Hid (∀ i, pfp xb cb D R i → i < w.heap.size) := h.lt
    clear h hu hpc hwr hw hfar hno hreach hbc hblk hwc hsz kc d4 d5
    go_enter Tryz.func14, Tryz.ntmps14
    go_wp2_with fail
    go_quiet (fail)
    rw [← HWC.out]
    obtain ⟨W, hW⟩ : ∃ W, W = (boxed wc xb cb 2 a b c s (.slice ao n cap)).drewN nq := ⟨_, rfl⟩
    have kW : Kept (fun _ => False) wc W := by rw [hW]; exact (boxed_kept _ _ _ _ _ _ _ _ _).drewN _
    have z0 : W.cell? ⟨w.heap.size, 0, none⟩ = some (.pointer (some ⟨xb, 0, none⟩)) := by rw [hW, ← HSZ.out]; show (boxed wc xb cb 2 a b c s (.slice ao n cap)).cell? _ = _; simp [boxed]
    have z1 : W.cell? ⟨w.heap.size, 1, none⟩ = some (.pointer (some ⟨cb, 0, none⟩)) := by rw [hW, ← HSZ.out]; show (boxed wc xb cb 2 a b c s (.slice ao n cap)).cell? _ = _; simp [boxed]
    have z5 : W.cell? ⟨w.heap.size + 1, 5, none⟩ = some (.slice ao n cap) := by rw [hW, ← HSZ.out]; show (boxed wc xb cb 2 a b c s (.slice ao n cap)).cell? _ = _; simp [boxed]
    have hWs : W.heap.size = w.heap.size + 2 := by rw [hW, ← HSZ.out]; exact boxed_size _ _ _ _ _ _ _ _ _
    unfold boxed at hW
    rw [← hW]
    have HZ : Hid (W.cell? ⟨w.heap.size, 0, none⟩ = some (.pointer (some ⟨xb, 0, none⟩)) ∧ W.cell? ⟨w.heap.size, 1, none⟩ = some (.pointer (some ⟨cb, 0, none⟩)) ∧ W.cell? ⟨w.heap.size + 1, 5, none⟩ = some (.slice ao n cap)) := ⟨z0, z1, z5⟩
    have HKW : Hid (Kept (fun _ => False) wc W) := kW
    have HWS : Hid (W.heap.size = w.heap.size + 2) := hWs
    clear hW kW hWs
    go_wp2_with first
      | (go_at_call 27; refine (HRO.out _ HKW.out).mono ?_; rintro e w1 ⟨g, cp, x, y, rfl, hro, hdc⟩; have y0 := hro.out.kept.keep id HZ.out.1; have y1 := hro.out.kept.keep id HZ.out.2.1; have y5 := hro.out.kept.keep id HZ.out.2.2)
      | (go_at_call 28; refine hdc.out.mono ?_; rintro e w2 ⟨rfl, ht⟩; have x1 := ht.out.1.keep (fun hf => Nat.lt_irrefl _ (HLT.out _ (.inl hf))) y1; have x5 := ht.out.1.keep (fun hf => Nat.not_succ_lt_self (HLT.out _ (.inl hf))) y5)
      | (go_at_call 29; refine (ht.out.2 _ (Kept.refl _ _)).mono ?_; rintro e w3 ⟨rfl, hz, hk3⟩; have HT : Hid (Turned w1 w3 xb cb D R) := hz; clear hz; have v5 := hk3.keep (fun hf => Nat.not_succ_lt_self (HLT.out _ (.inr hf))) x5; have HST := still_there (cap := cap) HFAR.out HLT.out HSZ.out HWR.out HKW.out hro.out HT.out; clear hk3)
      | (go_at_call 30; refine HST.out.mono ?_; rintro e w4 ⟨rfl, hk4⟩; have HK4 : Hid (Kept (fun x => x = g) w3 w4) := hk4; clear hk4)
    go_ret
    refine HM.out _ (HT.out.still (HKW.out.trans hro.out.kept (fun _ => id) (fun _ _ => id)) HK4.out (fun i hi => ?_) (by rw [HSZ.out]; exact HLT.out))
    subst hi
    exact ⟨Nat.le_trans HKW.out.size hro.out.new, hro.out.left.lt⟩

end Go.Proofs.YtpfcacedpkaihaaGreat

/- The law's pick (package almanaclaw), walked. -/
namespace Go.Proofs.YtpfcacedpkaihaaGreat
open Go.RowKit

/-- which of n a number picks. -/
def pickN (c : Int) (n : Nat) : Nat := (if c < 0 then (-(c + 1)).toNat else c.toNat) % n
theorem pickN_lt (c : Int) {n : Nat} (h : 0 < n) : pickN c n < n := Nat.mod_lt _ h

set_option maxHeartbeats 1000000 in
theorem rpick (w : World) (c : Int) (n : Nat) (h0 : -9223372036854775808 ≤ c) (h1 : c ≤ 9223372036854775807) (hn : 0 < n) (hm : n ≤ 4611686018427387904) :
    Calls Tryz.prog 13 #[.int .i64 c, .int .i64 n] w fun e w' => e = .returned (.int .i64 (pickN c n : Int)) ∧ w = w' := by
  have hnz : ((n : Int) == 0) = false := beq_eq_false_iff_ne.mpr (by omega)
  have hn1 : ((n : Int) == -1) = false := beq_eq_false_iff_ne.mpr (by omega)
  by_cases hc : c < 0
  · obtain ⟨m, hm'⟩ : ∃ m : Nat, -(c + 1) = (m : Int) := ⟨(-(c + 1)).toNat, by omega⟩
    obtain rfl : c = -(m : Int) - 1 := by omega
    have HP : Hid (((m % n : Nat) : Int) = (pickN (-(m : Int) - 1) n : Int)) := by
      show _ = _
      have : (-(-(m : Int) - 1 + 1)).toNat = m := by omega
      rw [pickN, if_pos hc, this]
    have hmn := Nat.mod_lt m hn
    have hmm : m % n ≤ m := Nat.mod_le _ _
    clear hm'
    go_enter Tryz.func13, Tryz.ntmps13
    go_wp2
    go_ret
    refine ⟨rt_int ?_, rfl⟩
    rw [← HP.out]
    simp
  · obtain ⟨m, rfl⟩ : ∃ m : Nat, c = (m : Int) := ⟨c.toNat, by omega⟩
    have HP : Hid (((m % n : Nat) : Int) = (pickN (m : Int) n : Int)) := by
      show _ = _
      rw [pickN, if_neg hc, Int.toNat_natCast]
    have hmn := Nat.mod_lt m hn
    have hmm : m % n ≤ m := Nat.mod_le _ _
    go_enter Tryz.func13, Tryz.ntmps13
    go_wp2
    go_ret
    refine ⟨rt_int ?_, rfl⟩
    rw [← HP.out]
    simp

end Go.Proofs.YtpfcacedpkaihaaGreat

/- The law's opened (package almanaclaw), walked. -/
namespace Go.Proofs.YtpfcacedpkaihaaGreat
open Go.RowKit

theorem Tryz.infoPair : (Tryz.prog.info? 44).map (fun i => (i.zero, i.size, i.bytes)) = some (some (.agg #[.pointer none, .pointer none]), 2, 16) := by kernel_rfl

theorem newP_good0 {r : Int} (h1 : 1 ≤ r) (h2 : r ≤ 6) : (newP r).Good 0 0 :=
  ⟨h1, h2, Nat.le_refl _, by simp [newP], by simp [newP], by simp [newP], by simp [newP]; omega, by simp [newP], by simp [newP], by simp [newP], by simp [newP], by simp [newP]⟩
theorem newD_pu (r : Int) (n : Nat) (vn : Value) : (newD r n vn).pu.sites = List.replicate n (newP r) := by simp [DevS.pu, newD, newDN]
theorem newD_good {r : Int} {n : Nat} (vn : Value) (h1 : 1 ≤ n) (h2 : n ≤ 3) (h3 : 1 ≤ r) (h4 : r ≤ 6) : (newD r n vn).pu.Good 0 := by
  have e := newD_pu r n vn
  refine ⟨by simp [DevS.pu, newD], by simp [DevS.pu, newD], by simp [DevS.pu, newD], by simp [DevS.pu, newD], by simp [DevS.pu, newD], by rw [e, List.length_replicate]; omega, by rw [e, List.length_replicate]; omega, fun s hs => ?_, by simp [DevS.pu, newD]⟩
  rw [e] at hs
  obtain rfl := List.eq_of_mem_replicate hs
  exact newP_good0 h3 h4
theorem new_names (n : Nat) : (List.replicate n upN).flatMap (·.nms) = [] := by
  rw [List.flatMap_eq_nil_iff]
  intro x hx
  obtain rfl := List.eq_of_mem_replicate hx
  rfl
theorem sim_new (r : Int) (n : Nat) (vd vp vn : Value) : Sim (newD r n vd).pu (newR r n vp vn) := by
  have en := newD_pu r n vd
  have nn : (newR r n vp vn).nodes.flatMap (·.nms) = [] := new_names n
  refine ⟨rfl, rfl, ⟨rfl, ?_, ?_, ?_, rfl, ?_⟩, rfl, fun p hp => (by simp [DevS.pu, newD] at hp), ?_, ?_, ?_, by rw [nn]; exact List.nodup_nil, by rw [nn]; intro x hx; cases hx⟩
  · intro i _ h; cases h
  · intro j x h; simp [newR] at h
  · intro i k _ _ h; cases h
  · intro x h; simp [newR] at h
  · rw [en, List.length_replicate]
    show (List.replicate n upN).length = n
    rw [List.length_replicate]
  · intro k s nd hs hnd
    rw [en] at hs
    obtain rfl := List.eq_of_mem_replicate (List.mem_of_getElem? hs)
    obtain rfl := List.eq_of_mem_replicate (List.mem_of_getElem? (show (List.replicate n upN)[k]? = some nd from hnd))
    exact ⟨rfl, rfl, Nat.le_refl _, rfl, rfl, by simp [newP], rfl, by simp [newP], rfl, by show 0 < 1; omega, rfl, by simp [newP], by simp [newP]⟩
  · intro s hs
    rw [en] at hs
    obtain rfl := List.eq_of_mem_replicate hs
    rfl
theorem fit_new (r : Int) (n : Nat) (vp vn : Value) (h1 : 1 ≤ n) (h3 : n ≤ 3) : (newR r n vp vn).Fit := by
  refine ⟨by simp [newR], by simp [newR], by simp [newR], by simp [newR], by simp [newR], ?_, ?_, ?_⟩
  · show 0 < (List.replicate n upN).length; rw [List.length_replicate]; omega
  · show (List.replicate n upN).length ≤ 3; rw [List.length_replicate]; omega
  · intro nd h
    have : nd = upN := List.eq_of_mem_replicate h
    subst this
    exact ⟨by simp [upN, zeroN], by simp [upN, zeroN], by simp [upN, zeroN]⟩

theorem pair_new {w w1 w2 : World} {r : Int} {n : Nat} {xb : Nat} {vd vp vn : Value} (h1 : 1 ≤ n) (h3 : n ≤ 3) (h4 : 1 ≤ r) (h5 : r ≤ 6) (hd : Dev w1 xb (newD r n vd)) (hx : w.heap.size ≤ xb) (hv : ∀ x, vd.ownBlock = some x → w.heap.size ≤ x) (hL : NewL w1 w2 r n vp vn) :
    Pair w2 xb w1.heap.size (newD r n vd) (newR r n vp vn) ∧ (∀ k, pfp xb w1.heap.size (newD r n vd) (newR r n vp vn) k → w.heap.size ≤ k ∧ k < w2.heap.size) := by
  have hp : Pair w2 xb w1.heap.size (newD r n vd) (newR r n vp vn) := ⟨hd.kept hL.kept (fun _ _ => id), hL.ref, sim_new r n vd vp vn, newD_good vd h1 h3 h4 h5, fit_new r n vp vn h1 h3, Int.le_refl _, Int.le_refl _, fun k hk hr => by
    have := hd.lt k hk
    have := hL.new k hr
    omega⟩
  refine ⟨hp, fun k hk => ⟨?_, hp.lt k hk⟩⟩
  rcases hk with hk | hk
  · rcases newD_fp hk with e | e
    · rw [e]; exact hx
    · exact hv k e
  · have := hL.new k hk
    have := hd.blk.lt
    omega

/-- what opened leaves: nothing new, or one pair more. -/
def OpenPost (w : World) (pb : Nat) (vps b0 b1 b2 : Value) (commits most : Int) (m : Nat) (xs : List Value) (e : Ending) (w' : World) : Prop :=
  e = .returned (.bool true) ∧ (Kept (fun _ => False) w w' ∨ ∃ (xb cb : Nat) (D : DevS) (R : RefS) (v : Value), Pair w' xb cb D R ∧ R.uses.length = 0 ∧ Row w' 44 2 v (m + 1) (xs ++ [.pointer (some ⟨xb, 0, none⟩), .pointer (some ⟨cb, 0, none⟩)]) ∧
    Blk w' pb 34 (playC v b0 b1 b2 commits most) ∧ Kept (fun k => k = pb ∨ vps.ownBlock = some k) w w' ∧ (∀ k, pfp xb cb D R k → w.heap.size ≤ k) ∧
    (∀ k, v.ownBlock = some k → vps.ownBlock = some k ∨ w.heap.size ≤ k) ∧ (∀ k, pfp xb cb D R k → v.ownBlock ≠ some k))

theorem open_done {w w2 w3 : World} {pb xb cb : Nat} {D : DevS} {R : RefS} {vps b0 b1 b2 v : Value} {commits most : Int} {m : Nat} {xs : List Value} {o : Obj} (hblk : Blk w pb 34 (playC vps b0 b1 b2 commits most)) (hrow : Row w 44 2 vps m xs)
    (k2 : Kept (fun _ => False) w w2) (hp : Pair w2 xb cb D R) (h0 : R.uses.length = 0) (hf : ∀ k, pfp xb cb D R k → w.heap.size ≤ k ∧ k < w2.heap.size)
    (hA : Appended (w2.alloc o) w3 44 2 vps v m 1 xs [.pointer (some ⟨xb, 0, none⟩), .pointer (some ⟨cb, 0, none⟩)]) :
    OpenPost w pb vps b0 b1 b2 commits most m xs (.returned (.bool true)) (w3.setCell ⟨pb, 0, none⟩ v) := by
  have hA := hA.of_alloc
  have hvlt := hrow.lt
  have hpl := hblk.lt
  have k3 : Kept (fun k => vps.ownBlock = some k) w w3 := k2.trans hA.kept (fun _ => False.elim) (fun _ _ => id)
  have blk3 : Blk w3 pb 34 (playC vps b0 b1 b2 commits most) := hblk.kept k3 fun he => hrow.ne_block hblk (by decide) he
  have kS := Kept.setCell w3 ⟨pb, 0, none⟩ v
  have hp3 : Pair w3 xb cb D R := hp.kept hA.kept fun j hj he => by have := (hf j hj).1; have := hvlt j he; omega
  refine ⟨rfl, .inr ⟨xb, cb, D, R, v, hp3.kept kS fun j hj he => ?_, h0, hA.row.kept kS fun j hj he => ?_, blk3.set 0 v, k3.trans kS (fun _ => .inr) (fun _ _ => .inl), fun k hk => (hf k hk).1, fun k hk => ?_, fun k hk he => ?_⟩⟩
  · have := (hf j hj).1; simp at he; omega
  · subst he
    exact Row.ne_block hA.row blk3 (by decide) hj
  · rcases hA.own with h | h
    · left; rw [← h]; exact hk
    · right; have := h k hk; have := k2.size; omega
  · obtain ⟨a, c⟩ := hf k hk
    rcases hA.own with h | h
    · rw [h] at he; have := hvlt k he; omega
    · have := h k he; omega

theorem oneCell_ptrs (a b : Option Addr) : ∀ u ∈ [Value.pointer a, Value.pointer b], u.oneCell' = true := by
  intro u hu; simp at hu; rcases hu with rfl | rfl <;> rfl
theorem cell_two_new (w : World) (a b : Value) (t : TypeId) : ∀ j u, [a, b][j]? = some u → (w.alloc (.cells #[a, b] t)).cell? ((⟨w.heap.size, 0, none⟩ : Addr).add j) = some u := by
  intro j u hj
  match j, hj with
  | 0, hj => simp at hj; subst hj; simp [Addr.add]
  | 1, hj => simp at hj; subst hj; simp [Addr.add]
  | j + 2, hj => simp at hj

theorem opened_mid {w w1 w2 : World} {o : Obj} {pb q : Nat} {c : Int} {vps b0 b1 b2 : Value} {commits most : Int} {m : Nat} {xs : List Value} (h1 : 1 ≤ q) (h2 : q ≤ 3) (h3 : 1 ≤ c) (h4 : c ≤ 6) (hblk : Blk w pb 34 (playC vps b0 b1 b2 commits most)) (hrow : Row w 44 2 vps m xs)
    (hd : ∃ vd, NewDL (w.alloc o) w1 c q vd) (hL : ∃ vp vn, NewL w1 w2 c q vp vn) :
    w2.cell? ⟨pb, 0, none⟩ = some vps ∧ pb < w2.heap.size ∧ Hid (∀ o, Row (w2.alloc o) 44 2 vps m xs) ∧
      Hid (∀ (o : Obj) (w3 : World) (v : Value), Appended (w2.alloc o) w3 44 2 vps v m 1 xs [.pointer (some ⟨w.heap.size + 1, 0, none⟩), .pointer (some ⟨w1.heap.size, 0, none⟩)] →
        w3.cell? ⟨pb, 0, none⟩ = some vps ∧ w3.frozen? ⟨pb, 0, none⟩ = false ∧ OpenPost w pb vps b0 b1 b2 commits most m xs (.returned (.bool true)) (w3.setCell ⟨pb, 0, none⟩ v)) := by
  obtain ⟨vp, vn, hL⟩ := hL
  obtain ⟨vd, hd⟩ := hd
  have hsz : (w.alloc o).heap.size = w.heap.size + 1 := by simp
  have hdv := hd.dev
  rw [hsz] at hdv
  have k1 : Kept (fun _ => False) w w1 := (Kept.alloc w o (fun _ => False)).trans hd.kept (fun _ => id) (fun _ _ => id)
  have k2 : Kept (fun _ => False) w w2 := k1.trans hL.kept (fun _ => id) (fun _ _ => id)
  have blk2 := hblk.kept k2 id
  have hp := pair_new (w := w) h1 h2 h3 h4 hdv (Nat.le_succ _) (fun x hx => by have := hd.own x hx; omega) hL
  refine ⟨blk2.cell 0, blk2.lt, fun o => (hrow.kept k2 fun _ _ => id).kept (Kept.alloc w2 o (fun _ => False)) (fun _ _ => id), fun o w3 v hA => ?_⟩
  have blk3 : Blk w3 pb 34 (playC vps b0 b1 b2 commits most) := blk2.kept hA.of_alloc.kept fun he => (hrow.kept k2 fun _ _ => id).ne_block blk2 (by decide) he
  exact ⟨blk3.cell 0, blk3.free 0, open_done hblk hrow k2 hp.1 rfl hp.2 hA⟩

/-- both refuse: a new world there is none. -/
theorem opened_bad (w : World) (pb : Nat) (kd a b c : Int) (s : ByteArray) (ao : Option Addr) (n cap : Nat) (vps b0 b1 b2 : Value) (commits most : Int) (m : Nat) (xs : List Value) (r : Int)
    (h0 : ∀ W, Calls Tryz.prog 23 #[.int .i64 b, .int .i64 c] W fun e w' => e = .returned (.tuple #[.pointer none, .int .i64 r]) ∧ W = w')
    (h1 : ∀ W, Calls Tryz.prog 24 #[.int .i64 b, .int .i64 c] W fun e w' => e = .returned (.tuple #[.pointer none, .int .i64 r]) ∧ W = w') :
    Calls Tryz.prog 11 #[.pointer (some ⟨pb, 0, none⟩), .agg #[.int .i64 kd, .int .i64 a, .int .i64 b, .int .i64 c, .string s, .slice ao n cap]] w fun e w' => OpenPost w pb vps b0 b1 b2 commits most m xs e w' := by
  have H0 : Hid (∀ W, Calls Tryz.prog 23 #[.int .i64 b, .int .i64 c] W fun e w' => e = .returned (.tuple #[.pointer none, .int .i64 r]) ∧ W = w') := h0
  have H1 : Hid (∀ W, Calls Tryz.prog 24 #[.int .i64 b, .int .i64 c] W fun e w' => e = .returned (.tuple #[.pointer none, .int .i64 r]) ∧ W = w') := h1
  clear h0 h1
  go_enter Tryz.func11, Tryz.ntmps11
  go_wp2_with first
    | (go_at_call 23; refine (H0.out _).mono ?_; rintro e w1 ⟨rfl, rfl⟩)
    | (go_at_call 24; refine (H1.out _).mono ?_; rintro e w1 ⟨rfl, rfl⟩)
  go_ret
  exact ⟨rfl, .inl (Kept.alloc _ _ _)⟩

set_option maxRecDepth 100000 in
set_option maxHeartbeats 1000000 in
theorem opened_good (w : World) (pb : Nat) (kd a c : Int) (q : Nat) (s : ByteArray) (ao : Option Addr) (n cap : Nat) (vps b0 b1 b2 : Value) (commits most : Int) (m : Nat) (xs : List Value) (h1 : 1 ≤ q) (h2 : q ≤ 3) (h3 : 1 ≤ c) (h4 : c ≤ 6)
    (hblk : Blk w pb 34 (playC vps b0 b1 b2 commits most)) (hrow : Row w 44 2 vps m xs) (hm : (m + 1) * 16 ≤ 140737488355328) :
    Calls Tryz.prog 11 #[.pointer (some ⟨pb, 0, none⟩), .agg #[.int .i64 kd, .int .i64 a, .int .i64 (q : Int), .int .i64 c, .string s, .slice ao n cap]] w fun e w' => OpenPost w pb vps b0 b1 b2 commits most m xs e w' := by
  obtain ⟨i0, hi, hz0, hz1, hz2⟩ := info_parts Tryz.infoPair
  have HI : Hid (Tryz.prog.info? 44 = some i0 ∧ i0.zero = some (.agg #[.pointer none, .pointer none]) ∧ i0.size = 2 ∧ i0.bytes = 16) := ⟨hi, hz0, hz1, hz2⟩
  clear hi hz0 hz1 hz2
  obtain ⟨av, cv, hv, _⟩ := hrow.form
  have HR : Hid (Row w 44 2 (.slice av m cv) m xs) := by rw [← hv]; exact hrow
  have HB : Hid (Blk w pb 34 (playC (.slice av m cv) b0 b1 b2 commits most)) := by rw [← hv]; exact hblk
  have hpl := hblk.lt
  subst hv
  have HN0 : Hid (∀ W, Calls Tryz.prog 23 #[.int .i64 (q : Int), .int .i64 c] W fun e w' => e = .returned (.tuple #[.pointer (some ⟨W.heap.size, 0, none⟩), .int .i64 0]) ∧ Hid (∃ vd, NewDL W w' c q vd)) := fun W => dnew q c W h1 h2 h3 h4
  have HN1 : Hid (∀ W, Calls Tryz.prog 24 #[.int .i64 (q : Int), .int .i64 c] W fun e w' => e = .returned (.tuple #[.pointer (some ⟨W.heap.size, 0, none⟩), .int .i64 0]) ∧ Hid (∃ vp vn, NewL W w' c q vp vn)) := fun W => rnew q c W h1 h2 h3 h4
  have b1' : m + 1 ≤ maxLen := by unfold maxLen; omega
  have HA0 : Hid (∀ w1, Kept (fun _ => False) (w.alloc (.cells #[.int .i64 kd, .int .i64 a, .int .i64 (q : Int), .int .i64 c, .string s, .slice ao n cap] 37)) w1 → w1.cell? ⟨w.heap.size, 2, none⟩ = some (.int .i64 (q : Int)) ∧ w1.cell? ⟨w.heap.size, 3, none⟩ = some (.int .i64 c)) := fun w1 k => ⟨k.keep id (by simp), k.keep id (by simp)⟩
  clear hblk hrow
  go_enter Tryz.func11, Tryz.ntmps11
  go_wp2_with first
    | (go_at_call 23; refine (HN0.out _).mono ?_; rintro e w1 ⟨rfl, hd⟩; obtain ⟨y2, y3⟩ := HA0.out _ (have ⟨_, x⟩ := hd.out; x.kept))
    | (go_at_call 24; refine (HN1.out _).mono ?_; rintro e w2 ⟨rfl, hL⟩; obtain ⟨p0, hp2, HROW, HAFT⟩ := opened_mid h1 h2 h3 h4 HB.out HR.out hd.out hL.out)
    | (at_builtin; go_must (refine wpList_append_mine _ rfl (.tmp 41) (.tmp 45) 27 rfl 44 i0 (.agg #[.pointer none, .pointer none]) 2 16 Tryz.underlying27 HI.out.1 HI.out.2.1 HI.out.2.2.1 HI.out.2.2.2 rfl (by decide) (.slice av m cv) m xs rfl (HROW.out _) ⟨w2.heap.size, 0, none⟩ 1 1 [.pointer (some ⟨w.heap.size + 1, 0, none⟩), .pointer (some ⟨w1.heap.size, 0, none⟩)] rfl rfl (cell_two_new w2 _ _ _) (oneCell_ptrs _ _) b1' hm ?_); intro v' w3 hA; obtain ⟨r0, r1, r2⟩ := HAFT.out _ _ _ hA; have HDONE : Hid (OpenPost w pb (.slice av m cv) b0 b1 b2 commits most m xs (.returned (.bool true)) (w3.setCell ⟨pb, 0, none⟩ v')) := r2; clear r2; obtain ⟨ao', cap', hv', _⟩ := hA.row.form; clear hA; subst hv')
  go_ret
  exact HDONE.out

theorem lopened (w : World) (pb : Nat) (kd a b c : Int) (s : ByteArray) (ao : Option Addr) (n cap : Nat) (vps b0 b1 b2 : Value) (commits most : Int) (m : Nat) (xs : List Value)
    (hblk : Blk w pb 34 (playC vps b0 b1 b2 commits most)) (hrow : Row w 44 2 vps m xs) (hm : (m + 1) * 16 ≤ 140737488355328) :
    Calls Tryz.prog 11 #[.pointer (some ⟨pb, 0, none⟩), .agg #[.int .i64 kd, .int .i64 a, .int .i64 b, .int .i64 c, .string s, .slice ao n cap]] w fun e w' => OpenPost w pb vps b0 b1 b2 commits most m xs e w' := by
  by_cases hb : b < 1 ∨ 3 < b
  · exact opened_bad w pb kd a b c s ao n cap vps b0 b1 b2 commits most m xs 1 (fun W => dnew_nodes b c W hb) (fun W => rnew_nodes b c W hb)
  · by_cases hc : c < 1 ∨ 6 < c
    · exact opened_bad w pb kd a b c s ao n cap vps b0 b1 b2 commits most m xs 2 (fun W => dnew_room b c W (by omega) (by omega) hc) (fun W => rnew_room b c W (by omega) (by omega) hc)
    · obtain ⟨q, rfl⟩ : ∃ q : Nat, b = q := ⟨b.toNat, by omega⟩
      exact opened_good w pb kd a c q s ao n cap vps b0 b1 b2 commits most m xs (by omega) (by omega) (by omega) (by omega) hblk hrow hm

end Go.Proofs.YtpfcacedpkaihaaGreat

/- The play of a script: what holds between two steps. -/
namespace Go.Proofs.YtpfcacedpkaihaaGreat
open Go.RowKit

structure PairE where
  xb : Nat
  cb : Nat
  D : DevS
  R : RefS
def pairC (p : PairE) : List Value := [.pointer (some ⟨p.xb, 0, none⟩), .pointer (some ⟨p.cb, 0, none⟩)]
def PairE.fp (p : PairE) (k : Nat) : Prop := pfp p.xb p.cb p.D p.R k

/-- between two steps: the play's block, its worlds, each with its twin, all of them in memory of their own; B: below it lies what was there at the call; X: blocks of others. -/
structure Inv (B : Nat) (X : Nat → Prop) (w0 w : World) (pb : Nat) (ps : List PairE) (vps b0 b1 b2 : Value) (commits most : Int) : Prop where
  below : Below B w0 w
  blk : Blk w pb 34 (playC vps b0 b1 b2 commits most)
  row : Row w 44 2 vps ps.length (ps.flatMap pairC)
  each : ∀ p ∈ ps, Pair w p.xb p.cb p.D p.R
  sep : ∀ (i j : Nat) (a c : PairE), ps[i]? = some a → ps[j]? = some c → i ≠ j → ∀ k, a.fp k → ¬ c.fp k
  own : ∀ p ∈ ps, ∀ k, p.fp k → B ≤ k ∧ k ≠ pb ∧ vps.ownBlock ≠ some k ∧ ¬ X k
  pB : B ≤ pb ∧ ¬ X pb
  vB : ∀ k, vps.ownBlock = some k → B ≤ k ∧ ¬ X k
  xlt : ∀ k, X k → k < w.heap.size
  bsz : B ≤ w0.heap.size

theorem below_kept {B : Nat} {F : Nat → Prop} {w0 w w' : World} (h : Below B w0 w) (k : Kept F w w') (hB : B ≤ w0.heap.size) (hF : ∀ i, F i → B ≤ i) : Below B w0 w' :=
  ⟨k.os.trans h.os, k.tape.trans h.tape, k.output.trans h.output, Nat.le_trans h.size k.size, fun i hi =>
    (k.block i (by have := h.size; omega) (fun hf => by have := hF i hf; omega)).trans (h.block i hi)⟩

theorem Inv.kept {B : Nat} {X : Nat → Prop} {w0 w w' : World} {pb : Nat} {ps : List PairE} {vps b0 b1 b2 : Value} {commits most : Int} (h : Inv B X w0 w pb ps vps b0 b1 b2 commits most) (k : Kept (fun _ => False) w w') : Inv B X w0 w' pb ps vps b0 b1 b2 commits most :=
  ⟨below_kept h.below k h.bsz (fun _ => False.elim), h.blk.kept k id, h.row.kept k (fun _ _ => id), fun p hp => (h.each p hp).kept k (fun _ _ => id), h.sep, h.own, h.pB, h.vB, fun i hi => Nat.lt_of_lt_of_le (h.xlt i hi) k.size, h.bsz⟩

theorem flat_same_r {ps : List PairE} {i : Nat} {p p' : PairE} (hp : ps[i]? = some p) (he : pairC p' = pairC p) : (ps.set i p').flatMap pairC = ps.flatMap pairC := by
  induction ps generalizing i with
  | nil => simp at hp
  | cons a r ih =>
    match i with
    | 0 => simp at hp; subst hp; simp [he]
    | i + 1 => simp at hp; simp [ih hp]

/-- one world and its twin have turned, or the play's own block. -/
theorem Inv.turn {B : Nat} {X : Nat → Prop} {w0 w w' : World} {pb : Nat} {ps : List PairE} {vps b0 b1 b2 : Value} {commits most commits' : Int} {i : Nat} {p : PairE} {D' : DevS} {R' : RefS} (h : Inv B X w0 w pb ps vps b0 b1 b2 commits most) (hi : ps[i]? = some p)
    (hp : Pair w' p.xb p.cb D' R') (hk : Kept (fun k => k = pb ∨ p.fp k) w w') (hf : ∀ k, pfp p.xb p.cb D' R' k → p.fp k ∨ w.heap.size ≤ k) (hb : Blk w' pb 34 (playC vps b0 b1 b2 commits' most)) :
    Inv B X w0 w' pb (ps.set i { p with D := D', R := R' }) vps b0 b1 b2 commits' most ∧ Kept (fun k => ¬ X k) w w' := by
  have hm : p ∈ ps := List.mem_of_getElem? hi
  have hlt := (List.getElem?_eq_some_iff.mp hi).1
  have hpl := h.blk.lt
  have hBw : B ≤ w.heap.size := Nat.le_trans h.bsz h.below.size
  have hF : ∀ k, (k = pb ∨ p.fp k) → B ≤ k ∧ ¬ X k := by
    rintro k (rfl | hk)
    · exact h.pB
    · exact ⟨(h.own p hm k hk).1, (h.own p hm k hk).2.2.2⟩
  have others : ∀ (j : Nat) (a : PairE), ps[j]? = some a → j ≠ i → Pair w' a.xb a.cb a.D a.R := by
    intro j a ha hj
    refine (h.each a (List.mem_of_getElem? ha)).kept hk ?_
    rintro k hka (e | hkp)
    · exact (h.own a (List.mem_of_getElem? ha) k hka).2.1 e
    · exact h.sep j i a p ha hi hj k hka hkp
  have getS : ∀ (j : Nat) (a : PairE), (ps.set i { p with D := D', R := R' })[j]? = some a → (j = i ∧ a = { p with D := D', R := R' }) ∨ (j ≠ i ∧ ps[j]? = some a) := by
    intro j a ha
    by_cases e : j = i
    · subst e; rw [List.getElem?_set_self hlt] at ha; injection ha with ha; exact .inl ⟨rfl, ha.symm⟩
    · rw [List.getElem?_set_ne (fun z => e z.symm)] at ha; exact .inr ⟨e, ha⟩
  refine ⟨⟨below_kept h.below hk h.bsz (fun k hk => (hF k hk).1), hb, ?_, ?_, ?_, ?_, h.pB, h.vB, fun k hx => Nat.lt_of_lt_of_le (h.xlt k hx) hk.size, h.bsz⟩, hk.mono (fun k hk => (hF k hk).2)⟩
  · rw [List.length_set, flat_same_r (p' := { p with D := D', R := R' }) hi rfl]
    refine h.row.kept hk ?_
    rintro k hv (rfl | hkp)
    · exact h.row.ne_block h.blk (by decide) hv
    · exact (h.own p hm k hkp).2.2.1 hv
  · intro a ha
    obtain ⟨j, hj⟩ := List.getElem?_of_mem ha
    rcases getS j a hj with ⟨_, rfl⟩ | ⟨hne, hj'⟩
    · exact hp
    · exact others j a hj' hne
  · intro j1 j2 a c ha hc hne k hka hkc
    rcases getS j1 a ha with ⟨e1, rfl⟩ | ⟨n1, ha'⟩
    · rcases getS j2 c hc with ⟨e2, _⟩ | ⟨n2, hc'⟩
      · omega
      · rcases hf k hka with x | x
        · exact h.sep i j2 p c hi hc' (fun z => n2 z.symm) k x hkc
        · have := (h.each c (List.mem_of_getElem? hc')).lt k hkc; omega
    · rcases getS j2 c hc with ⟨e2, rfl⟩ | ⟨n2, hc'⟩
      · rcases hf k hkc with x | x
        · exact h.sep j1 i a p ha' hi n1 k hka x
        · have := (h.each a (List.mem_of_getElem? ha')).lt k hka; omega
      · exact h.sep j1 j2 a c ha' hc' hne k hka hkc
  · intro a ha k hk
    obtain ⟨j, hj⟩ := List.getElem?_of_mem ha
    rcases getS j a hj with ⟨_, rfl⟩ | ⟨_, hj'⟩
    · rcases hf k hk with x | x
      · exact h.own p hm k x
      · refine ⟨by omega, by omega, fun hv => ?_, fun hx => ?_⟩
        · have := h.row.lt k hv; omega
        · have := h.xlt k hx; omega
    · exact h.own a (List.mem_of_getElem? hj') k hk

/-- one pair more. -/
theorem Inv.more {B : Nat} {X : Nat → Prop} {w0 w w' : World} {pb xb cb : Nat} {ps : List PairE} {vps b0 b1 b2 v : Value} {commits most : Int} {D : DevS} {R : RefS} (h : Inv B X w0 w pb ps vps b0 b1 b2 commits most) (hp : Pair w' xb cb D R)
    (hr : Row w' 44 2 v (ps.length + 1) (ps.flatMap pairC ++ [.pointer (some ⟨xb, 0, none⟩), .pointer (some ⟨cb, 0, none⟩)])) (hb : Blk w' pb 34 (playC v b0 b1 b2 commits most))
    (hk : Kept (fun k => k = pb ∨ vps.ownBlock = some k) w w') (hn : ∀ k, pfp xb cb D R k → w.heap.size ≤ k) (hv : ∀ k, v.ownBlock = some k → vps.ownBlock = some k ∨ w.heap.size ≤ k) (hs : ∀ k, pfp xb cb D R k → v.ownBlock ≠ some k) :
    Inv B X w0 w' pb (ps ++ [⟨xb, cb, D, R⟩]) v b0 b1 b2 commits most ∧ Kept (fun k => ¬ X k) w w' := by
  have hpl := h.blk.lt
  have hBw : B ≤ w.heap.size := Nat.le_trans h.bsz h.below.size
  have hF : ∀ k, (k = pb ∨ vps.ownBlock = some k) → B ≤ k ∧ ¬ X k := by
    rintro k (rfl | hk)
    · exact h.pB
    · exact h.vB k hk
  have old : ∀ a ∈ ps, Pair w' a.xb a.cb a.D a.R := fun a ha => (h.each a ha).kept hk (by
    rintro k hka (e | hkv)
    · exact (h.own a ha k hka).2.1 e
    · exact (h.own a ha k hka).2.2.1 hkv)
  have getA : ∀ (j : Nat) (a : PairE), (ps ++ [(⟨xb, cb, D, R⟩ : PairE)])[j]? = some a → (j = ps.length ∧ a = ⟨xb, cb, D, R⟩) ∨ (j < ps.length ∧ ps[j]? = some a) := by
    intro j a ha
    by_cases e : j < ps.length
    · rw [List.getElem?_append_left e] at ha; exact .inr ⟨e, ha⟩
    · have hl := (List.getElem?_eq_some_iff.mp ha).1
      have : j = ps.length := by simp at hl; omega
      subst this
      simp at ha
      exact .inl ⟨rfl, ha.symm⟩
  refine ⟨⟨below_kept h.below hk h.bsz (fun k hk => (hF k hk).1), hb, ?_, ?_, ?_, ?_, h.pB, ?_, fun k hx => Nat.lt_of_lt_of_le (h.xlt k hx) hk.size, h.bsz⟩, hk.mono (fun k hk => (hF k hk).2)⟩
  · rw [List.length_append, List.flatMap_append]; exact hr
  · intro a ha
    rw [List.mem_append] at ha
    rcases ha with ha | ha
    · exact old a ha
    · simp at ha; subst ha; exact hp
  · intro j1 j2 a c ha hc hne k hka hkc
    rcases getA j1 a ha with ⟨e1, rfl⟩ | ⟨l1, ha'⟩
    · rcases getA j2 c hc with ⟨e2, _⟩ | ⟨l2, hc'⟩
      · omega
      · have := (h.each c (List.mem_of_getElem? hc')).lt k hkc; have := hn k hka; omega
    · rcases getA j2 c hc with ⟨e2, rfl⟩ | ⟨l2, hc'⟩
      · have := (h.each a (List.mem_of_getElem? ha')).lt k hka; have := hn k hkc; omega
      · exact h.sep j1 j2 a c ha' hc' hne k hka hkc
  · intro a ha k hk
    rw [List.mem_append] at ha
    rcases ha with ha | ha
    · have o := h.own a ha k hk
      refine ⟨o.1, o.2.1, fun hvk => ?_, o.2.2.2⟩
      rcases hv k hvk with x | x
      · exact o.2.2.1 x
      · have := (h.each a ha).lt k hk; omega
    · simp at ha; subst ha
      have := hn k hk
      refine ⟨by omega, by omega, hs k hk, fun hx => ?_⟩
      have := h.xlt k hx; omega
  · intro k hk
    rcases hv k hk with x | x
    · exact h.vB k x
    · exact ⟨by omega, fun hx => by have := h.xlt k hx; omega⟩

/-- what a step leaves. -/
def SPost (B : Nat) (X : Nat → Prop) (w0 w : World) (pb : Nat) (ps : List PairE) (b0 b1 b2 : Value) (commits most : Int) (e : Ending) (w' : World) : Prop :=
  e = .returned (.bool true) ∧ Kept (fun k => ¬ X k) w w' ∧ ∃ ps' vps' commits', Inv B X w0 w' pb ps' vps' b0 b1 b2 commits' most ∧ ps'.length ≤ ps.length + 1 ∧ (commits' = commits ∨ commits' = commits + 1) ∧ ∀ M, (∀ p ∈ ps, p.R.uses.length ≤ M) → ∀ p ∈ ps', p.R.uses.length ≤ M + 1

theorem uses_set {ps : List PairE} {i M : Nat} {p : PairE} {D' : DevS} {R' : RefS} (hi : ps[i]? = some p) (hu : R'.uses.length ≤ p.R.uses.length + 1) (hM : ∀ p ∈ ps, p.R.uses.length ≤ M) : ∀ q ∈ ps.set i { p with D := D', R := R' }, q.R.uses.length ≤ M + 1 := by
  intro q hq
  rcases List.mem_or_eq_of_mem_set hq with hq | rfl
  · exact Nat.le_succ_of_le (hM q hq)
  · have := hM p (List.mem_of_getElem? hi)
    show R'.uses.length ≤ M + 1
    omega

theorem SPost.of_turned {B : Nat} {X : Nat → Prop} {w0 w w' : World} {pb : Nat} {ps : List PairE} {vps b0 b1 b2 : Value} {commits most : Int} {i : Nat} {p : PairE} (h : Inv B X w0 w pb ps vps b0 b1 b2 commits most) (hi : ps[i]? = some p) (ht : Turned w w' p.xb p.cb p.D p.R) :
    SPost B X w0 w pb ps b0 b1 b2 commits most (.returned (.bool true)) w' := by
  obtain ⟨D', R', hp, hk, hf, hu⟩ := ht
  have hb := h.blk.kept hk fun hpf => (h.own p (List.mem_of_getElem? hi) pb hpf).2.1 rfl
  obtain ⟨z1, z2⟩ := h.turn hi hp (hk.mono fun _ => .inr) hf hb
  exact ⟨rfl, z2, _, _, _, z1, by rw [List.length_set]; omega, .inl rfl, fun M hM => uses_set hi hu hM⟩

theorem SPost.of_commit {B : Nat} {X : Nat → Prop} {w0 w w' : World} {pb : Nat} {ps : List PairE} {vps b0 b1 b2 : Value} {commits most : Int} {i : Nat} {p : PairE} {e : Ending} (h : Inv B X w0 w pb ps vps b0 b1 b2 commits most) (hi : ps[i]? = some p) (ht : LCommitPost w pb p.xb p.cb p.D p.R vps b0 b1 b2 commits most e w') :
    SPost B X w0 w pb ps b0 b1 b2 commits most e w' := by
  obtain ⟨e1, hb, D', R', hp, hk, hf, hu⟩ := ht
  obtain ⟨z1, z2⟩ := h.turn hi hp hk hf hb
  exact ⟨e1, z2, _, _, _, z1, by rw [List.length_set]; omega, .inr rfl, fun M hM => uses_set hi hu hM⟩

theorem SPost.of_open {B : Nat} {X : Nat → Prop} {w0 w w' : World} {pb : Nat} {ps : List PairE} {vps b0 b1 b2 : Value} {commits most : Int} {e : Ending} (h : Inv B X w0 w pb ps vps b0 b1 b2 commits most) (ht : OpenPost w pb vps b0 b1 b2 commits most ps.length (ps.flatMap pairC) e w') :
    SPost B X w0 w pb ps b0 b1 b2 commits most e w' := by
  obtain ⟨e1, hk | ⟨xb, cb, D, R, v, hp, h0, hr, hb, hk, hn, hv, hs⟩⟩ := ht
  · exact ⟨e1, hk.mono (fun _ => False.elim), ps, vps, commits, h.kept hk, by omega, .inl rfl, fun M hM p hp => Nat.le_succ_of_le (hM p hp)⟩
  · obtain ⟨z1, z2⟩ := h.more hp hr hb hk hn hv hs
    exact ⟨e1, z2, _, _, _, z1, by simp, .inl rfl, fun M hM p hp => by
      rw [List.mem_append, List.mem_singleton] at hp
      rcases hp with hp | rfl
      · exact Nat.le_succ_of_le (hM p hp)
      · show R.uses.length ≤ M + 1; omega⟩

theorem SPost.from {B : Nat} {X : Nat → Prop} {w0 w w1 w' : World} {pb : Nat} {ps : List PairE} {b0 b1 b2 : Value} {commits most : Int} {e : Ending} (h : SPost B X w0 w1 pb ps b0 b1 b2 commits most e w') (k : Kept (fun _ => False) w w1) : SPost B X w0 w pb ps b0 b1 b2 commits most e w' := by
  obtain ⟨e1, hk, r⟩ := h
  exact ⟨e1, k.trans hk (fun _ => False.elim) (fun _ _ => id), r⟩

end Go.Proofs.YtpfcacedpkaihaaGreat
