/- The keeping laws' own functions (package almanackeep): commit, walked. -/
import Derived.Test.YtpfcacedpkaihabKkKl
import Derived.Deep.RegionHeld3
import Derived.Deep.DeepCutAuto
namespace Go.Proofs.Ytpfcacedpkaihab
open Go.RowKit

set_option maxRecDepth 100000 in
set_option maxHeartbeats 4000000 in
theorem kcommit (w0 : Fr) (w : World) (pb n : Nat) (K : KS) (D : DevS) (o : StE) (h : KInv w0 w pb n K D) (ho : StOk w o) (hn : n < 9223372036854775807) :
    Calls Try.prog 22 #[.pointer (some ⟨pb, 0, none⟩), .agg #[.int .i64 o.kd, .int .i64 o.b, .int .i64 o.c, .string o.s, .slice o.ka o.kn o.kc, .slice o.va o.vn o.vc]] w fun e w' => e = .returned (.tuple #[]) ∧ KPost w0 pb n K D w' := by
  obtain ⟨hs1, hs2, hs3⟩ := h.ki.lastSt
  obtain ⟨m, hm⟩ : ∃ m, m = D.past.length := ⟨_, rfl⟩
  have hm7 : m ≤ 700 := by rw [hm]; exact h.ki.good.pmax
  have hsl : K.states.length = m + 1 := by rw [hm]; exact hs1
  have htl : K.ticks.length = m + 1 := by rw [hm]; exact hs2
  obtain ⟨g, cs, hvs, hog, hgl⟩ := h.core.keep.states.block (by omega)
  rw [hsl] at hvs
  obtain ⟨at', ct, hvt, _⟩ := h.core.keep.ticks.form
  rw [htl] at hvt
  obtain ⟨s0, hs0⟩ : ∃ s0, s0 = D.pu.lastSt := ⟨_, rfl⟩
  have hsm : K.states[m]? = some s0 := by rw [hm, hs0]; exact hs3
  have hml : m < K.states.length := by omega
  have hkn := ho.klen
  have HWT : Hid (∀ W, Kept (fun _ => False) w W → Calls Try.prog 45 #[.agg #[.int .i64 o.kd, .int .i64 o.b, .int .i64 o.c, .string o.s, .slice o.ka o.kn o.kc, .slice o.va o.vn o.vc]] W fun e w' => KWritesPost W o.kn e w') := fun W hW => kwrites W o (ho.kept hW)
  have HCE : Hid (∀ W, Kept (fun _ => False) w W → W.cell? ⟨pb, 0, none⟩ = some (.pointer (some ⟨K.xb, 0, none⟩)) ∧ W.cell? ⟨pb, 3, none⟩ = some (.slice (some ⟨g, 0, none⟩) (m + 1) cs) ∧ (∀ f u, (stL s0)[f]? = some u → W.cell? ⟨g, m * 8 + f, none⟩ = some u)) := fun W hW => by
    have hk := h.core.keep.kept hW (fun _ _ => id)
    refine ⟨hk.c0, by rw [← hvs]; exact hk.c3, fun f u hu => hk.states.cell hog _ u ?_⟩
    have hf : f < 8 := by have := (List.getElem?_eq_some_iff.mp hu).1; simpa [stL] using this
    rw [state_at K.states m hml f hf, ← hu, (List.getElem?_eq_some_iff.mp hsm).2]
  have HNW : Hid (∀ W, W.cell? ⟨pb, 3, none⟩ = some (.slice (some ⟨g, 0, none⟩) (m + 1) cs) → Calls Try.prog 17 #[.pointer (some ⟨pb, 0, none⟩)] W fun e w' => e = .returned (.int .i64 (m : Int)) ∧ W = w') := fun W hW => knewest_c W pb _ m cs hW (by omega)
  have HNO : Hid (∀ (W : World) (ao : Option Addr) (cap : Nat) (ws : List (Int × Int)) (er : Int), Kept (fun _ => False) w W → Wr W ao o.kn ws → D.pu.commit o.kn ws = (0, er, D.pu) → Calls Try.prog 46 #[.pointer (some ⟨K.xb, 0, none⟩), .slice ao o.kn cap] W fun e w' => e = .returned (.tuple #[.int .u64 0, .int .i64 er]) ∧ (w'.cell? ⟨pb, 8, none⟩ = some (.bool true) ∧ (∀ i, w'.frozen? ⟨pb, i, none⟩ = false) ∧ Hid (KPost w0 pb n K D (w'.setCell ⟨pb, 8, none⟩ (.bool true))))) := fun W ao cap ws er hW hwr hE => by
    have hC := h.core.kept hW
    refine (dCommit W K.xb D ao o.kn cap ws hC.dev (h.walk hn) hwr (by unfold maxLen; omega)).mono fun e w' hp => ?_
    rw [hE] at hp
    obtain ⟨e1, D', e2, hB⟩ := hp
    have hC2 := hC.prog hB
    have s1 := hC2.keep.setOwn (K' := { K with ok := true }) 8 (.bool true) rfl rfl
    refine ⟨e1, by have := hC2.keep.c8; rw [h.ok] at this; exact this, fun i => hC2.keep.blk.free i, ?_⟩
    refine ⟨{ K with ok := true }, D', ⟨hC2.turn s1 rfl, by rw [e2]; exact h.ki.more (Nat.le_succ _), h.open', rfl⟩, by rw [e2]; exact .same _ _⟩
  have HYES : Hid (∀ (W : World) (ao : Option Addr) (cap : Nat) (ws : List (Int × Int)), Kept (fun _ => False) w W → Wr W ao o.kn ws → o.kn ≤ 8 → ws.all keyOk = true → m < 700 → Calls Try.prog 46 #[.pointer (some ⟨K.xb, 0, none⟩), .slice ao o.kn cap] W fun e w' => e = .returned (.tuple #[.int .u64 ((m : Int) + 1), .int .i64 0]) ∧ Hid (∃ D', D'.pu = D.pu.push (D.pu.nextP ws) ∧ KCore w0 w' pb K D' ∧ Kept (D.fp K.xb) W w')) := fun W ao cap ws hW hwr h8 hall h7 => by
    have hC := h.core.kept hW
    refine (dCommit W K.xb D ao o.kn cap ws hC.dev (h.walk hn) hwr (by unfold maxLen; omega)).mono fun e w' hp => ?_
    have hE : D.pu.commit o.kn ws = (m + 1, 0, D.pu.push (D.pu.nextP ws)) := by
      rw [DP.commit, if_neg (by omega), if_neg (by rw [hall]; simp), if_neg (show ¬ 700 ≤ D.pu.past.length by show ¬ 700 ≤ D.past.length; omega), hm]; rfl
    rw [hE] at hp
    obtain ⟨e1, D', e2, hB⟩ := hp
    exact ⟨by rw [e1]; simp, D', e2, hC.prog hB, hB.2.1⟩
  have HP0 : Hid (∀ ws, D.pu.nextP ws = writesP ⟨s0, 0, D.clock⟩ ws) := fun ws => by rw [hs0]; rfl
  have HDF : Hid (∀ k, D.fp K.xb k → k < w.heap.size) := h.core.dev.lt
  have HE3 : Hid (∀ ws : List (Int × Int), 8 < o.kn → D.pu.commit o.kn ws = (0, 3, D.pu)) := fun ws h8 => by rw [DP.commit, if_pos h8]
  have HE5 : Hid (∀ ws : List (Int × Int), ¬ 8 < o.kn → ws.all keyOk = false → D.pu.commit o.kn ws = (0, 5, D.pu)) := fun ws h8 hk => by rw [DP.commit, if_neg h8, if_pos hk]
  have HE6 : Hid (∀ ws : List (Int × Int), ¬ 8 < o.kn → ws.all keyOk = true → 700 ≤ m → D.pu.commit o.kn ws = (0, 6, D.pu)) := fun ws h8 hk h7 => by rw [DP.commit, if_neg h8, if_neg (by rw [hk]; simp), if_pos (show 700 ≤ D.pu.past.length by show 700 ≤ D.past.length; omega)]
  have HV : Hid (K.vs = (.slice (some ⟨g, 0, none⟩) (m + 1) cs) ∧ K.vt = .slice at' (m + 1) ct) := ⟨hvs, hvt⟩
  have HAP1 : Hid (∀ (W W1 w' : World) (v' : Value) (s : Nat → Int) (D' : DevS), KCore w0 W pb K D' → Kept (fun _ => False) W W1 → Appended W1 w' 64 8 (.slice (some ⟨g, 0, none⟩) (m + 1) cs) v' (m + 1) 1 (K.states.flatMap stL) (stL s) → (w'.cell? ⟨pb, 3, none⟩ = some (.slice (some ⟨g, 0, none⟩) (m + 1) cs) ∧ w'.frozen? ⟨pb, 3, none⟩ = false) ∧ KCore w0 (w'.setCell ⟨pb, 3, none⟩ v') pb { K with states := K.states ++ [s], vs := v' } D') := by
    intro W W1 w' v' s D' hC hk hA
    rw [← hvs] at hA
    obtain ⟨hblk, hA2⟩ := hC.keep.appIn 0 ⟨64, 8, K.vs, K.states.length, K.states.flatMap stL⟩ rfl rfl hk hA
    rw [← hsl] at hA2
    exact ⟨⟨by rw [hblk.cell 3, ← hvs]; rfl, hblk.free 3⟩, hC.turn (hC.keep.pushS s v' hA2) rfl⟩
  have HAP2 : Hid (∀ (W W1 w' : World) (v' u' : Value) (s : Nat → Int) (D' : DevS), KCore w0 W pb { K with states := K.states ++ [s], vs := v' } D' → Kept (fun _ => False) W W1 → Appended W1 w' 3 1 (.slice at' (m + 1) ct) u' (m + 1) 1 (K.ticks.flatMap tickC) (tickC K.clock) → (w'.cell? ⟨pb, 4, none⟩ = some (.slice at' (m + 1) ct) ∧ w'.frozen? ⟨pb, 4, none⟩ = false) ∧ KCore w0 (w'.setCell ⟨pb, 4, none⟩ u') pb { K with states := K.states ++ [s], vs := v', ticks := K.ticks ++ [K.clock], vt := u' } D') := by
    intro W W1 w' v' u' s D' hC hk hA
    rw [← hvt] at hA
    obtain ⟨hblk, hA2⟩ := hC.keep.appIn 1 ⟨3, 1, K.vt, K.ticks.length, K.ticks.flatMap tickC⟩ rfl rfl hk hA
    rw [← htl] at hA2
    exact ⟨⟨by rw [hblk.cell 4, ← hvt]; rfl, hblk.free 4⟩, hC.turn (hC.keep.pushT K.clock u' hA2) rfl⟩
  have HFIN : Hid (∀ (W : World) (v' u' : Value) (s : Nat → Int) (ws : List (Int × Int)) (D' : DevS), ws.all keyOk = true → m < 700 → D'.pu = D.pu.push (D.pu.nextP ws) → s = (D.pu.nextP ws).st → KCore w0 W pb { K with states := K.states ++ [s], vs := v', ticks := K.ticks ++ [K.clock], vt := u' } D' → KPost w0 pb n K D (W.setCell ⟨pb, 8, none⟩ (.bool true))) := by
    intro W v' u' s ws D' hall h7 e' hs hC
    have s1 := hC.keep.setOwn (K' := { K with states := K.states ++ [s], vs := v', ticks := K.ticks ++ [K.clock], vt := u', ok := true }) 8 (.bool true) rfl rfl
    have hstep : KStep K.q D.pu ({ K with states := K.states ++ [s], vs := v', ticks := K.ticks ++ [K.clock], vt := u', ok := true } : KS).q D'.pu := by
      rw [e', hs]
      exact .commit K.q D.pu ws hall (by show D.past.length < 700; omega)
    exact ⟨{ K with states := K.states ++ [s], vs := v', ticks := K.ticks ++ [K.clock], vt := u', ok := true }, D', ⟨hC.turn s1 rfl, h.ki.step hstep, h.open', rfl⟩, hstep⟩
  have HR1 : Hid (∀ W D', KCore w0 W pb K D' → Row W 64 8 (.slice (some ⟨g, 0, none⟩) (m + 1) cs) (m + 1) (K.states.flatMap stL) ∧ W.cell? ⟨pb, 3, none⟩ = some (.slice (some ⟨g, 0, none⟩) (m + 1) cs)) := fun W D' hC => ⟨by rw [← hvs, ← hsl]; exact hC.keep.states, by rw [← hvs]; exact hC.keep.c3⟩
  have HR2 : Hid (∀ W D' (s : Nat → Int) (v' : Value), KCore w0 W pb { K with states := K.states ++ [s], vs := v' } D' → Row W 3 1 (.slice at' (m + 1) ct) (m + 1) (K.ticks.flatMap tickC) ∧ W.cell? ⟨pb, 4, none⟩ = some (.slice at' (m + 1) ct) ∧ W.cell? ⟨pb, 5, none⟩ = some (.int .i64 K.clock)) := fun W D' s v' hC => ⟨by rw [← hvt, ← htl]; exact hC.keep.ticks, by rw [← hvt]; exact hC.keep.c4, hC.keep.c5⟩
  have HR3 : Hid (∀ W D' (s : Nat → Int) (v' u' : Value), KCore w0 W pb { K with states := K.states ++ [s], vs := v', ticks := K.ticks ++ [K.clock], vt := u' } D' → W.cell? ⟨pb, 3, none⟩ = some v' ∧ W.cell? ⟨pb, 8, none⟩ = some (.bool true) ∧ (∀ i, W.frozen? ⟨pb, i, none⟩ = false)) := fun W D' s v' u' hC => ⟨hC.keep.c3, by have := hC.keep.c8; rw [← h.ok]; exact this, fun i => hC.keep.blk.free i⟩
  have HN2 : Hid (∀ W (ao' : Option Addr) (cap' : Nat), W.cell? ⟨pb, 3, none⟩ = some (.slice ao' (m + 1 + 1) cap') → Calls Try.prog 17 #[.pointer (some ⟨pb, 0, none⟩)] W fun e w' => e = .returned (.int .i64 ((m : Int) + 1)) ∧ W = w') := fun W ao' cap' hW => by
    have := knewest_c W pb ao' (m + 1) cap' hW (by omega)
    simpa using this
  have hm0 : (0 : Int) ≤ (m : Int) := by omega
  have hm1 : (m : Int) < (m : Int) + 1 := by omega
  clear h ho hs1 hs2 hs3 hm hsl htl hvs hog hgl hvt hs0 hsm hml hn
  go_enter Try.func22, Try.ntmps22
  go_wp2_with (go_at_call 45; refine (HWT.out _ (Kept.alloc _ _ _)).mono ?_; rintro e w1 ⟨ao, cap, ws, rfl, hwr, hk1, _⟩)
  have HK1 : Hid (Kept (fun _ => False) w w1 ∧ Wr w1 ao o.kn ws) := ⟨(Kept.alloc _ _ (fun _ => False)).trans hk1 (fun _ => id) (fun _ _ => id), hwr⟩
  clear hwr hk1 HWT
  obtain ⟨c0, c3, cst⟩ := HCE.out w1 HK1.out.1
  have t0 : w1.cell? ⟨g, m * 8, none⟩ = some (.int .i32 (s0 0)) := cst 0 _ rfl
  have t1 : w1.cell? ⟨g, m * 8 + 1, none⟩ = some (.int .i32 (s0 1)) := cst 1 _ rfl
  have t2 : w1.cell? ⟨g, m * 8 + 2, none⟩ = some (.int .i32 (s0 2)) := cst 2 _ rfl
  have t3 : w1.cell? ⟨g, m * 8 + 3, none⟩ = some (.int .i32 (s0 3)) := cst 3 _ rfl
  have t4 : w1.cell? ⟨g, m * 8 + 4, none⟩ = some (.int .i32 (s0 4)) := cst 4 _ rfl
  have t5 : w1.cell? ⟨g, m * 8 + 5, none⟩ = some (.int .i32 (s0 5)) := cst 5 _ rfl
  have t6 : w1.cell? ⟨g, m * 8 + 6, none⟩ = some (.int .i32 (s0 6)) := cst 6 _ rfl
  have t7 : w1.cell? ⟨g, m * 8 + 7, none⟩ = some (.int .i32 (s0 7)) := cst 7 _ rfl
  have y3 := World.new_ne w1 _ c3
  have z0 := World.new_ne w1 _ t0
  have z1 := World.new_ne w1 _ t1
  have z2 := World.new_ne w1 _ t2
  have z3 := World.new_ne w1 _ t3
  have z4 := World.new_ne w1 _ t4
  have z5 := World.new_ne w1 _ t5
  have z6 := World.new_ne w1 _ t6
  have z7 := World.new_ne w1 _ t7
  clear cst
  go_cut [5] (fun v wx => v = .pointer (some ⟨w1.heap.size, 0, none⟩) ∧ Hid (Kept (fun _ => False) w1 wx ∧ Blk wx w1.heap.size 64 (stC s0)))
  case first =>
    go_region_held3 (fun w' => w'.cell? ⟨pb, 3, none⟩ = some (.slice (some ⟨g, 0, none⟩) (m + 1) cs) ∧ w'.cell? ⟨g, m * 8, none⟩ = some (.int .i32 (s0 0)) ∧ w'.cell? ⟨g, m * 8 + 1, none⟩ = some (.int .i32 (s0 1)) ∧ w'.cell? ⟨g, m * 8 + 2, none⟩ = some (.int .i32 (s0 2)) ∧ w'.cell? ⟨g, m * 8 + 3, none⟩ = some (.int .i32 (s0 3)) ∧ w'.cell? ⟨g, m * 8 + 4, none⟩ = some (.int .i32 (s0 4)) ∧ w'.cell? ⟨g, m * 8 + 5, none⟩ = some (.int .i32 (s0 5)) ∧ w'.cell? ⟨g, m * 8 + 6, none⟩ = some (.int .i32 (s0 6)) ∧ w'.cell? ⟨g, m * 8 + 7, none⟩ = some (.int .i32 (s0 7))) (go_keep) ((go_at_call 17; refine (HNW.out _ ?_).mono ?_; (simp [*]); rintro e w' ⟨rfl, rfl⟩))
    all_goals
      go_wp2
      go_meet
      case rel => exact ⟨rfl, (Kept.alloc _ _ _).drew, Blk.same (Blk.new w1 _ _) rfl⟩
  case rest =>
    obtain ⟨rfl, HCN⟩ := hcut
    clear c0 c3 t0 t1 t2 t3 t4 t5 t6 t7 y3 z0 z1 z2 z3 z4 z5 z6 z7
    go_wp2
    go_loopw [6, 7] (fun wn iv wr => ∃ (j : Nat) (x : Int) (s : Nat → Int), j ≤ o.kn ∧ iv = .int .i64 j ∧ wn = .int .i64 x ∧ Hid (x = (if (ws.take j).all keyOk = true then 0 else 5) ∧ ((ws.take j).all keyOk = true → s = (writesP ⟨s0, 0, D.clock⟩ (ws.take j)).st)) ∧ Hid (Kept (fun _ => False) w1 wr ∧ Blk wr w1.heap.size 64 (stC s))) (fun _ iv _ => o.kn - (intOf iv).toNat)
    case atStart => exact ⟨0, 0, s0, Nat.zero_le _, rfl, rfl, ⟨rfl, fun _ => rfl⟩, HCN.out.1, HCN.out.2⟩
    case round =>
      obtain ⟨j, wn, s, hj, rfl, rfl, HS, HB⟩ := hrel
      have hwl := HK1.out.2.len
      by_cases hlt : j < o.kn
      · have hlt' : j < ws.length := by omega
        obtain ⟨bl, off, hao, zz0, zz1⟩ := HK1.out.2.cell j hlt'
        have hbl : bl < w1.heap.size := World.block_lt_of_cell? w1 _ zz0
        have c0 := HB.out.1.hold zz0
        have c1 := HB.out.1.hold zz1
        clear zz0 zz1
        obtain ⟨x, hx⟩ : ∃ x, ws[j].1 = x := ⟨_, rfl⟩
        obtain ⟨y, hy⟩ : ∃ y, ws[j].2 = y := ⟨_, rfl⟩
        rw [hx] at c0
        rw [hy] at c1
        have hkx : keyOk ws[j] = (decide (0 ≤ x) && decide (x < 8)) := by rw [keyOk, hx]
        have hj0 : (0 : Int) ≤ (j : Int) := by omega
        have hj1 : (j : Int) < (o.kn : Int) := by omega
        have hta : (ws.take (j + 1)).all keyOk = ((ws.take j).all keyOk && keyOk ws[j]) := by rw [List.take_succ_eq_append_getElem hlt', List.all_append, List.all_cons, List.all_nil, Bool.and_true]
        have HTA : Hid ((ws.take (j + 1)).all keyOk = ((ws.take j).all keyOk && (decide (0 ≤ x) && decide (x < 8)))) := by rw [← hkx]; exact hta
        have HSN : Hid (writesP ⟨s0, 0, D.clock⟩ (ws.take (j + 1)) = writeP (writesP ⟨s0, 0, D.clock⟩ (ws.take j)) (x, y)) := by
          have := writesP_snoc ⟨s0, 0, D.clock⟩ ws j hlt'
          rw [this, ← hx, ← hy]; rfl
        subst hao
        clear hkx hta hx hy hwl
        by_cases hx0 : x < 0
        · have hd : decide (x < 0) = true := by simpa using hx0
          have HF : Hid ((ws.take (j + 1)).all keyOk = false) := by rw [HTA.out, decide_eq_false (show ¬ 0 ≤ x by omega), Bool.false_and, Bool.and_false]; rfl
          go_wp2
          go_roundw
          case rel => exact ⟨j + 1, 5, s, by omega, by go_num, rfl, ⟨by rw [HF.out]; rfl, fun hh => by rw [HF.out] at hh; cases hh⟩, HB.out⟩
          case measure => simp [intOf]; omega
        · have hd : decide (x < 0) = false := by simpa using hx0
          by_cases hx8 : 8 ≤ x
          · have HF : Hid ((ws.take (j + 1)).all keyOk = false) := by rw [HTA.out, decide_eq_false (show ¬ x < 8 by omega), Bool.and_false, Bool.and_false]; rfl
            go_wp2
            go_roundw
            case rel => exact ⟨j + 1, 5, s, by omega, by go_num, rfl, ⟨by rw [HF.out]; rfl, fun hh => by rw [HF.out] at hh; cases hh⟩, HB.out⟩
            case measure => simp [intOf]; omega
          · obtain ⟨kk, rfl⟩ : ∃ kk : Nat, x = kk := ⟨x.toNat, by omega⟩
            have hk7 : kk ≤ 7 := by omega
            have hk8 : (kk : Int) < 8 := by omega
            have hk0 : (0 : Int) ≤ (kk : Int) := by omega
            have HT : Hid ((ws.take (j + 1)).all keyOk = (ws.take j).all keyOk) := by rw [HTA.out, decide_eq_true hk0, decide_eq_true hk8, Bool.and_true, Bool.and_true]; rfl
            have d0 := HB.out.2.cell kk
            rw [stC_at (q := ⟨s, 0, 0⟩) hk7] at d0
            have f0 := HB.out.2.free kk
            go_wp2
            go_region
            all_goals
              go_wp2
              go_roundw
              case rel =>
                refine ⟨j + 1, wn, (writeP ⟨s, 0, 0⟩ ((kk : Int), y)).st, by omega, by go_num, rfl, ⟨by rw [HT.out]; exact HS.out.1, fun hh => ?_⟩, (HB.out.1.setNew _ _ _ (Nat.le_refl _)).drew, ?_⟩
                · rw [HT.out] at hh
                  rw [HSN.out, HS.out.2 hh]; rfl
                · have := HB.out.2.set kk (.int .i32 y)
                  rw [stC_set (q := ⟨s, 0, 0⟩) hk7] at this
                  exact this
              case measure => simp [intOf]; omega
      · have hje : j = ws.length := by omega
        have HKR : Hid (Kept (fun _ => False) w wr) := HK1.out.1.trans HB.out.1 (fun _ => id) (fun _ _ => id)
        have HWR : Hid (Wr wr ao o.kn ws) := HK1.out.2.kept HB.out.1 (fun _ _ => id)
        obtain rfl : j = o.kn := by omega
        rw [← hwl, List.take_length] at HS
        obtain ⟨c0, c3, _⟩ := HCE.out wr HKR.out
        clear hje hlt hj hwl HCN
        by_cases h8 : 8 < o.kn
        · have h8' : (8 : Int) < (o.kn : Int) := by omega
          have HDE : Hid (Calls Try.prog 46 #[.pointer (some ⟨K.xb, 0, none⟩), .slice ao o.kn cap] wr fun e w' => e = .returned (.tuple #[.int .u64 0, .int .i64 3]) ∧ (w'.cell? ⟨pb, 8, none⟩ = some (.bool true) ∧ (∀ i, w'.frozen? ⟨pb, i, none⟩ = false) ∧ Hid (KPost w0 pb n K D (w'.setCell ⟨pb, 8, none⟩ (.bool true))))) := HNO.out wr ao cap ws 3 HKR.out HWR.out (HE3.out ws h8)
          clear HNO HYES HWR HS
          go_wp2_with first
            | (go_at_call 17; refine (HNW.out _ c3).mono ?_; rintro e w' ⟨rfl, rfl⟩)
            | (go_at_call 46; refine HDE.out.mono ?_; rintro e w2 ⟨rfl, hk2⟩; obtain ⟨d8, df, hP⟩ := hk2)
          (try simp only [Exit.inBlock, Exit.then])
          refine bodyPost_ret (results_none rfl _ _ _) rfl ?_
          exact ⟨rfl, hP.out⟩
        · have h8' : ¬ (8 : Int) < (o.kn : Int) := by omega
          cases hall : ws.all keyOk with
          | false =>
            have hwn : wn = 5 := by have := HS.out.1; rw [hall] at this; exact this
            subst hwn
            have HDE : Hid (Calls Try.prog 46 #[.pointer (some ⟨K.xb, 0, none⟩), .slice ao o.kn cap] wr fun e w' => e = .returned (.tuple #[.int .u64 0, .int .i64 5]) ∧ (w'.cell? ⟨pb, 8, none⟩ = some (.bool true) ∧ (∀ i, w'.frozen? ⟨pb, i, none⟩ = false) ∧ Hid (KPost w0 pb n K D (w'.setCell ⟨pb, 8, none⟩ (.bool true))))) := HNO.out wr ao cap ws 5 HKR.out HWR.out (HE5.out ws h8 hall)
            clear HNO HYES HWR HS
            go_wp2_with first
              | (go_at_call 17; refine (HNW.out _ c3).mono ?_; rintro e w' ⟨rfl, rfl⟩)
              | (go_at_call 46; refine HDE.out.mono ?_; rintro e w2 ⟨rfl, hk2⟩; obtain ⟨d8, df, hP⟩ := hk2)
            (try simp only [Exit.inBlock, Exit.then])
            refine bodyPost_ret (results_none rfl _ _ _) rfl ?_
            exact ⟨rfl, hP.out⟩
          | true =>
            have hwn : wn = 0 := by have := HS.out.1; rw [hall] at this; exact this
            subst hwn
            by_cases h7 : 700 ≤ m
            · have h7' : (700 : Int) ≤ (m : Int) := by omega
              have HDE : Hid (Calls Try.prog 46 #[.pointer (some ⟨K.xb, 0, none⟩), .slice ao o.kn cap] wr fun e w' => e = .returned (.tuple #[.int .u64 0, .int .i64 6]) ∧ (w'.cell? ⟨pb, 8, none⟩ = some (.bool true) ∧ (∀ i, w'.frozen? ⟨pb, i, none⟩ = false) ∧ Hid (KPost w0 pb n K D (w'.setCell ⟨pb, 8, none⟩ (.bool true))))) := HNO.out wr ao cap ws 6 HKR.out HWR.out (HE6.out ws h8 hall h7)
              clear HNO HYES HWR HS
              go_wp2_with first
                | (go_at_call 17; refine (HNW.out _ c3).mono ?_; rintro e w' ⟨rfl, rfl⟩)
                | (go_at_call 46; refine HDE.out.mono ?_; rintro e w2 ⟨rfl, hk2⟩; obtain ⟨d8, df, hP⟩ := hk2)
              (try simp only [Exit.inBlock, Exit.then])
              refine bodyPost_ret (results_none rfl _ _ _) rfl ?_
              exact ⟨rfl, hP.out⟩
            · have h7' : ¬ (700 : Int) ≤ (m : Int) := by omega
              have HDE : Hid (Calls Try.prog 46 #[.pointer (some ⟨K.xb, 0, none⟩), .slice ao o.kn cap] wr fun e w' => e = .returned (.tuple #[.int .u64 ((m : Int) + 1), .int .i64 0]) ∧ Hid (∃ D', D'.pu = D.pu.push (D.pu.nextP ws) ∧ KCore w0 w' pb K D' ∧ Kept (D.fp K.xb) wr w')) := HYES.out wr ao cap ws HKR.out HWR.out (by omega) hall (by omega)
              have HSE : Hid (s = (D.pu.nextP ws).st ∧ ws.all keyOk = true) := ⟨by rw [HP0.out]; exact HS.out.2 hall, hall⟩
              have HNF : Hid (¬ D.fp K.xb w1.heap.size) := fun hf => by
                have h1 := HDF.out _ hf
                have h2 := HK1.out.1.size
                omega
              have hm7' : m < 700 := by omega
              clear HNO HYES HWR HS hall h7
              go_wp2_with first
                | (go_at_call 17; refine (HNW.out _ c3).mono ?_; rintro e w' ⟨rfl, rfl⟩)
                | (go_at_call 46; refine HDE.out.mono ?_; rintro e w2 ⟨rfl, hk2⟩; obtain ⟨D', e', hC, hk⟩ := hk2.out; have HC2 : Hid (D'.pu = D.pu.push (D.pu.nextP ws) ∧ KCore w0 w2 pb K D' ∧ Blk w2 w1.heap.size 64 (stC s)) := ⟨e', hC, HB.out.2.kept hk HNF.out⟩; clear hk2 e' hC hk)
              clear c0 c3 HDE
              have HROW : Hid (∀ ob : Obj, Row ((w2.alloc ob).drew) 64 8 (.slice (some ⟨g, 0, none⟩) (m + 1) cs) (m + 1) (K.states.flatMap stL)) := fun ob => (HR1.out _ _ HC2.out.2.1).1.kept ((Kept.alloc w2 ob (fun _ => False)).drew) (fun _ _ => id)
              have g3 := (HR1.out _ _ HC2.out.2.1).2
              have qg3 : ∀ ob : Obj, (w2.alloc ob).cell? ⟨pb, 3, none⟩ = some (.slice (some ⟨g, 0, none⟩) (m + 1) cs) := fun ob => hold_al g3
              have d0 : w2.cell? ⟨w1.heap.size, 0, none⟩ = some (.int .i32 (s 0)) := HC2.out.2.2.cell 0
              have d1 : w2.cell? ⟨w1.heap.size, 1, none⟩ = some (.int .i32 (s 1)) := HC2.out.2.2.cell 1
              have d2 : w2.cell? ⟨w1.heap.size, 2, none⟩ = some (.int .i32 (s 2)) := HC2.out.2.2.cell 2
              have d3 : w2.cell? ⟨w1.heap.size, 3, none⟩ = some (.int .i32 (s 3)) := HC2.out.2.2.cell 3
              have d4 : w2.cell? ⟨w1.heap.size, 4, none⟩ = some (.int .i32 (s 4)) := HC2.out.2.2.cell 4
              have d5 : w2.cell? ⟨w1.heap.size, 5, none⟩ = some (.int .i32 (s 5)) := HC2.out.2.2.cell 5
              have d6 : w2.cell? ⟨w1.heap.size, 6, none⟩ = some (.int .i32 (s 6)) := HC2.out.2.2.cell 6
              have d7 : w2.cell? ⟨w1.heap.size, 7, none⟩ = some (.int .i32 (s 7)) := HC2.out.2.2.cell 7
              have HX1 : Hid (∀ (ob : Obj) (w' : World) (v' : Value), Appended ((w2.alloc ob).drew) w' 64 8 (.slice (some ⟨g, 0, none⟩) (m + 1) cs) v' (m + 1) 1 (K.states.flatMap stL) (stL s) → (w'.cell? ⟨pb, 3, none⟩ = some (.slice (some ⟨g, 0, none⟩) (m + 1) cs) ∧ w'.frozen? ⟨pb, 3, none⟩ = false) ∧ Hid (KCore w0 (w'.setCell ⟨pb, 3, none⟩ v') pb { K with states := K.states ++ [s], vs := v' } D')) := fun ob w' v' hA => HAP1.out w2 _ w' v' s D' HC2.out.2.1 ((Kept.alloc w2 ob (fun _ => False)).drew) hA
              obtain ⟨i0, hi, hz0, hz1, hz2⟩ := info_parts Try.infoState8
              have HI : Hid (Try.prog.info? 64 = some i0 ∧ i0.zero = some (.agg #[.int .i32 0, .int .i32 0, .int .i32 0, .int .i32 0, .int .i32 0, .int .i32 0, .int .i32 0, .int .i32 0]) ∧ i0.size = 8 ∧ i0.bytes = 32) := ⟨hi, hz0, hz1, hz2⟩
              obtain ⟨i1, hi', hz0', hz1', hz2'⟩ := info_parts Try.infoTick1
              have HI1 : Hid (Try.prog.info? 3 = some i1 ∧ i1.zero = some (.int .i64 0) ∧ i1.size = 1 ∧ i1.bytes = 8) := ⟨hi', hz0', hz1', hz2'⟩
              clear hi hz0 hz1 hz2 hi' hz0' hz1' hz2'
              have b1 : m + 1 + 1 ≤ maxLen := by unfold maxLen; omega
              have b2 : (m + 1 + 1) * 32 ≤ 140737488355328 := by omega
              have b3 : (m + 1 + 1) * 8 ≤ 140737488355328 := by omega
              go_region_law (refine step_append_mine rfl (.tmp 93) (.tmp 95) 26 rfl 64 i0 (.agg #[.int .i32 0, .int .i32 0, .int .i32 0, .int .i32 0, .int .i32 0, .int .i32 0, .int .i32 0, .int .i32 0]) 8 32 Try.underlying26 HI.out.1 HI.out.2.1 HI.out.2.2.1 HI.out.2.2.2 rfl (Nat.succ_pos 7) (.slice (some ⟨g, 0, none⟩) (m + 1) cs) (m + 1) (K.states.flatMap stL) rfl (HROW.out _) ⟨w2.heap.size, 0, none⟩ 1 1 (stL s) rfl rfl (fun j u hj => news_st w2 s _ j u hj) (oneCell_st s) b1 b2 ?_; intro v' w' hA; obtain ⟨⟨p1, p2⟩, p4⟩ := HX1.out _ _ _ hA; obtain ⟨ao', cap', hv', _⟩ := hA.row.form; clear hA; subst hv')
              all_goals
                clear g3 qg3 d0 d1 d2 d3 d4 d5 d6 d7
                go_wp2
                clear p1 p2
                generalize w'.setCell ⟨pb, 3, none⟩ (.slice ao' (m + 1 + 1) cap') = W3 at p4 ⊢
                have HROW2 : Hid (∀ ob : Obj, Row ((W3.alloc ob).drew) 3 1 (.slice at' (m + 1) ct) (m + 1) (K.ticks.flatMap tickC)) := fun ob => (HR2.out _ _ _ _ p4.out).1.kept ((Kept.alloc W3 ob (fun _ => False)).drew) (fun _ _ => id)
                obtain ⟨_, g4, g5⟩ := HR2.out _ _ _ _ p4.out
                have qg4 : ∀ ob : Obj, (W3.alloc ob).cell? ⟨pb, 4, none⟩ = some (.slice at' (m + 1) ct) := fun ob => hold_al g4
                have qg5 : ∀ ob : Obj, (W3.alloc ob).cell? ⟨pb, 5, none⟩ = some (.int .i64 K.clock) := fun ob => hold_al g5
                have HX2 : Hid (∀ (ob : Obj) (w' : World) (u' : Value), Appended ((W3.alloc ob).drew) w' 3 1 (.slice at' (m + 1) ct) u' (m + 1) 1 (K.ticks.flatMap tickC) (tickC K.clock) → (w'.cell? ⟨pb, 4, none⟩ = some (.slice at' (m + 1) ct) ∧ w'.frozen? ⟨pb, 4, none⟩ = false) ∧ Hid (KCore w0 (w'.setCell ⟨pb, 4, none⟩ u') pb { K with states := K.states ++ [s], vs := .slice ao' (m + 1 + 1) cap', ticks := K.ticks ++ [K.clock], vt := u' } D')) := fun ob w' u' hA => HAP2.out W3 _ w' _ u' s D' p4.out ((Kept.alloc W3 ob (fun _ => False)).drew) hA
                go_region_law (refine step_append_mine rfl (.tmp 103) (.tmp 108) 27 rfl 3 i1 (.int .i64 0) 1 8 Try.underlying27 HI1.out.1 HI1.out.2.1 HI1.out.2.2.1 HI1.out.2.2.2 rfl (Nat.succ_pos 0) (.slice at' (m + 1) ct) (m + 1) (K.ticks.flatMap tickC) rfl (HROW2.out _) ⟨W3.heap.size, 0, none⟩ 1 1 (tickC K.clock) rfl rfl (fun j u hj => news_tk W3 K.clock _ j u hj) (oneCell_tk K.clock) b1 b3 ?_; intro u' w'' hA; obtain ⟨⟨p1, p2⟩, p5⟩ := HX2.out _ _ _ hA; obtain ⟨ao2, cap2, hv2, _⟩ := hA.row.form; clear hA; subst hv2)
                all_goals
                  clear g4 g5 qg4 qg5
                  obtain ⟨k3, k8, kf⟩ := HR3.out _ _ _ _ _ p5.out
                  have HP : Hid (KPost w0 pb n K D ((w''.setCell ⟨pb, 4, none⟩ (.slice ao2 (m + 1 + 1) cap2)).setCell ⟨pb, 8, none⟩ (.bool true))) := HFIN.out _ _ _ s ws D' HSE.out.2 hm7' HC2.out.1 HSE.out.1 p5.out
                  go_wp2_with (go_at_call 17; refine (HN2.out _ ao' cap' k3).mono ?_; rintro e w' ⟨rfl, rfl⟩)
                  go_end0
                  exact ⟨rfl, HP.out⟩

end Go.Proofs.Ytpfcacedpkaihab
