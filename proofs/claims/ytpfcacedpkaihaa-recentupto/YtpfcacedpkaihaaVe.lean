/- The law Recent (package almanackeep), walked at every script. -/
import Derived.Test.YtpfcacedpkaihaaVaVcVd
namespace Go.Proofs.Ytpfcacedpkaihaa
open Go.RowKit

/-- behind a step, in two ways. -/
def RSame (w : World) (pb j : Nat) (W' : World) (v : Value) (Nw : List Nat) : Prop := ∃ K' D', RI w pb (j + 1) W' v Nw K' D'
def RMore (w : World) (pb j m : Nat) (W' : World) (v : Value) (Nw : List Nat) (K' : KS) (D' : DevS) : Prop := m = D'.past.length ∧ KInv (frOf w) W' pb (j + 1) K' D' ∧ (∀ rd ∈ K'.q.rds, rd.told.length ≤ j + 1) ∧ Row W' 3 1 v Nw.length (Nw.flatMap nwC) ∧ (∀ x, v.ownBlock = some x → ¬ K'.fp pb x ∧ ¬ D'.fp K'.xb x ∧ w.heap.size ≤ x) ∧ GR K'.q D'.pu (Nw ++ [D'.past.length])
theorem rstep2 (w W : World) (pb j : Nat) (v : Value) (Nw : List Nat) (K : KS) (D : DevS) (o : StE) (h : RI w pb j W v Nw K D) (ho : StOk w o) (hj : j ≤ 1048576) :
    Calls Try.prog 16 #[.pointer (some ⟨pb, 0, none⟩), .agg #[.int .i64 o.kd, .int .i64 o.b, .int .i64 o.c, .string o.s, .slice o.ka o.kn o.kc, .slice o.va o.vn o.vc]] W fun e w' => e = .returned (.tuple #[]) ∧
      ((∃ ar cr, w'.cell? ⟨pb, 6, none⟩ = some (.slice ar K.rds.length cr) ∧ Hid (RSame w pb j w' v Nw)) ∨ (∃ ar cr sa cs m, w'.cell? ⟨pb, 6, none⟩ = some (.slice ar (K.rds.length + 1) cr) ∧ w'.cell? ⟨pb, 3, none⟩ = some (.slice sa (m + 1) cs) ∧ m ≤ 1000 ∧ Hid (∃ K' D', RMore w pb j m w' v Nw K' D'))) :=
  (rstep w W pb j v Nw K D o h ho hj).mono fun e w' hp => by
    refine ⟨hp.1, ?_⟩
    obtain ⟨K', D', a, b, c, d, f⟩ := hp.2
    obtain ⟨ar, cr, hvr, _⟩ := a.core.keep.rds.form
    have c6 := a.core.keep.c6
    rw [hvr] at c6
    rcases f with ⟨f, g⟩ | ⟨f, g⟩
    · rw [f] at c6
      exact .inl ⟨ar, cr, c6, K', D', a, b, g, c, d⟩
    · rw [f] at c6
      obtain ⟨sa, cs, hvs, _⟩ := a.core.keep.states.form
      have c3 := a.core.keep.c3
      have hs : K'.states.length = D'.past.length + 1 := a.ki.lastSt.1
      rw [hvs, hs] at c3
      exact .inr ⟨ar, cr, sa, cs, D'.past.length, c6, c3, Nat.le_trans a.ki.good.pmax (by omega), K', D', rfl, a, b, c, d, g⟩

/-- behind the end of a reader that was one. -/
def RLive (w : World) (pb j : Nat) (W' : World) (v : Value) (Nw : List Nat) (r lo hi nw m tl : Nat) (tick limit : Int) : Prop := ∃ K' D', RI w pb (j + 1) W' v Nw K' D' ∧ lo ≤ hi ∧ hi ≤ nw ∧ (tl = 0 → hi = nw) ∧ Nw[r]? = some nw ∧ lo ≤ m ∧ hi ≤ m ∧ m ≤ 700 ∧ K'.ticks.length = m + 1 ∧ K'.states.length = m + 1 ∧ (∀ (h : lo + 1 < K'.ticks.length), tick - limit ≤ K'.ticks[lo + 1]) ∧ 0 ≤ tick ∧ tick ≤ 100000 ∧ 0 ≤ limit ∧ limit ≤ 100000
theorem RLive.fresh {w : World} {pb j : Nat} {W' W : World} {v : Value} {Nw : List Nat} {r lo hi nw m tl : Nat} {tick limit : Int} (h : RLive w pb j W' v Nw r lo hi nw m tl tick limit) (k : Kept (fun _ => False) W' W) :
    Calls Try.prog 22 #[.pointer (some ⟨pb, 0, none⟩), .int .i64 (lo : Int), .int .i64 (tick - limit)] W fun e w' => e = .returned (.bool true) ∧ W = w' := by
  obtain ⟨K', D', hR, _, _, _, _, hlo, _, hm, ht, hs, hf, _⟩ := h
  exact kfresh W pb m lo K' (tick - limit) (hR.inv.core.keep.kept k (fun _ _ => id)) ht hs hlo hm hf
def REnd2 (w : World) (pb j : Nat) (v : Value) (Nw : List Nat) (kk : Int) (e : Ending) (w' : World) : Prop :=
  (e = .returned (.tuple #[.agg #[.int .i64 0, .int .i64 0, .slice none 0 0, .bool false], .agg #[.int .u64 0, .int .u64 0], .bool false]) ∧ Hid (∃ K' D', RI w pb (j + 1) w' v Nw K' D')) ∨
      (∃ (r lo hi nw m tl ct : Nat) (tick limit : Int) (at' : Option Addr), kk = (r : Int) ∧ e = .returned (.tuple #[.agg #[.int .i64 tick, .int .i64 limit, .slice at' tl ct, .bool true], .agg #[.int .u64 (lo : Int), .int .u64 (hi : Int)], .bool true]) ∧ Hid (RLive w pb j w' v Nw r lo hi nw m tl tick limit))
theorem rend2 (w W : World) (pb j : Nat) (v : Value) (Nw : List Nat) (K : KS) (D : DevS) (raw kk : Int) (h : RI w pb j W v Nw K D) (h1 : -9223372036854775808 ≤ raw) (h2 : raw ≤ 9223372036854775807) (hk : kk = whichK K.rds.length raw) :
    Calls Try.prog 17 #[.pointer (some ⟨pb, 0, none⟩), .int .i64 raw] W fun e w' => REnd2 w pb j v Nw kk e w' :=
  (rend w W pb j v Nw K D raw h h1 h2).mono fun e w' hp => by
    rcases hp with ⟨_, e1, hR⟩ | ⟨r, lo, hi, nw, m, tl, ct, tick, limit, at', K', D', e1, e2, hR⟩
    · exact .inl ⟨e1, hR⟩
    · exact .inr ⟨r, lo, hi, nw, m, tl, ct, tick, limit, at', by rw [hk, e1], e2, K', D', hR⟩

set_option maxRecDepth 100000 in
set_option maxHeartbeats 4000000 in
theorem recent_any (w : World) (a b : Int) (ao : Option Addr) (n cap : Nat) (os : List StE) (ha0 : -9223372036854775808 ≤ a) (ha1 : a ≤ 9223372036854775807) (hb0 : -9223372036854775808 ≤ b) (hb1 : b ≤ 9223372036854775807) (hsk : Sk w ao n os) (hn : n ≤ 1048576) (hok : ∀ o ∈ os, StOk w o) :
    Calls Try.prog 8 #[.int .i64 a, .int .i64 b, .slice ao n cap] w fun e w' => KLawPost w e w' := by
  have HBG : Hid (Calls Try.prog 15 #[.int .i64 a, .int .i64 b] w fun e w' => ∃ pb, e = .returned (.pointer (some ⟨pb, 0, none⟩)) ∧ Hid (∃ K D, RI w pb 0 w' (.slice none 0 0) [] K D)) := (kbegan w a b ha0 ha1 hb0 hb1).mono fun e w' hp => by
    obtain ⟨pb, m, r, K, D, e1, hI, e2, e3, _, _, _, _, e4⟩ := hp
    exact ⟨pb, e1, K, D, hI, (by rw [e3]; intro rd hrd; cases hrd), (by rw [e2]; exact GR.start e3), Row.nil _ _ _, fun x hx => by simp [Value.ownBlock] at hx⟩
  have HSK : Hid (Sk w ao n os ∧ ∀ o ∈ os, StOk w o) := ⟨hsk, hok⟩
  have HST : Hid (∀ (W : World) (pb j : Nat) (v : Value) (Nw : List Nat) (K : KS) (D : DevS) (o : StE), RI w pb j W v Nw K D → StOk w o → j ≤ 1048576 → Calls Try.prog 16 #[.pointer (some ⟨pb, 0, none⟩), .agg #[.int .i64 o.kd, .int .i64 o.b, .int .i64 o.c, .string o.s, .slice o.ka o.kn o.kc, .slice o.va o.vn o.vc]] W fun e w' => e = .returned (.tuple #[]) ∧
      ((∃ ar cr, w'.cell? ⟨pb, 6, none⟩ = some (.slice ar K.rds.length cr) ∧ Hid (RSame w pb j w' v Nw)) ∨ (∃ ar cr sa cs m, w'.cell? ⟨pb, 6, none⟩ = some (.slice ar (K.rds.length + 1) cr) ∧ w'.cell? ⟨pb, 3, none⟩ = some (.slice sa (m + 1) cs) ∧ m ≤ 1000 ∧ Hid (∃ K' D', RMore w pb j m w' v Nw K' D')))) := fun W pb j v Nw K D o h ho hj => rstep2 w W pb j v Nw K D o h ho hj
  have HRW : Hid (∀ (W' : World) (pb j m : Nat) (v : Value) (Nw : List Nat), (∃ K' D', RMore w pb j m W' v Nw K' D') → ∀ o, Row (W'.alloc o) 3 1 v Nw.length (Nw.flatMap nwC)) := fun W' pb j m v Nw h o => by
    obtain ⟨K', D', _, _, _, hr, _⟩ := h
    exact hr.kept (Kept.alloc W' o (fun _ => False)) (fun _ _ => id)
  have HFN : Hid (∀ (W' w' : World) (v' : Value) (o : Obj) (pb j m : Nat) (v : Value) (Nw : List Nat), (∃ K' D', RMore w pb j m W' v Nw K' D') → Appended (W'.alloc o) w' 3 1 v v' Nw.length 1 (Nw.flatMap nwC) (nwC m) → ∃ K' D', RI w pb (j + 1) w' v' (Nw ++ [m]) K' D') := fun W' w' v' o pb j m v Nw h hA => by
    obtain ⟨K', D', rfl, h1, h2, _, h4, h5⟩ := h
    exact ⟨K', D', RS.more h1 h2 h4 h5 (Kept.alloc W' o (fun _ => False)) hA⟩
  have hl := hsk.len
  obtain ⟨i0, hi', hz0, hz1, hz2⟩ := info_parts Try.infoTick1
  have HI : Hid (Try.prog.info? 3 = some i0 ∧ i0.zero = some (.int .i64 0) ∧ i0.size = 1 ∧ i0.bytes = 8) := ⟨hi', hz0, hz1, hz2⟩
  clear hsk hok ha0 ha1 hb0 hb1 hi' hz0 hz1 hz2
  go_enter Try.func8, Try.ntmps8
  go_wp2_with (go_at_call 15; refine HBG.out.mono ?_; rintro e w1 ⟨pb, rfl, HJ0⟩)
  go_loopw [8, 9] (fun v iv wr => ∃ (j : Nat) (Nw : List Nat), j ≤ n ∧ iv = .int .i64 j ∧ Hid (∃ K D, RI w pb j wr v Nw K D)) (fun _ iv _ => n - (intOf iv).toNat)
  case atStart => exact ⟨0, [], Nat.zero_le _, rfl, HJ0.out⟩
  case round =>
    obtain ⟨j, Nw, hj, rfl, HJ⟩ := hrel
    obtain ⟨K, D, hR⟩ := HJ.out
    obtain ⟨nv, nc, hv8, _⟩ := hR.row.form
    have HR : Hid (RI w pb j wr (.slice nv Nw.length nc) Nw K D) := by rw [← hv8]; exact hR
    have hlen := hR.len
    have c8 : wr.cell? ⟨pb, 8, none⟩ = some (.bool true) := by
      have := hR.inv.core.keep.c8
      rw [hR.inv.ok] at this
      exact this
    obtain ⟨ar, cr, hvr, _⟩ := hR.inv.core.keep.rds.form
    have c6 := hR.inv.core.keep.c6
    rw [hvr] at c6
    have HIS : Hid ((frOf w).Is wr) := hR.inv.core.below
    subst hv8
    obtain ⟨rl, hrl⟩ : ∃ rl, rl = K.rds.length := ⟨_, rfl⟩
    have hrl2 : rl ≤ 200 := by rw [hrl]; exact hlen.2
    have HNR : Hid (Nw.length = rl) := by rw [hrl]; exact hlen.1
    rw [← hrl] at c6
    clear hlen hvr hR HJ
    by_cases hlt : j < n
    · have hlt' : j < os.length := by omega
      obtain ⟨bl, off, hao, s0, s1, s2, s3, s4, s5⟩ := HSK.out.1.at HIS.out hlt'
      obtain ⟨o, ho⟩ : ∃ o, o = os[j] := ⟨_, rfl⟩
      have HO : Hid (StOk w o) := by rw [ho]; exact HSK.out.2 _ (List.getElem_mem hlt')
      have hob0 := HO.out.b0
      have hob1 := HO.out.b1
      rw [← ho] at s0 s1 s2 s3 s4 s5
      have hj0 : (0 : Int) ≤ (j : Int) := by omega
      have hj1 : (j : Int) < (n : Int) := by omega
      have hjm : j ≤ 1048576 := by omega
      subst hao
      clear ho
      by_cases k5 : o.kd = 5
      · have q5 : ((o.kd : Int) == 5) = true := beq_iff_eq.mpr k5
        have q5' : ((o.kd : Int) != 5) = false := by simp [k5]
        clear k5
        obtain ⟨kk, hkk⟩ : ∃ kk, kk = whichK rl o.b := ⟨_, rfl⟩
        have HWH : Hid (Calls Try.prog 21 #[.pointer (some ⟨pb, 0, none⟩), .int .i64 o.b] wr fun e w' => e = .returned (.int .i64 kk) ∧ wr = w') := by rw [hkk]; exact kwhich wr pb ar rl cr o.b c6 (by omega) hob0 hob1
        have HEN : Hid (Calls Try.prog 17 #[.pointer (some ⟨pb, 0, none⟩), .int .i64 o.b] wr fun e w' => REnd2 w pb j (.slice nv Nw.length nc) Nw kk e w') := rend2 w wr pb j (.slice nv Nw.length nc) Nw K D o.b kk HR.out hob0 hob1 (by rw [hkk, hrl])
        clear hkk hrl HR
        go_wp2_with first
          | (go_at_call 21; refine HWH.out.mono ?_; rintro e w2 ⟨rfl, rfl⟩)
          | (go_at_call 17; refine HEN.out.mono ?_; rintro e w2 (⟨rfl, HG⟩ | ⟨r, lo, hi, nw, m, tl, ct, tick, limit, at', rfl, rfl, HG⟩))
        · go_roundw
          case rel =>
            obtain ⟨K', D', hR⟩ := HG.out
            exact ⟨j + 1, Nw, by omega, by go_num, K', D', hR.kept ((Kept.alloc _ _ _).allocNew _)⟩
          case measure => simp [intOf]; omega
        · obtain ⟨hlh, hhn, htl, hnw, hlm, hhm, hm7, hRow, ht0, ht1, hl0, hl1⟩ : lo ≤ hi ∧ hi ≤ nw ∧ (tl = 0 → hi = nw) ∧ Nw[r]? = some nw ∧ lo ≤ m ∧ hi ≤ m ∧ m ≤ 700 ∧ Row w2 3 1 (.slice nv Nw.length nc) Nw.length (Nw.flatMap nwC) ∧ 0 ≤ tick ∧ tick ≤ 100000 ∧ 0 ≤ limit ∧ limit ≤ 100000 := by
            obtain ⟨K', D', hR, y1, y2, y3, y4, y5, y6, y7, _, _, _, y8, y9, y10, y11⟩ := HG.out
            exact ⟨y1, y2, y3, y4, y5, y6, y7, hR.row, y8, y9, y10, y11⟩
          have hrn : r < Nw.length := (List.getElem?_eq_some_iff.mp hnw).1
          obtain ⟨gn, nc', hnv, hown, _⟩ := hRow.block (by omega)
          injection hnv with hnv _ hnc
          subst hnv
          subst hnc
          have n2 : w2.cell? ⟨gn, r, none⟩ = some (.int .i64 (nw : Int)) := by
            refine hRow.cell hown r _ ?_
            have e1 := flat_at nwC 1 (fun _ => rfl) Nw r hrn 0 (by omega)
            have e2 : r * 1 + 0 = r := by omega
            simp only [e2] at e1
            rw [e1, (List.getElem?_eq_some_iff.mp hnw).2]
            rfl
          have hr0 : (0 : Int) ≤ (r : Int) := by omega
          have hr1 : (r : Int) < (Nw.length : Int) := by omega
          have hwh : IntKind.i64.wrap (hi : Int) = hi := by simp [IntKind.wrap, IntKind.bits, IntKind.signed]; omega
          have hwl : IntKind.i64.wrap (lo : Int) = lo := by simp [IntKind.wrap, IntKind.bits, IntKind.signed]; omega
          have hd1 : decide (hi < lo) = false := decide_eq_false (by omega)
          have hd2 : decide (nw < hi) = false := decide_eq_false (by omega)
          have hd3 : decide ((nw : Int) < (hi : Int)) = false := decide_eq_false (by omega)
          have kA : Kept (fun _ => False) w2 ((w2.alloc (.cells #[.int .i64 tick, .int .i64 limit, .slice at' tl ct, .bool true] 52)).alloc (.cells #[.int .u64 (lo : Int), .int .u64 (hi : Int)] 56)) := (Kept.alloc _ _ _).allocNew _
          have bA : Blk ((w2.alloc (.cells #[.int .i64 tick, .int .i64 limit, .slice at' tl ct, .bool true] 52)).alloc (.cells #[.int .u64 (lo : Int), .int .u64 (hi : Int)] 56)) w2.heap.size 52 #[.int .i64 tick, .int .i64 limit, .slice at' tl ct, .bool true] := (Blk.new w2 _ _).kept (Kept.alloc _ _ (fun _ => False)) id
          have bB : Blk ((w2.alloc (.cells #[.int .i64 tick, .int .i64 limit, .slice at' tl ct, .bool true] 52)).alloc (.cells #[.int .u64 (lo : Int), .int .u64 (hi : Int)] 56)) (w2.heap.size + 1) 56 #[.int .u64 (lo : Int), .int .u64 (hi : Int)] := by
            have := Blk.new (w2.alloc (.cells #[.int .i64 tick, .int .i64 limit, .slice at' tl ct, .bool true] 52)) 56 #[.int .u64 (lo : Int), .int .u64 (hi : Int)]
            simpa using this
          clear c6 c8 s0 s1 s2 s3 s4 s5
          generalize ((w2.alloc (.cells #[.int .i64 tick, .int .i64 limit, .slice at' tl ct, .bool true] 52)).alloc (.cells #[.int .u64 (lo : Int), .int .u64 (hi : Int)] 56)) = W5 at kA bA bB ⊢
          have n5 := kA.hold n2
          have a0 : W5.cell? ⟨w2.heap.size, 0, none⟩ = some (.int .i64 tick) := bA.cell 0
          have a1 : W5.cell? ⟨w2.heap.size, 1, none⟩ = some (.int .i64 limit) := bA.cell 1
          have a2 : W5.cell? ⟨w2.heap.size, 2, none⟩ = some (.slice at' tl ct) := bA.cell 2
          have b0 : W5.cell? ⟨w2.heap.size + 1, 0, none⟩ = some (.int .u64 (lo : Int)) := bB.cell 0
          have b1 : W5.cell? ⟨w2.heap.size + 1, 1, none⟩ = some (.int .u64 (hi : Int)) := bB.cell 1
          have HKA : Hid (Kept (fun _ => False) w2 W5) := kA
          have hsub : tick - limit ≤ 100000 := by omega
          have hsub2 : -100000 ≤ tick - limit := by omega
          clear kA bA bB n2 hRow hown hnw
          generalize w2.heap.size = S at *
          go_quiet (fail)
          go_wp2_with (go_at_call 22; refine (HG.out.fresh (HKA.out.drewN _)).mono ?_; rintro e w4 ⟨rfl, rfl⟩)
          by_cases htz : tl = 0
          · have hz1 : ((tl : Int) == 0) = true := by simp [htz]
            have hz2 : ((hi : Int) != (nw : Int)) = false := by have := htl htz; simp; omega
            have hz3 := htl htz
            go_quiet (fail)
            go_wp2
            go_roundw
            case rel =>
              obtain ⟨K', D', hR, _⟩ := HG.out
              exact ⟨j + 1, Nw, by omega, by go_num, K', D', hR.kept (HKA.out.drewN _)⟩
            case measure => simp [intOf]; omega
          · have hz1 : ((tl : Int) == 0) = false := by simp; omega
            go_quiet (fail)
            go_wp2
            go_roundw
            case rel =>
              obtain ⟨K', D', hR, _⟩ := HG.out
              exact ⟨j + 1, Nw, by omega, by go_num, K', D', hR.kept (HKA.out.drewN _)⟩
            case measure => simp [intOf]; omega
      · have q5 : ((o.kd : Int) == 5) = false := beq_eq_false_iff_ne.mpr k5
        clear k5
        have bb1 : Nw.length + 1 ≤ maxLen := by have := HNR.out; unfold maxLen; omega
        have bb2 : (Nw.length + 1) * 8 ≤ 140737488355328 := by have := HNR.out; omega
        go_wp2_with first
          | (go_at_call 16; refine (HST.out _ pb j (.slice nv Nw.length nc) Nw K D o HR.out HO.out hjm).mono ?_; rintro e w2 ⟨rfl, ⟨ar2, cr2, d6, HS⟩ | ⟨ar2, cr2, sa, cs, m, d6, d3, hm7, HS⟩⟩)
          | (go_at_call 20; refine (knewest_c w2 pb sa m cs d3 hm7).mono ?_; rintro e w3 ⟨rfl, rfl⟩)
          | (at_builtin; go_must (refine wpList_append_mine _ rfl (.tmp 55) (.tmp 58) 36 rfl 3 i0 (.int .i64 0) 1 8 Try.underlying36 HI.out.1 HI.out.2.1 HI.out.2.2.1 HI.out.2.2.2 rfl (by decide) (.slice nv Nw.length nc) Nw.length (Nw.flatMap nwC) rfl (HRW.out _ pb j m _ Nw HS.out _) ⟨w2.heap.size, 0, none⟩ 1 1 (nwC m) rfl rfl (fun k u hk => news_tk w2 (m : Int) _ k u hk) (oneCell_tk (m : Int)) bb1 bb2 ?_); intro v' w4 hA; have HN : Hid (∃ K' D', RI w pb (j + 1) w4 v' (Nw ++ [m]) K' D') := HFN.out _ _ _ _ pb j m _ Nw HS.out hA; obtain ⟨ao', cap', hv', _⟩ := hA.row.form; clear hA; subst hv')
        · go_roundw
          case rel => exact ⟨j + 1, Nw, by omega, by go_num, HS.out⟩
          case measure => simp [intOf]; omega
        · go_roundw
          case rel => exact ⟨j + 1, Nw ++ [m], by omega, by go_num, HN.out⟩
          case measure => simp [intOf]; omega
    · have hje : j = n := by omega
      subst hje
      go_wp2
      go_ret
      exact ⟨rfl, HIS.out.below⟩

end Go.Proofs.Ytpfcacedpkaihaa
