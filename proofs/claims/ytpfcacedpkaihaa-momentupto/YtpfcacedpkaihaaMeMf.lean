import Derived.Test.YtpfcacedpkaihaaVaVcMaMbMc
import Derived.Test.YtpfcacedpkaihaaQfMd
/- The law Moment (package almanackeep): what holds between two steps, at the end of a reader, and while the readers that are left end. -/
namespace Go.Proofs.Ytpfcacedpkaihaa
open Go.RowKit

theorem KJ.kept {G : KQ → DP → Prop} {w0 : Fr} {pb j : Nat} {W W' : World} (h : KJ G w0 pb j W) (k : Kept (fun _ => False) W W') : KJ G w0 pb j W' := by
  obtain ⟨K, D, hI, hT, hg⟩ := h
  exact ⟨K, D, hI.kept k, hT, hg⟩
theorem KJ.setOk {G : KQ → DP → Prop} {w0 : Fr} {pb j : Nat} {W : World} (h : KJ G w0 pb j W) : KJ G w0 pb j (W.setCell ⟨pb, 8, none⟩ (.bool true)) := by
  obtain ⟨K, D, hI, hT, hg⟩ := h
  have s1 := hI.core.keep.setOwn (K' := { K with ok := true }) 8 (.bool true) rfl rfl
  exact ⟨{ K with ok := true }, D, ⟨hI.core.turn s1 rfl, hI.ki, hI.open', rfl⟩, hT, hg⟩
theorem KJ.free {G : KQ → DP → Prop} {w0 : Fr} {pb j : Nat} {W : World} (h : KJ G w0 pb j W) : ∀ i, W.frozen? ⟨pb, i, none⟩ = false := by
  obtain ⟨K, D, hI, _⟩ := h
  exact fun i => hI.core.keep.blk.free i
theorem SemI.start {Q : KQ} {m : Nat} {r : Int} (h : Q.rds = []) (hr : Q.room = r) : SemI Q (p0 m r) := by
  refine ⟨⟨fun i p hp => by simp [p0] at hp, fun s hs => ?_, fun e he => by simp [p0] at he⟩, fun r j x hx => by rw [h] at hx; simp at hx⟩
  have hs' : s ∈ List.replicate m (newP r) := hs
  obtain rfl := List.eq_of_mem_replicate hs'
  exact ⟨fun c hc => (by cases hc), fun c hc => (by cases hc), fun c hc => (by cases hc), fun c hc => (by cases hc), List.nodup_nil, hr.symm⟩

/-- 'one' may be called with what a reader was told, and a span. -/
structure MOne (W : World) (pb lo hi : Nat) (told : List (ByteArray × Int)) (ta : Option Addr) (tc : Nat) (K : KS) (l : List PastE) : Prop where
  keep : Keep W pb K
  row : Row W 78 2 (.slice ta told.length tc) told.length (told.flatMap saidC)
  st : K.states = (fun _ => 0) :: l.map PastE.st
  le : lo ≤ hi
  top : hi ≤ l.length
  lm : l.length ≤ 700
  tm : told.length ≤ 2000000
  right : ∀ a ∈ told, RightS l a.1 a.2 lo hi
theorem MOne.kept {W W' : World} {pb lo hi : Nat} {told : List (ByteArray × Int)} {ta : Option Addr} {tc : Nat} {K : KS} {l : List PastE} (h : MOne W pb lo hi told ta tc K l) (k : Kept (fun _ => False) W W') : MOne W' pb lo hi told ta tc K l :=
  ⟨h.keep.kept k (fun _ _ => id), h.row.kept k (fun _ _ => id), h.st, h.le, h.top, h.lm, h.tm, h.right⟩
theorem MOne.call {W : World} {pb lo hi : Nat} {told : List (ByteArray × Int)} {ta : Option Addr} {tc : Nat} {K : KS} {l : List PastE} (h : MOne W pb lo hi told ta tc K l) (tick limit : Int) (en : Bool) :
    Calls Try.prog 18 #[.pointer (some ⟨pb, 0, none⟩), .agg #[.int .i64 tick, .int .i64 limit, .slice ta told.length tc, .bool en], .agg #[.int .u64 (lo : Int), .int .u64 (hi : Int)]] W fun e w' => e = .returned (.bool true) ∧ Kept (fun _ => False) W w' :=
  kone W pb lo hi K l told tick limit ta tc en h.keep h.row h.st h.le h.top h.lm h.tm h.right
/-- with this many things told. -/
def MOk (W : World) (pb lo hi tl : Nat) (ta : Option Addr) (tc : Nat) : Prop := ∃ told K l, told.length = tl ∧ MOne W pb lo hi told ta tc K l
theorem MOk.call {W W' : World} {pb lo hi tl : Nat} {ta : Option Addr} {tc : Nat} (h : MOk W pb lo hi tl ta tc) (k : Kept (fun _ => False) W W') (tick limit : Int) (en : Bool) :
    Calls Try.prog 18 #[.pointer (some ⟨pb, 0, none⟩), .agg #[.int .i64 tick, .int .i64 limit, .slice ta tl tc, .bool en], .agg #[.int .u64 (lo : Int), .int .u64 (hi : Int)]] W' fun e w' => e = .returned (.bool true) ∧ Kept (fun _ => False) W' w' := by
  obtain ⟨told, K, l, rfl, hM⟩ := h
  exact (hM.kept k).call tick limit en

def MEndPost (w0 : Fr) (pb j : Nat) (e : Ending) (w' : World) : Prop :=
  (e = .returned (.tuple #[.agg #[.int .i64 0, .int .i64 0, .slice none 0 0, .bool false], .agg #[.int .u64 0, .int .u64 0], .bool false]) ∧ Hid (KJ SemI w0 pb (j + 1) w')) ∨
  (∃ (lo hi tl tc : Nat) (tick limit : Int) (ta : Option Addr), e = .returned (.tuple #[.agg #[.int .i64 tick, .int .i64 limit, .slice ta tl tc, .bool true], .agg #[.int .u64 (lo : Int), .int .u64 (hi : Int)], .bool true]) ∧ Hid (KJ SemI w0 pb (j + 1) w' ∧ MOk w' pb lo hi tl ta tc))

theorem mend (w0 : Fr) (w : World) (pb n : Nat) (raw : Int) (h : KJ SemI w0 pb n w) (hn : n ≤ 1048576) (h1 : -9223372036854775808 ≤ raw) (h2 : raw ≤ 9223372036854775807) :
    Calls Try.prog 17 #[.pointer (some ⟨pb, 0, none⟩), .int .i64 raw] w fun e w' => MEndPost w0 pb n e w' := by
  obtain ⟨K, D, hI, hT, hg⟩ := h
  exact (kend w0 w pb n K D raw hI h1 h2).mono fun e w' hp => by
    obtain ⟨v, _, hp2⟩ := hp.post
    have hJ := KPost.next SemI.stays hI hT hg hp2
    rcases hp with ⟨_, e1, K', D', hI', e2, e3⟩ | ⟨r, i, rd, K', D', hr, hrd, hre, hi, hir, hin, e1, hI', e2, e3, hrd'⟩
    · exact .inl ⟨e1, hJ⟩
    · have hq : K.q.rds[r]? = some rd.p := by show (K.rds.map KrE.p)[r]? = _; rw [List.getElem?_map, hrd]; rfl
      obtain ⟨ta, tc, htv, _⟩ := (hI.core.keep.told hrd).form
      obtain ⟨j', _, _, _, hu, hl1, hl2⟩ := hI.ki.seat hq hre
      have := hu i hi hir hin
      subst this
      have hpast : D'.past = D.past := congrArg DP.past e3
      refine .inr ⟨(D.seats i).lo, (D.seats i).hi, rd.told.length, tc, rd.tick, rd.limit, ta, by rw [e1, htv], hJ, rd.told, K', D'.past, rfl, hI'.core.keep, ?_, hI'.ki.states, hl1, by rw [hpast]; exact hl2, hI'.ki.good.pmax, ?_, ?_⟩
      · have hro := hI'.core.keep.told hrd'
        have hro' : Row w' 78 2 rd.tv rd.told.length (rd.told.flatMap saidC) := hro
        rw [htv] at hro'
        exact hro'
      · have : rd.told.length ≤ n := hT rd.p (List.mem_of_getElem? hq)
        omega
      · intro a ha
        rw [hpast]
        exact hg.told r i rd.p hq hi hir hin a ha

/-- while the readers that are left end. -/
structure MC (w0 : Fr) (W : World) (pb i : Nat) (K : KS) (D : DevS) : Prop where
  core : KCore w0 W pb K D
  ok : K.ok = true
  st : K.states = (fun _ => 0) :: D.past.map PastE.st
  lm : D.past.length ≤ 700
  tm : ∀ rd ∈ K.rds, rd.told.length ≤ 2000000
  seats : ∀ (r : Nat) (rd : KrE), i ≤ r → K.rds[r]? = some rd → rd.ended = false → ∃ j, j < 6 ∧ (D.seats j).reads = true ∧ (D.seats j).num = (r : Int) ∧ (∀ i', i' < 6 → (D.seats i').reads = true → (D.seats i').num = (r : Int) → i' = j) ∧ (D.seats j).lo ≤ (D.seats j).hi ∧ (D.seats j).hi ≤ D.past.length ∧ ∀ a ∈ rd.told, RightS D.past a.1 a.2 (D.seats j).lo (D.seats j).hi
theorem MC.start {w0 : Fr} {W : World} {pb n : Nat} {K : KS} {D : DevS} (h : KInv w0 W pb n K D) (hT : ∀ rd ∈ K.q.rds, rd.told.length ≤ n) (hg : SemI K.q D.pu) (hn : n ≤ 1048576) : MC w0 W pb 0 K D := by
  refine ⟨h.core, h.ok, h.ki.states, h.ki.good.pmax, fun rd hrd => ?_, fun r rd _ hrd hre => ?_⟩
  · have : rd.told.length ≤ n := hT rd.p (List.mem_map_of_mem hrd)
    omega
  · have hq : K.q.rds[r]? = some rd.p := by show (K.rds.map KrE.p)[r]? = _; rw [List.getElem?_map, hrd]; rfl
    obtain ⟨j, hj, hjr, hjn, hu, hl1, hl2⟩ := h.ki.seat hq hre
    exact ⟨j, hj, hjr, hjn, hu, hl1, hl2, fun a ha => hg.told r j rd.p hq hj hjr hjn a ha⟩
theorem MC.next {w0 : Fr} {W : World} {pb i : Nat} {K : KS} {D : DevS} (h : MC w0 W pb i K D) : MC w0 W pb (i + 1) K D :=
  ⟨h.core, h.ok, h.st, h.lm, h.tm, fun r rd hr => h.seats r rd (by omega)⟩
theorem MC.kept {w0 : Fr} {W W' : World} {pb i : Nat} {K : KS} {D : DevS} (h : MC w0 W pb i K D) (k : Kept (fun _ => False) W W') : MC w0 W' pb i K D :=
  ⟨h.core.kept k, h.ok, h.st, h.lm, h.tm, h.seats⟩
theorem MC.setOk {w0 : Fr} {W : World} {pb i : Nat} {K : KS} {D : DevS} (h : MC w0 W pb i K D) : MC w0 (W.setCell ⟨pb, 8, none⟩ (.bool true)) pb i K D := by
  have e : ({ K with ok := true } : KS) = K := by
    have := h.ok
    cases K
    simp at this
    subst this
    rfl
  have s1 := h.core.keep.setOwn (K' := { K with ok := true }) 8 (.bool true) rfl rfl
  have hc := h.core.turn s1 rfl
  rw [e] at hc
  exact ⟨hc, h.ok, h.st, h.lm, h.tm, h.seats⟩
theorem MC.endC {w0 : Fr} {W : World} {pb i : Nat} {K : KS} {D : DevS} {rd : KrE} {ta : Option Addr} {tc : Nat} (h : MC w0 W pb i K D) (hrd : K.rds[i]? = some rd) (hre : rd.ended = false) (htv : rd.tv = .slice ta rd.told.length tc) :
    Calls Try.prog 19 #[.pointer (some ⟨K.xb, 0, none⟩), .int .i64 (i : Int)] W fun e w' => ∃ (lo hi : Nat), e = .returned (.tuple #[.agg #[.int .u64 (lo : Int), .int .u64 (hi : Int)], .int .i64 0]) ∧ Hid ((∃ D', MC w0 w' pb (i + 1) K D') ∧ MOk w' pb lo hi rd.told.length ta tc) := by
  obtain ⟨j, hj, hjr, hjn, hu, hl1, hl2, hR⟩ := h.seats i rd (Nat.le_refl _) hrd hre
  exact (dend W K.xb D i h.core.dev).mono fun e w' hp => by
    rcases hp with ⟨ha, _⟩ | ⟨j', hj', hr', hn', e1, r1, r2⟩
    · exact absurd hjn (ha j hj hjr)
    · have := hu j' hj' hr' hn'
      subst this
      have hC : KCore w0 w' pb K (D.seatP j' ⟨false, 0, 0, 0⟩ D.begun) := h.core.prog ⟨r1, r2, fun x hx => .inl hx⟩
      refine ⟨(D.seats j').lo, (D.seats j').hi, e1, ⟨_, hC, h.ok, h.st, h.lm, h.tm, fun r rd' hr hrd' hre' => ?_⟩, rd.told, K, D.past, rfl, hC.keep, ?_, h.st, hl1, hl2, h.lm, h.tm rd (List.mem_of_getElem? hrd), hR⟩
      · obtain ⟨k, hk, hkr, hkn, hku, hk1, hk2, hkR⟩ := h.seats r rd' (by omega) hrd' hre'
        have hne : k ≠ j' := by rintro rfl; rw [hjn] at hkn; omega
        have e0 : (D.seatP j' ⟨false, 0, 0, 0⟩ D.begun).seats k = D.seats k := putSeat_ne _ _ _ _ hne
        refine ⟨k, hk, by rw [e0]; exact hkr, by rw [e0]; exact hkn, fun i' hi' hir' hin' => ?_, by rw [e0]; exact hk1, by rw [e0]; exact hk2, by rw [e0]; exact hkR⟩
        by_cases e2 : i' = j'
        · subst e2
          have e3 : (D.seatP i' ⟨false, 0, 0, 0⟩ D.begun).seats i' = ⟨false, 0, 0, 0⟩ := putSeat_self _ _ _
          rw [e3] at hir'
          cases hir'
        · have e3 : (D.seatP j' ⟨false, 0, 0, 0⟩ D.begun).seats i' = D.seats i' := putSeat_ne _ _ _ _ e2
          rw [e3] at hir' hin'
          exact hku i' hi' hir' hin'
      · have := hC.keep.told hrd
        rw [htv] at this
        exact this

end Go.Proofs.Ytpfcacedpkaihaa

/- The law Moment (package almanackeep), walked at every script. -/
namespace Go.Proofs.Ytpfcacedpkaihaa
open Go.RowKit

set_option maxRecDepth 100000 in
set_option maxHeartbeats 4000000 in
theorem moment_any (w : World) (a b : Int) (ao : Option Addr) (n cap : Nat) (os : List StE) (ha0 : -9223372036854775808 ≤ a) (ha1 : a ≤ 9223372036854775807) (hb0 : -9223372036854775808 ≤ b) (hb1 : b ≤ 9223372036854775807) (hsk : Sk w ao n os) (hn : n ≤ 1048576) (hok : ∀ o ∈ os, StOk w o) :
    Calls Try.prog 7 #[.int .i64 a, .int .i64 b, .slice ao n cap] w fun e w' => KLawPost w e w' := by
  have HBG : Hid (Calls Try.prog 15 #[.int .i64 a, .int .i64 b] w fun e w' => ∃ pb, e = .returned (.pointer (some ⟨pb, 0, none⟩)) ∧ KJ SemI (frOf w) pb 0 w') := jbegan w a b ha0 ha1 hb0 hb1 fun _ _ _ h1 h2 _ => SemI.start h1 h2
  have HSK : Hid (Sk w ao n os ∧ ∀ o ∈ os, StOk w o) := ⟨hsk, hok⟩
  have HST : Hid (∀ (W : World) (pb j : Nat) (o : StE), KJ SemI (frOf w) pb j W → StOk w o → j ≤ 1048576 → Calls Try.prog 16 #[.pointer (some ⟨pb, 0, none⟩), .agg #[.int .i64 o.kd, .int .i64 o.b, .int .i64 o.c, .string o.s, .slice o.ka o.kn o.kc, .slice o.va o.vn o.vc]] W fun e w' => e = .returned (.tuple #[]) ∧ Hid (KJ SemI (frOf w) pb (j + 1) w')) := fun W pb j o h ho hj => jstep SemI.stays (frOf w) W pb j o h (ho.is h.is) hj
  have HEN : Hid (∀ (W : World) (pb j : Nat) (raw : Int), KJ SemI (frOf w) pb j W → j ≤ 1048576 → -9223372036854775808 ≤ raw → raw ≤ 9223372036854775807 → Calls Try.prog 17 #[.pointer (some ⟨pb, 0, none⟩), .int .i64 raw] W fun e w' => MEndPost (frOf w) pb j e w') := fun W pb j raw h hj h1 h2 => mend (frOf w) W pb j raw h hj h1 h2
  have HON : Hid (∀ (W W' : World) (pb lo hi tl : Nat) (ta : Option Addr) (tc : Nat) (tick limit : Int) (en : Bool), MOk W pb lo hi tl ta tc → Kept (fun _ => False) W W' → Calls Try.prog 18 #[.pointer (some ⟨pb, 0, none⟩), .agg #[.int .i64 tick, .int .i64 limit, .slice ta tl tc, .bool en], .agg #[.int .u64 (lo : Int), .int .u64 (hi : Int)]] W' fun e w' => e = .returned (.bool true) ∧ Kept (fun _ => False) W' w') := fun W W' pb lo hi tl ta tc tick limit en h k => h.call k tick limit en
  have hl := hsk.len
  clear hsk hok ha0 ha1 hb0 hb1
  go_enter Try.func7, Try.ntmps7
  go_wp2_with (go_at_call 15; refine HBG.out.mono ?_; rintro e w1 ⟨pb, rfl, hJ⟩; have HJ0 : Hid (KJ SemI (frOf w) pb 0 w1) := hJ; clear hJ)
  go_loopw [8] (fun iv wr => ∃ j : Nat, j ≤ n ∧ iv = .int .i64 j ∧ Hid (KJ SemI (frOf w) pb j wr)) (fun iv _ => n - (intOf iv).toNat)
  case atStart => exact ⟨0, Nat.zero_le _, rfl, HJ0.out⟩
  case round =>
    obtain ⟨j, hj, rfl, HJ⟩ := hrel
    have c8 := HJ.out.ok
    by_cases hlt : j < n
    · have hlt' : j < os.length := by omega
      obtain ⟨bl, off, hao, s0, s1, s2, s3, s4, s5⟩ := HSK.out.1.at HJ.out.is hlt'
      obtain ⟨o, ho⟩ : ∃ o, o = os[j] := ⟨_, rfl⟩
      have HO : Hid (StOk w o) := by rw [ho]; exact HSK.out.2 _ (List.getElem_mem hlt')
      have hob0 := HO.out.b0
      have hob1 := HO.out.b1
      rw [← ho] at s0 s1 s2 s3 s4 s5
      have hj0 : (0 : Int) ≤ (j : Int) := by omega
      have hj1 : (j : Int) < (n : Int) := by omega
      have hjm : j ≤ 1048576 := by omega
      subst hao
      clear ho
      by_cases k5 : o.kd = 5
      · have q5 : ((o.kd : Int) == 5) = true := beq_iff_eq.mpr k5
        have q5' : ((o.kd : Int) != 5) = false := by simp [k5]
        clear k5
        go_wp2_with first
          | (go_at_call 17; refine (HEN.out _ pb j o.b HJ.out hjm hob0 hob1).mono ?_; rintro e w2 (⟨rfl, HJ2⟩ | ⟨lo, hi, tl, tc, tick, limit, ta, rfl, HJ2⟩))
          | (go_at_call 18; refine (HON.out w2 _ pb lo hi tl ta tc tick limit true HJ2.out.2 ((Kept.alloc _ _ _).allocNew _)).mono ?_; rintro e w3 ⟨rfl, hk3⟩; have HJ3 : Hid (KJ SemI (frOf w) pb (j + 1) w3) := HJ2.out.1.kept (((Kept.alloc _ _ _).allocNew _).trans hk3 (fun _ => id) (fun _ _ => id)); have d8 := HJ3.out.ok; have df := HJ3.out.free; clear hk3)
        · go_roundw
          case rel => exact ⟨j + 1, by omega, by go_num, HJ2.out.kept ((Kept.alloc _ _ _).allocNew _)⟩
          case measure => simp [intOf]; omega
        · go_roundw
          case rel => exact ⟨j + 1, by omega, by go_num, HJ3.out.setOk⟩
          case measure => simp [intOf]; omega
      · have q5 : ((o.kd : Int) == 5) = false := beq_eq_false_iff_ne.mpr k5
        have q5' : ((o.kd : Int) != 5) = true := by simp [k5]
        clear k5
        go_wp2_with (go_at_call 16; refine (HST.out _ pb j o HJ.out HO.out hjm).mono ?_; rintro e w2 ⟨rfl, HJ2⟩)
        go_roundw
        case rel => exact ⟨j + 1, by omega, by go_num, HJ2.out⟩
        case measure => simp [intOf]; omega
    · have hje : j = n := by omega
      subst hje
      obtain ⟨K, D, hI, hT, hg⟩ := HJ.out
      have HM0 : Hid (∃ D, MC (frOf w) wr pb 0 K D) := ⟨D, MC.start hI hT hg hn⟩
      obtain ⟨rl, hrl⟩ : ∃ rl, rl = K.rds.length := ⟨_, rfl⟩
      have hrl2 : rl ≤ 200 := by
        have h1 := hI.ki.count.2
        have h2 := hI.ki.good.bmax
        have e : K.q.rds.length = K.rds.length := by simp [KS.q]
        omega
      obtain ⟨ar, cr, hvr, _⟩ := hI.core.keep.rds.form
      rw [← hrl] at hvr
      have HCE : Hid (∀ (W : World) (i : Nat) (D : DevS), MC (frOf w) W pb i K D → W.cell? ⟨pb, 6, none⟩ = some (.slice ar rl cr) ∧ W.cell? ⟨pb, 8, none⟩ = some (.bool true) ∧ W.cell? ⟨pb, 0, none⟩ = some (.pointer (some ⟨K.xb, 0, none⟩)) ∧ (∀ f, W.frozen? ⟨pb, f, none⟩ = false)) := fun W i D h => by
        refine ⟨by rw [← hvr]; exact h.core.keep.c6, by have := h.core.keep.c8; rw [h.ok] at this; exact this, h.core.keep.c0, fun f => h.core.keep.blk.free f⟩
      have HRD : Hid (∀ (W : World) (i : Nat) (D : DevS), MC (frOf w) W pb i K D → ∀ k (hk : k < rl), ∃ g ta tc rd, ar = some ⟨g, 0, none⟩ ∧ K.rds[k]? = some rd ∧ rd.tv = .slice ta rd.told.length tc ∧ W.cell? ⟨g, k * 4, none⟩ = some (.int .i64 rd.tick) ∧ W.cell? ⟨g, k * 4 + 1, none⟩ = some (.int .i64 rd.limit) ∧ W.cell? ⟨g, k * 4 + 2, none⟩ = some (.slice ta rd.told.length tc) ∧ W.cell? ⟨g, k * 4 + 3, none⟩ = some (.bool rd.ended)) := fun W i D h k hk => by
        have hk' : k < K.rds.length := by omega
        obtain ⟨g, c', e1, hog, _⟩ := h.core.keep.rds.block (by omega)
        rw [hvr] at e1
        injection e1 with e1 _ _
        have hrd : K.rds[k]? = some K.rds[k] := List.getElem?_eq_getElem hk'
        obtain ⟨ta, tc, htv, _⟩ := (h.core.keep.told hrd).form
        have hc : ∀ f, f < 4 → ∀ u, (krC K.rds[k])[f]? = some u → W.cell? ⟨g, k * 4 + f, none⟩ = some u := fun f hf u hu => h.core.keep.rds.cell hog _ u (by rw [kr_at K.rds k hk' f hf]; exact hu)
        exact ⟨g, ta, tc, K.rds[k], e1, hrd, htv, hc 0 (by omega) _ rfl, hc 1 (by omega) _ rfl, hc 2 (by omega) _ (by rw [← htv]; rfl), hc 3 (by omega) _ rfl⟩
      clear hI hT hg hvr hrl HJ HEN HST
      go_wp2
      go_loopw [13] (fun iv wx => ∃ i : Nat, i ≤ rl ∧ iv = .int .i64 i ∧ Hid (∃ D, MC (frOf w) wx pb i K D)) (fun iv _ => rl - (intOf iv).toNat)
      case atStart => exact ⟨0, Nat.zero_le _, rfl, HM0.out⟩
      case round =>
        obtain ⟨i, hi, rfl, HM⟩ := hrel
        obtain ⟨D, hM⟩ := HM.out
        have HMD : Hid (MC (frOf w) wr pb i K D) := hM
        clear hM HM
        obtain ⟨d6, d8, d0, df⟩ := HCE.out _ _ _ HMD.out
        by_cases hlt : i < rl
        · obtain ⟨g, ta, tc, rd, hg, hrd, htv, g0, g1, g2, g3⟩ := HRD.out _ _ _ HMD.out i hlt
          subst hg
          have hi0 : (0 : Int) ≤ (i : Int) := by omega
          have hi1 : (i : Int) < (rl : Int) := by omega
          cases hre : rd.ended with
          | true =>
            rw [hre] at g3
            clear htv hrd
            go_wp2
            go_roundw
            case rel => exact ⟨i + 1, by omega, by go_num, D, HMD.out.next⟩
            case measure => simp [intOf]; omega
          | false =>
            rw [hre] at g3
            have HEC : Hid (Calls Try.prog 19 #[.pointer (some ⟨K.xb, 0, none⟩), .int .i64 (i : Int)] wr fun e w' => ∃ (lo hi : Nat), e = .returned (.tuple #[.agg #[.int .u64 (lo : Int), .int .u64 (hi : Int)], .int .i64 0]) ∧ Hid ((∃ D', MC (frOf w) w' pb (i + 1) K D') ∧ MOk w' pb lo hi rd.told.length ta tc)) := HMD.out.endC hrd hre htv
            obtain ⟨tick, htk⟩ : ∃ x, x = rd.tick := ⟨_, rfl⟩
            obtain ⟨limit, hlm⟩ : ∃ x, x = rd.limit := ⟨_, rfl⟩
            obtain ⟨tl, htl⟩ : ∃ x, x = rd.told.length := ⟨_, rfl⟩
            rw [← htk] at g0
            rw [← hlm] at g1
            rw [← htl] at g2 HEC
            have HRQ : Hid (∀ (W : World) (i' : Nat) (D : DevS), MC (frOf w) W pb i' K D → W.cell? ⟨g, i * 4, none⟩ = some (.int .i64 tick) ∧ W.cell? ⟨g, i * 4 + 1, none⟩ = some (.int .i64 limit) ∧ W.cell? ⟨g, i * 4 + 2, none⟩ = some (.slice ta tl tc) ∧ W.cell? ⟨g, i * 4 + 3, none⟩ = some (.bool false)) := fun W i' D h => by
              obtain ⟨g', ta', tc', rd', hg', hrd', htv', z0, z1, z2, z3⟩ := HRD.out W i' D h i hlt
              injection hg' with hg'
              injection hg' with hg' _ _
              subst hg'
              rw [hrd] at hrd'
              injection hrd' with hrd'
              subst hrd'
              rw [htv] at htv'
              injection htv' with x1 x2 x3
              subst x1; subst x3
              rw [htk, hlm, htl, ← hre]
              exact ⟨z0, z1, z2, z3⟩
            clear htv hrd hre htk hlm htl HRD g0 g1 g2 HMD
            go_wp2_with (go_at_call 19; refine HEC.out.mono ?_; rintro e w2 ⟨lo, hi', rfl, HE⟩)
            obtain ⟨D', hM'⟩ := HE.out.1
            have kA : Kept (fun _ => False) w2 (w2.alloc (.cells #[.int .u64 (lo : Int), .int .u64 (hi' : Int)] 56)) := Kept.alloc _ _ _
            have bS : Blk (w2.alloc (.cells #[.int .u64 (lo : Int), .int .u64 (hi' : Int)] 56)) w2.heap.size 56 #[.int .u64 (lo : Int), .int .u64 (hi' : Int)] := Blk.new _ _ _
            clear d6 d8 d0 df g3
            generalize w2.alloc (.cells #[.int .u64 (lo : Int), .int .u64 (hi' : Int)] 56) = W5 at kA bS ⊢
            have HM5 : Hid (MC (frOf w) W5 pb (i + 1) K D') := hM'.kept kA
            have HKA : Hid (Kept (fun _ => False) w2 W5) := kA
            obtain ⟨d6, _, _, _⟩ := HCE.out _ _ _ HM5.out
            obtain ⟨g0, g1, g2, g3⟩ := HRQ.out _ _ _ HM5.out
            have b0 : W5.cell? ⟨w2.heap.size, 0, none⟩ = some (.int .u64 (lo : Int)) := bS.cell 0
            have b1 : W5.cell? ⟨w2.heap.size, 1, none⟩ = some (.int .u64 (hi' : Int)) := bS.cell 1
            clear kA bS hM'
            generalize w2.heap.size = S at *
            have xd6 := drew_cell0 d6
            have xg0 := drew_cell0 g0
            have xg1 := drew_cell0 g1
            have xg2 := drew_cell0 g2
            have xg3 := drew_cell0 g3
            have xb0 := drew_cell0 b0
            have xb1 := drew_cell0 b1
            go_region_held3 (fun w' => w'.cell? ⟨pb, 6, none⟩ = some (.slice (some ⟨g, 0, none⟩) rl cr) ∧ w'.cell? ⟨g, i * 4, none⟩ = some (.int .i64 tick) ∧ w'.cell? ⟨g, i * 4 + 1, none⟩ = some (.int .i64 limit) ∧ w'.cell? ⟨g, i * 4 + 2, none⟩ = some (.slice ta tl tc) ∧ w'.cell? ⟨g, i * 4 + 3, none⟩ = some (.bool false) ∧ w'.cell? ⟨S, 0, none⟩ = some (.int .u64 (lo : Int)) ∧ w'.cell? ⟨S, 1, none⟩ = some (.int .u64 (hi' : Int))) (first | with_reducible exact ⟨yd6, yg0, yg1, yg2, yg3, yb0, yb1⟩ | with_reducible exact ⟨xd6, xg0, xg1, xg2, xg3, xb0, xb1⟩ | fail) ((go_at_call 18; refine (HON.out w2 _ pb lo hi' tl ta tc tick limit false HE.out.2 HKA.out.drew).mono ?_; rintro e w3 ⟨rfl, hk3⟩; have yd6 := hk3.hold xd6; have yg0 := hk3.hold xg0; have yg1 := hk3.hold xg1; have yg2 := hk3.hold xg2; have yg3 := hk3.hold xg3; have yb0 := hk3.hold xb0; have yb1 := hk3.hold xb1; have HM3 : Hid (MC (frOf w) w3 pb (i + 1) K D') := (HM5.out.kept (Kept.refl _ _).drew).kept hk3; clear hk3))
            all_goals
              clear xd6 xg0 xg1 xg2 xg3 xb0 xb1 yd6 yg0 yg1 yg2 yg3 yb0 yb1 d6 g0 g1 g2 g3 b0 b1
              obtain ⟨_, d8, _, df⟩ := HCE.out _ _ _ HM3.out
              go_wp2
              go_roundw
              case rel => exact ⟨i + 1, by omega, by go_num, D', HM3.out.setOk⟩
              case measure => simp [intOf]; omega
        · have hie : i = rl := by omega
          subst hie
          go_wp2
          go_ret
          exact ⟨rfl, HMD.out.core.below.below⟩

end Go.Proofs.Ytpfcacedpkaihaa
