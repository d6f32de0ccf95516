/- The law Again (package almanackeep), walked at every script. -/
import Derived.Test.YtpfcacedpkaihabAd
namespace Go.Proofs.Ytpfcacedpkaihab
open Go.RowKit

/-- behind the script. -/
theorem KJn.rest {w0 : Fr} {pb j : Nat} {W : World} (h : KJn w0 pb j W) (hj : j ≤ 150) : ∃ K D, Asked w0 pb j 0 K D W ∧ K.nodes = (D.nodes.length : Int) ∧ D.nodes.length ≤ 3 ∧ K.rds.length ≤ 200 ∧ (∀ (W' : World) (m : Nat), m = D.nodes.length → Asked w0 pb j m K D W' → End3 w0 pb j K.rds.length 0 K W') := by
  obtain ⟨K, D, hI, hT, hg⟩ := h
  have hA : AC w0 W pb j K D := ⟨hI.core, hI.ok, hI.ki.states, ⟨hI.ki.good, hg.semi.sem, hg.sh, hg.psh, hg.clk⟩, hI.ki.clock⟩
  have hsl : D.pu.sites.length = D.nodes.length := by show (D.nodes.map (·.p)).length = _; rw [List.length_map]
  have hrl : K.rds.length = D.begun := by
    have h1 : K.q.rds.length = D.begun := hI.ki.count.2
    have e : K.q.rds.length = K.rds.length := by simp [KS.q]
    omega
  refine ⟨K, D, ⟨D, hA, Quiet.refl D, rfl, fun j s hj => by omega⟩, by have h1 : K.nodes = (D.pu.sites.length : Int) := hI.ki.nodes; rw [h1, hsl], by rw [← hsl]; exact hI.ki.good.s3, by rw [hrl]; exact hI.ki.good.bmax, fun W' m hm hW' => ?_⟩
  obtain ⟨D', hA', hQ, hl, hU⟩ := hW'
  obtain ⟨l, hsim, hll⟩ := hI.ki.rdrs
  have hbn : D.begun ≤ j := hg.bn
  have hcn : D.clock ≤ (j : Int) := hg.cn
  have hlb : D.begun = l.length := hsim.begun
  refine ⟨D', hA', by rw [hl, ← hm]; exact hU, by rw [hQ.begun]; omega, by rw [hQ.clock]; omega, fun i hi hr => ?_, fun a b ha hb hra hrb hab => ?_⟩
  · rw [(hQ.seats i).1] at hr
    obtain ⟨k, y, e1, e2, _⟩ := hsim.seat i hi hr
    have hkl := (List.getElem?_eq_some_iff.mp e2).1
    exact ⟨k, by rw [(hQ.seats i).2]; exact e1, Nat.zero_le _, by omega⟩
  · rw [(hQ.seats a).1] at hra
    rw [(hQ.seats b).1] at hrb
    rw [(hQ.seats a).2, (hQ.seats b).2] at hab
    exact hsim.one a b ha hb hra hrb hab
theorem End3.done {w0 : Fr} {pb n rl : Nat} {K : KS} {W : World} (h : End3 w0 pb n rl rl K W) : Drop4 w0 pb n 0 K W := by
  obtain ⟨D, hA, hU, hb, hc, hs, ho⟩ := h
  refine ⟨D, hA, hU, hb, hc, fun j hj => ?_, by have := hA.ap.good.qmax; exact this⟩
  cases hr : (D.seats j).reads with
  | false => rfl
  | true =>
    obtain ⟨r, _, h1, h2⟩ := hs j hj hr
    omega
theorem End3.cells {w0 : Fr} {pb n rl i : Nat} {K : KS} {W : World} (h : End3 w0 pb n rl i K W) : Keep W pb K ∧ K.ok = true := by
  obtain ⟨D, hA, _⟩ := h
  exact ⟨hA.core.keep, hA.ok⟩
theorem Drop4.cells {w0 : Fr} {pb n i : Nat} {K : KS} {W : World} (h : Drop4 w0 pb n i K W) : Keep W pb K ∧ K.ok = true := by
  obtain ⟨D, hA, _⟩ := h
  exact ⟨hA.core.keep, hA.ok⟩
theorem Asked.cells {w0 : Fr} {pb n k : Nat} {K : KS} {D : DevS} {W : World} (h : Asked w0 pb n k K D W) : Keep W pb K ∧ K.ok = true := by
  obtain ⟨D', hA, _⟩ := h
  exact ⟨hA.core.keep, hA.ok⟩
theorem Rest5.cells {w0 : Fr} {pb n : Nat} {K : KS} {W : World} (h : Rest5 w0 pb n K W) : Keep W pb K := by
  obtain ⟨D, hA, _⟩ := h
  exact hA.core.keep
theorem Sit6.cells {w0 : Fr} {pb n a : Nat} {K : KS} {W : World} (h : Sit6 w0 pb n a K W) : Keep W pb K ∧ w0.Is W := by
  obtain ⟨D, hA, _⟩ := h
  exact ⟨hA.core.keep, hA.core.below⟩
theorem Hit7.kept {w0 : Fr} {pb n : Nat} {K : KS} {q : ByteArray} {ts : List (Nat × Nat)} {v : Int} {W W' : World} (h : Hit7 w0 pb n K q ts v W) (k : Kept (fun _ => False) W W') : Hit7 w0 pb n K q ts v W' := by
  obtain ⟨D, hA, h⟩ := h
  exact ⟨D, hA.kept k, h⟩
theorem Miss7.kept {w0 : Fr} {pb n : Nat} {K : KS} {q : ByteArray} {ts : List (Nat × Nat)} {v : Int} {W W' : World} (h : Miss7 w0 pb n K q ts v W) (k : Kept (fun _ => False) W W') : Miss7 w0 pb n K q ts v W' := by
  obtain ⟨D, hA, h⟩ := h
  exact ⟨D, hA.kept k, h⟩
theorem Hit7.cells {w0 : Fr} {pb n : Nat} {K : KS} {q : ByteArray} {ts : List (Nat × Nat)} {v : Int} {W : World} (h : Hit7 w0 pb n K q ts v W) : Keep W pb K := by
  obtain ⟨D, hA, _⟩ := h
  exact hA.core.keep
theorem Miss7.cells {w0 : Fr} {pb n : Nat} {K : KS} {q : ByteArray} {ts : List (Nat × Nat)} {v : Int} {W : World} (h : Miss7 w0 pb n K q ts v W) : Keep W pb K := by
  obtain ⟨D, hA, _⟩ := h
  exact hA.core.keep
theorem Ready8.cells {w0 : Fr} {pb n : Nat} {K : KS} {q : ByteArray} {ts : List (Nat × Nat)} {v : Int} {W : World} (h : Ready8 w0 pb n K q ts v W) : Keep W pb K := by
  obtain ⟨D, hA, _⟩ := h
  exact hA.core.keep
theorem Ready9.cells {w0 : Fr} {pb n b : Nat} {K : KS} {q : ByteArray} {ts : List (Nat × Nat)} {v : Int} {W : World} (h : Ready9 w0 pb n b K q ts v W) : Keep W pb K := by
  obtain ⟨D, hA, _⟩ := h
  exact hA.core.keep
theorem st_at2 {K : KS} {l : List PastE} (h : K.states = (fun _ => 0) :: l.map PastE.st) (t : Nat) (ht : t ≤ l.length) : ∃ hlt : t < K.states.length, K.states[t] = stAt l t := by
  have hlt : t < K.states.length := by rw [h]; simp; omega
  refine ⟨hlt, ?_⟩
  have e : K.states[t]? = some (stAt l t) := by
    rw [h]
    cases t with
    | zero => rfl
    | succ t =>
      have hl : t < l.length := by omega
      rw [List.getElem?_cons_succ, List.getElem?_map, List.getElem?_eq_getElem hl, stAt_succ (List.getElem?_eq_getElem hl)]
      rfl
  rw [List.getElem?_eq_getElem hlt] at e
  injection e

set_option maxRecDepth 100000 in
set_option maxHeartbeats 8000000 in
theorem again_any (w : World) (a b : Int) (ao : Option Addr) (n cap : Nat) (os : List StE) (q : ByteArray) (ha0 : -9223372036854775808 ≤ a) (ha1 : a ≤ 9223372036854775807) (hb0 : -9223372036854775808 ≤ b) (hb1 : b ≤ 9223372036854775807) (hsk : Sk w ao n os) (hok : ∀ o ∈ os, StOk w o) (hqs : q.size ≤ maxLen) :
    Calls Try.prog 3 #[.int .i64 a, .int .i64 b, .slice ao n cap, .string q] w fun e w' => KLawPost w e w' := by
  have HBG : Hid (Calls Try.prog 4 #[.int .i64 a, .int .i64 b] w fun e w' => ∃ pb, e = .returned (.pointer (some ⟨pb, 0, none⟩)) ∧ Hid (KJn (frOf w) pb 0 w')) := jbeganN w a b ha0 ha1 hb0 hb1
  have HSK : Hid (Sk w ao n os ∧ ∀ o ∈ os, StOk w o) := ⟨hsk, hok⟩
  have HST : Hid (∀ (W : World) (pb j : Nat) (o : StE), KJn (frOf w) pb j W → StOk w o → j ≤ 1048576 → Calls Try.prog 6 #[.pointer (some ⟨pb, 0, none⟩), .agg #[.int .i64 o.kd, .int .i64 o.b, .int .i64 o.c, .string o.s, .slice o.ka o.kn o.kc, .slice o.va o.vn o.vc]] W fun e w' => e = .returned (.tuple #[]) ∧ Hid (KJn (frOf w) pb (j + 1) w')) := fun W pb j o h ho hj => jstepN (frOf w) W pb j o h (ho.is h.is) hj
  have HEN : Hid (∀ (W : World) (pb j : Nat) (raw : Int), KJn (frOf w) pb j W → -9223372036854775808 ≤ raw → raw ≤ 9223372036854775807 → Calls Try.prog 5 #[.pointer (some ⟨pb, 0, none⟩), .int .i64 raw] W fun e w' => ∃ v, e = .returned v ∧ Hid (KJn (frOf w) pb (j + 1) w')) := fun W pb j raw h h1 h2 => jendN (frOf w) W pb j raw h h1 h2
  have HQS : Hid (q.size ≤ maxLen) := hqs
  have hl := hsk.len
  clear hsk hok ha0 ha1 hb0 hb1 hqs
  go_enter Try.func3, Try.ntmps3
  go_wp2_with (go_at_call 4; refine HBG.out.mono ?_; rintro e w1 ⟨pb, rfl, HJ0⟩)
  go_loopw [10] (fun iv wr => ∃ j : Nat, j ≤ n ∧ j ≤ 150 ∧ iv = .int .i64 j ∧ Hid (KJn (frOf w) pb j wr)) (fun iv _ => n - (intOf iv).toNat)
  case atStart => exact ⟨0, Nat.zero_le _, Nat.zero_le _, rfl, HJ0.out⟩
  case round =>
    obtain ⟨j, hj, hj150, rfl, HJ⟩ := hrel
    have c8 := HJ.out.ok
    by_cases hlt : j < n ∧ j < 150
    · have hlt' : j < os.length := by omega
      obtain ⟨bl, off, hao, s0, s1, s2, s3, s4, s5⟩ := HSK.out.1.at HJ.out.is hlt'
      obtain ⟨o, ho⟩ : ∃ o, o = os[j] := ⟨_, rfl⟩
      have HO : Hid (StOk w o) := by rw [ho]; exact HSK.out.2 _ (List.getElem_mem hlt')
      have hob0 := HO.out.b0
      have hob1 := HO.out.b1
      rw [← ho] at s0 s1 s2 s3 s4 s5
      have hj0 : (0 : Int) ≤ (j : Int) := by omega
      have hj1 : (j : Int) < (n : Int) := by omega
      have hj2 : (j : Int) < 150 := by omega
      have hjm : j ≤ 1048576 := by omega
      subst hao
      clear ho
      by_cases k5 : o.kd = 5
      · have q5 : ((o.kd : Int) == 5) = true := beq_iff_eq.mpr k5
        clear k5
        go_wp2_with (go_at_call 5; refine (HEN.out _ pb j o.b HJ.out hob0 hob1).mono ?_; rintro e w2 ⟨v, rfl, HJ2⟩)
        go_roundw
        case rel => exact ⟨j + 1, by omega, by omega, by go_num, HJ2.out⟩
        case measure => simp [intOf]; omega
      · have q5 : ((o.kd : Int) == 5) = false := beq_eq_false_iff_ne.mpr k5
        clear k5
        go_wp2_with (go_at_call 6; refine (HST.out _ pb j o HJ.out HO.out hjm).mono ?_; rintro e w2 ⟨rfl, HJ2⟩)
        go_roundw
        case rel => exact ⟨j + 1, by omega, by omega, by go_num, HJ2.out⟩
        case measure => simp [intOf]; omega
    · have hs : (¬ j < n) ∨ (j < n ∧ ¬ j < 150) := by omega
      obtain ⟨K, D, hAs, hnodes, hn3, hr200, hE3⟩ := HJ.out.rest hj150
      obtain ⟨m, hm⟩ : ∃ m, m = D.nodes.length := ⟨_, rfl⟩
      obtain ⟨rl, hrl⟩ : ∃ rl, rl = K.rds.length := ⟨_, rfl⟩
      obtain ⟨nn, hnn⟩ : ∃ nn, nn = j := ⟨_, rfl⟩
      have hm3 : m ≤ 3 := by omega
      have hrl2 : rl ≤ 200 := by omega
      have hj2 : nn ≤ 1000 := by omega
      have hj3 : nn + 1 ≤ 1000 := by omega
      have hj4 : nn + 1 + 1 ≤ 1000 := by omega
      have HA0 : Hid (Asked (frOf w) pb nn 0 K D wr) := by rw [hnn]; exact hAs
      have HE3 : Hid (∀ W', Asked (frOf w) pb nn m K D W' → End3 (frOf w) pb nn rl 0 K W') := fun W' h => by rw [hrl]; rw [hnn] at h ⊢; exact hE3 W' m hm h
      have HCE : Hid (∀ W, Keep W pb K ∧ K.ok = true → W.cell? ⟨pb, 0, none⟩ = some (.pointer (some ⟨K.xb, 0, none⟩)) ∧ W.cell? ⟨pb, 1, none⟩ = some (.int .i64 (m : Int)) ∧ W.cell? ⟨pb, 8, none⟩ = some (.bool true) ∧ (∀ f, W.frozen? ⟨pb, f, none⟩ = false) ∧ ∃ ar cr, W.cell? ⟨pb, 6, none⟩ = some (.slice ar rl cr)) := fun W h => by
        obtain ⟨ar, cr, hvr, _⟩ := h.1.rds.form
        refine ⟨h.1.c0, by have := h.1.c1; rw [hnodes, ← hm] at this; exact this, by have := h.1.c8; rw [h.2] at this; exact this, fun f => h.1.blk.free f, ar, cr, by rw [hrl, ← hvr]; exact h.1.c6⟩
      have HAK : Hid (∀ (W : World) (k : Nat), Asked (frOf w) pb nn k K D W → k < m → Calls Try.prog 7 #[.pointer (some ⟨pb, 0, none⟩), .int .i64 (k : Int)] W fun e w' => e = .returned (.bool true) ∧ Hid (Asked (frOf w) pb nn (k + 1) K D w')) := fun W k h hk => h.call (by omega) (by omega)
      have HEC : Hid (∀ (W : World) (i : Nat), End3 (frOf w) pb nn rl i K W → Calls Try.prog 8 #[.pointer (some ⟨K.xb, 0, none⟩), .int .i64 (i : Int)] W fun e w' => ∃ v, e = .returned v ∧ Hid (End3 (frOf w) pb nn rl (i + 1) K w')) := fun W i h => h.call
      have HDC : Hid (∀ (W : World) (i : Nat), Drop4 (frOf w) pb nn i K W → i < 10 → Calls Try.prog 9 #[.pointer (some ⟨K.xb, 0, none⟩), .int .i64 0] W fun e w' => ∃ v, e = .returned v ∧ Hid (Drop4 (frOf w) pb nn (i + 1) K w')) := fun W i h hi => h.call hj2 hi
      clear hAs hnodes hn3 hr200 hE3 hm hrl HJ HEN HST hnn
      have hcase : ((j : Int) < (n : Int) ∧ (150 : Int) ≤ (j : Int)) ∨ (n : Int) ≤ (j : Int) := by omega
      clear hs hlt
      rcases hcase with ⟨hs1, hs2⟩ | hs1
      all_goals
        go_wp2
        go_loopw [11] (fun kv wx => ∃ k : Nat, k ≤ m ∧ kv = .int .i64 k ∧ Hid (Asked (frOf w) pb nn k K D wx)) (fun kv _ => m - (intOf kv).toNat)
        case atStart => exact ⟨0, Nat.zero_le _, rfl, HA0.out⟩
        case round =>
          obtain ⟨k, hk, rfl, HK⟩ := hrel
          obtain ⟨d0, d1, d8, df, ar, cr, d6⟩ := HCE.out _ HK.out.cells
          by_cases hlt : k < m
          · have hk1 : (k : Int) < (m : Int) := by omega
            go_wp2_with (go_at_call 7; refine (HAK.out _ k HK.out hlt).mono ?_; rintro e w2 ⟨rfl, HK2⟩; obtain ⟨_, _, e8, ef, _⟩ := HCE.out _ HK2.out.cells)
            go_roundw
            case rel => exact ⟨k + 1, by omega, by go_num, HK2.out.setOk⟩
            case measure => simp [intOf]; omega
          · have hke : k = m := by omega
            have HE0 : Hid (End3 (frOf w) pb nn rl 0 K wr) := HE3.out _ (by rw [← hke]; exact HK.out)
            have hk1 : (m : Int) ≤ (k : Int) := by omega
            clear hke hlt
            go_wp2
            go_loopw [12] (fun iv wx => ∃ i : Nat, i ≤ rl ∧ iv = .int .i64 i ∧ Hid (End3 (frOf w) pb nn rl i K wx)) (fun iv _ => rl - (intOf iv).toNat)
            case atStart => exact ⟨0, Nat.zero_le _, rfl, HE0.out⟩
            case round =>
              obtain ⟨i, hi, rfl, HI⟩ := hrel
              obtain ⟨f0, f1, f8, ff, ar2, cr2, f6⟩ := HCE.out _ HI.out.cells
              by_cases hil : i < rl
              · have hi1 : (i : Int) < (rl : Int) := by omega
                go_wp2_with (go_at_call 8; refine (HEC.out _ i HI.out).mono ?_; rintro e w2 ⟨v, rfl, HI2⟩)
                go_roundw
                case rel => exact ⟨i + 1, by omega, by go_num, HI2.out⟩
                case measure => simp [intOf]; omega
              · have hie : i = rl := by omega
                have HD0 : Hid (Drop4 (frOf w) pb nn 0 K wr) := by have := HI.out; rw [hie] at this; exact this.done
                have hi1 : (rl : Int) ≤ (i : Int) := by omega
                clear hie hil
                go_wp2
                go_loopw [13] (fun iv wx => ∃ i : Nat, i ≤ 10 ∧ iv = .int .i64 i ∧ Hid (Drop4 (frOf w) pb nn i K wx)) (fun iv _ => 10 - (intOf iv).toNat)
                case atStart => exact ⟨0, Nat.zero_le _, rfl, HD0.out⟩
                case round =>
                  obtain ⟨i4, hi4, rfl, HI4⟩ := hrel
                  obtain ⟨p0, p1, p8, pf, ar3, cr3, p6⟩ := HCE.out _ HI4.out.cells
                  by_cases hil4 : i4 < 10
                  · have hi5 : (i4 : Int) < 10 := by omega
                    go_wp2_with (go_at_call 9; refine (HDC.out _ i4 HI4.out hil4).mono ?_; rintro e w2 ⟨v, rfl, HI2⟩)
                    go_roundw
                    case rel => exact ⟨i4 + 1, by omega, by go_num, HI2.out⟩
                    case measure => simp [intOf]; omega
                  · have hie4 : i4 = 10 := by omega
                    subst hie4
                    have HDT : Hid (Calls Try.prog 10 #[.pointer (some ⟨pb, 0, none⟩)] wr fun e w' => e = .returned (.tuple #[]) ∧ Hid (∃ K', Rest5 (frOf w) pb nn K' w' ∧ K'.xb = K.xb)) := HI4.out.tick hj2
                    have hq : (∃ er : Int, er ≠ 0 ∧ Q.readL q.data.toList = (er, [])) ∨ ∃ ts, Q.readL q.data.toList = (0, ts) := by
                      rcases Q.readL_cases q.data.toList with h | h | ⟨ts, h, _⟩
                      · exact .inl ⟨3, by omega, h⟩
                      · exact .inl ⟨4, by omega, h⟩
                      · exact .inr ⟨ts, h⟩
                    rcases hq with ⟨er, her, hqr⟩ | ⟨ts, hqr⟩
                    · have HQR : Hid (Q.readL q.data.toList = (er, [])) := hqr
                      have HER : Hid (er ≠ 0) := her
                      have HPA : Hid (∀ W, Calls Try.prog 13 #[.string q] W fun e w' => ∃ x y : Int, e = .returned (.tuple #[.agg #[.int .u8 x, .int .i64 y], .int .i64 er]) ∧ Kept (fun _ => False) W w') := fun W => (aParse_any q W HQS.out).mono fun e w' hp => by
                          obtain ⟨h1, h2⟩ := hp
                          rw [hqr] at h1
                          exact ⟨_, _, h1, Kept.of_below h2 _⟩
                      have hb1 : ((er : Int) != 0) = true := by simp [her]
                      have hb2 : ((er : Int) == 0) = false := beq_eq_false_iff_ne.mpr her
                      clear hqr her
                      go_wp2_with first
                        | (go_at_call 10; refine HDT.out.mono ?_; rintro e w2 ⟨rfl, hT⟩; obtain ⟨K', hR5, hx⟩ := hT.out; have HR5 : Hid (Rest5 (frOf w) pb nn K' w2) := hR5; have e0 := hR5.cells.c0; clear hT hR5 hx)
                        | (go_at_call 11; refine (HR5.out.begin hj2).mono ?_; rintro e w3 ⟨aa, rfl, HS6⟩; have g0 := HS6.out.cells.1.c0)
                        | (go_at_call 12; refine (HS6.out.bad HQS.out HER.out HQR.out).mono ?_; rintro e w4 ⟨rfl, hk4⟩; have HK4 : Hid (Kept (fun _ => False) w3 w4) := hk4; clear hk4)
                        | (go_at_call 13; refine (HPA.out _).mono ?_; rintro e w5 ⟨x, y, rfl, hk5⟩; have HK5 : Hid (Kept (fun _ => False) w3 w5) := HK4.out.trans hk5 (fun _ => id) (fun _ _ => id); clear hk5)
                      go_ret
                      exact ⟨rfl, (HS6.out.cells.2.next (HK5.out.allocNew _) (fun _ h => h.elim)).below⟩
                    · have HQR : Hid (Q.readL q.data.toList = (0, ts)) := hqr
                      have HPA : Hid (∀ W, Calls Try.prog 13 #[.string q] W fun e w' => ∃ x y : Int, e = .returned (.tuple #[.agg #[.int .u8 x, .int .i64 y], .int .i64 0]) ∧ Kept (fun _ => False) W w') := fun W => (aParse_any q W HQS.out).mono fun e w' hp => by
                          obtain ⟨h1, h2⟩ := hp
                          rw [hqr] at h1
                          exact ⟨_, _, h1, Kept.of_below h2 _⟩
                      clear hqr
                      go_wp2_with first
                        | (go_at_call 10; refine HDT.out.mono ?_; rintro e w2 ⟨rfl, hT⟩; obtain ⟨K', hR5, hx⟩ := hT.out; have HR5 : Hid (Rest5 (frOf w) pb nn K' w2) := hR5; have e0 := hR5.cells.c0; clear hT hR5 hx)
                        | (go_at_call 11; refine (HR5.out.begin hj2).mono ?_; clear HR5; rintro e w3 ⟨aa, rfl, HS6⟩; have g0 := HS6.out.cells.1.c0)
                        | (go_at_call 12; refine (HS6.out.read hj2 HQR.out).mono ?_; clear HS6; rintro e w4 ⟨v, ⟨rfl, HH⟩ | ⟨rfl, HH⟩⟩)
                        | (go_at_call 13; refine (HPA.out _).mono ?_; rintro e w5 ⟨x, y, rfl, hk5⟩; have HK5 : Hid (Kept (fun _ => False) w4 w5) := hk5; have z5 := (hk5.hold HH.out.cells.c0); have g5 : ∀ o : Obj, (w5.alloc o).cell? ⟨pb, 0, none⟩ = some (.pointer (some ⟨K'.xb, 0, none⟩)) := fun o => hold_al z5; clear hk5)
                        | (go_at_call 14; refine ((HH.out.kept (HK5.out.allocNew _)).puts hj3).mono ?_; rintro e w6 ⟨ap, cp, rfl, HP⟩; have g6 := HP.out.cells.c0)
                        | (go_at_call 15; refine (HP.out.store hj3 HQR.out).mono ?_; rintro e w7 ⟨rfl, HR8⟩; have g7 := HR8.out.cells.c0)
                        | (go_at_call 11; refine (HR8.out.begin hj4).mono ?_; rintro e w8 ⟨bb, rfl, HR9⟩; have g8 := HR9.out.cells.c0)
                        | (go_at_call 11; refine (HP.out.begin hj3).mono ?_; rintro e w8 ⟨bb, rfl, HR9⟩; have g8 := HR9.out.cells.c0)
                        | (go_at_call 12; refine (HR9.out.read hj4 HQR.out).mono ?_; rintro e w9 ⟨rfl, HF⟩)
                        | (go_at_call 12; refine (HR9.out.read hj3 HQR.out).mono ?_; rintro e w9 ⟨rfl, HF⟩)
                      all_goals
                        obtain ⟨l, hKp, hIs, hstt, hlm, hv⟩ := HF.out
                        have hsl : K'.states.length = l.length + 1 := by rw [hstt]; simp
                        obtain ⟨g, cs, hvs, hog, _⟩ := hKp.states.block (by omega)
                        obtain ⟨m9, hm9⟩ : ∃ x, x = l.length := ⟨_, rfl⟩
                        rw [hsl, ← hm9] at hvs
                        obtain ⟨st, hst⟩ : ∃ x, x = stAt l m9 := ⟨_, rfl⟩
                        have c3 : w9.cell? ⟨pb, 3, none⟩ = some (.slice (some ⟨g, 0, none⟩) (m9 + 1) cs) := by rw [← hvs]; exact hKp.c3
                        have hm97 : m9 ≤ 700 := by omega
                        have cst : ∀ f u, (stL st)[f]? = some u → w9.cell? ⟨g, m9 * 8 + f, none⟩ = some u := fun f u hu => hKp.states.cell hog _ u (by
                          obtain ⟨hlt9, e9⟩ := st_at2 hstt m9 (by omega)
                          have hf : f < 8 := (List.getElem?_eq_some_iff.mp hu).1
                          rw [state_at K'.states m9 hlt9 f hf, e9, ← hst]
                          exact hu)
                        have s0 : w9.cell? ⟨g, m9 * 8, none⟩ = some (.int .i32 (st 0)) := cst 0 _ rfl
                        have s1 : w9.cell? ⟨g, m9 * 8 + 1, none⟩ = some (.int .i32 (st 1)) := cst 1 _ rfl
                        have s2 : w9.cell? ⟨g, m9 * 8 + 2, none⟩ = some (.int .i32 (st 2)) := cst 2 _ rfl
                        have s3 : w9.cell? ⟨g, m9 * 8 + 3, none⟩ = some (.int .i32 (st 3)) := cst 3 _ rfl
                        have s4 : w9.cell? ⟨g, m9 * 8 + 4, none⟩ = some (.int .i32 (st 4)) := cst 4 _ rfl
                        have s5 : w9.cell? ⟨g, m9 * 8 + 5, none⟩ = some (.int .i32 (st 5)) := cst 5 _ rfl
                        have s6 : w9.cell? ⟨g, m9 * 8 + 6, none⟩ = some (.int .i32 (st 6)) := cst 6 _ rfl
                        have s7 : w9.cell? ⟨g, m9 * 8 + 7, none⟩ = some (.int .i32 (st 7)) := cst 7 _ rfl
                        have HNW : Hid (Calls Try.prog 17 #[.pointer (some ⟨pb, 0, none⟩)] w9.drew fun e w' => e = .returned (.int .i64 (m9 : Int)) ∧ w9.drew = w') := knewest_c w9.drew pb _ m9 cs (drew_cell0 c3) (by omega)
                        have HEV : Hid (∀ W, Calls Try.prog 16 #[.string q, .agg #[.int .i32 (st 0), .int .i32 (st 1), .int .i32 (st 2), .int .i32 (st 3), .int .i32 (st 4), .int .i32 (st 5), .int .i32 (st 6), .int .i32 (st 7)]] W fun e w' => e = .returned (.tuple #[.int .i32 v, .int .i64 0]) ∧ Kept (fun _ => False) W w') := fun W => (aEval_any q st W HQS.out).mono fun e w' hp => by
                          obtain ⟨h1, h2⟩ := hp
                          rw [HQR.out] at h1
                          refine ⟨?_, Kept.of_below h2 _⟩
                          rw [h1, hv, hst, hm9]
                        have HIS : Hid ((frOf w).Is w9) := hIs
                        have hm0 : (0 : Int) ≤ (m9 : Int) := by omega
                        have hm1 : (m9 : Int) < (m9 : Int) + 1 := by omega
                        clear hKp hIs hstt hlm hv hsl hvs hog hm9 hst cst e0 g0 g5 z5 g6 g8
                        have xc3 := drew_cell0 c3
                        have xs0 := drew_cell0 s0
                        have xs1 := drew_cell0 s1
                        have xs2 := drew_cell0 s2
                        have xs3 := drew_cell0 s3
                        have xs4 := drew_cell0 s4
                        have xs5 := drew_cell0 s5
                        have xs6 := drew_cell0 s6
                        have xs7 := drew_cell0 s7
                        go_region_held3 (fun w' => w'.cell? ⟨pb, 3, none⟩ = some (.slice (some ⟨g, 0, none⟩) (m9 + 1) cs) ∧ w'.cell? ⟨g, m9 * 8, none⟩ = some (.int .i32 (st 0)) ∧ w'.cell? ⟨g, m9 * 8 + 1, none⟩ = some (.int .i32 (st 1)) ∧ w'.cell? ⟨g, m9 * 8 + 2, none⟩ = some (.int .i32 (st 2)) ∧ w'.cell? ⟨g, m9 * 8 + 3, none⟩ = some (.int .i32 (st 3)) ∧ w'.cell? ⟨g, m9 * 8 + 4, none⟩ = some (.int .i32 (st 4)) ∧ w'.cell? ⟨g, m9 * 8 + 5, none⟩ = some (.int .i32 (st 5)) ∧ w'.cell? ⟨g, m9 * 8 + 6, none⟩ = some (.int .i32 (st 6)) ∧ w'.cell? ⟨g, m9 * 8 + 7, none⟩ = some (.int .i32 (st 7))) (first | with_reducible exact ⟨yc3, ys0, ys1, ys2, ys3, ys4, ys5, ys6, ys7⟩ | with_reducible exact ⟨xc3, xs0, xs1, xs2, xs3, xs4, xs5, xs6, xs7⟩ | fail) (first | (go_at_call 17; refine HNW.out.mono ?_; rintro e w10 ⟨rfl, rfl⟩) | (go_at_call 16; refine (HEV.out _).mono ?_; rintro e w10 ⟨rfl, hk3⟩; have yc3 := hk3.hold xc3; have ys0 := hk3.hold xs0; have ys1 := hk3.hold xs1; have ys2 := hk3.hold xs2; have ys3 := hk3.hold xs3; have ys4 := hk3.hold xs4; have ys5 := hk3.hold xs5; have ys6 := hk3.hold xs6; have ys7 := hk3.hold xs7; have HK3 : Hid (Kept (fun _ => False) w9 w10) := (Kept.refl _ _).drew.trans hk3 (fun _ => id) (fun _ _ => id); clear hk3))
                        all_goals
                          go_wp2
                          go_ret
                          exact ⟨rfl, (HIS.out.next HK3.out (fun _ h => h.elim)).below⟩

end Go.Proofs.Ytpfcacedpkaihab
