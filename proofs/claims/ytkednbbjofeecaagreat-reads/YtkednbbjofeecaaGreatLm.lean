/- The law's plays (package almanaclaw), walked, whatever holds between two steps. -/
import Derived.Test.YtkednbbjofeecaaGreatLdLkLl
import Derived.BigQuiet
namespace Go.Proofs.YtkednbbjofeecaaGreat
open Go.RowKit

/-- a script in memory. -/
structure Sc (w : World) (ao : Option Addr) (n : Nat) (os : List OpE) : Prop where
  len : os.length = n
  cell : ∀ j (h : j < os.length), ∃ bl off, ao = some ⟨bl, off, none⟩ ∧ bl < w.heap.size ∧ ∀ f, f < 6 → w.cell? ⟨bl, off + j * 6 + f, none⟩ = (opC os[j])[f]?

/-- the kinds in memory. -/
def Ks (w : World) (kb : Nat) (ks : List Int) : Prop := kb < w.heap.size ∧ ∀ j (h : j < ks.length), w.cell? ⟨kb, j, none⟩ = some (.int .i64 ks[j])

theorem below_cell {B : Nat} {w w' : World} (h : Below B w w') {a : Addr} (hb : a.block < B) : w'.cell? a = w.cell? a := World.cell?_of_block (h.block a.block hb)

def PlaysPost (n : Nat) (I : Nat → World → Prop) (e : Ending) (w' : World) : Prop := e = .returned (.bool true) ∧ I n w'

theorem any_snoc (ks : List Int) (k : Int) (t : Nat) (h : t < ks.length) : (ks.take (t + 1)).any (fun x => k == x) = ((ks.take t).any (fun x => k == x) || (k == ks[t])) := by
  rw [List.take_succ_eq_append_getElem h, List.any_append]; simp

set_option maxRecDepth 100000 in
set_option maxHeartbeats 1000000 in
theorem lplays (w0 : World) (ao : Option Addr) (n cap kb kcap : Nat) (os : List OpE) (ks : List Int) (most : Int) (I J : Nat → World → Prop) (hsc : Sc w0 ao n os) (hks : Ks w0 kb ks) (hn : n ≤ 4611686018427387904) (hkn : ks.length ≤ 100)
    (hbelow : ∀ k W, I k W → Below w0.heap.size w0 W)
    (h0 : I 0 (w0.alloc (.cells (playC nilV nilV nilV nilV 0 most) 34)))
    (hkeep : ∀ k W W', I k W → Kept (fun _ => False) W W' → I k W')
    (hskip : ∀ k W, I k W → I (k + 1) W)
    (hstep : ∀ k W (hk : k < os.length), I k W → ks.any (fun x => os[k].kd == x) = true → Calls Tryz.prog 9 #[.pointer (some ⟨w0.heap.size, 0, none⟩), .agg #[.int .i64 os[k].kd, .int .i64 os[k].a, .int .i64 os[k].b, .int .i64 os[k].c, .string os[k].s, .slice os[k].ao os[k].n os[k].cap]] W fun e w' => e = .returned (.bool true) ∧ J k w')
    (hwhole : ∀ k W, k < os.length → J k W → Calls Tryz.prog 10 #[.pointer (some ⟨w0.heap.size, 1, none⟩)] W fun e w' => e = .returned (.bool true) ∧ I (k + 1) w') :
    Calls Tryz.prog 8 #[.slice ao n cap, .slice (some ⟨kb, 0, none⟩) ks.length kcap, .int .i64 most] w0 fun e w' => PlaysPost n I e w' := by
  have hl := hsc.len
  have HSC : Hid (Sc w0 ao n os) := hsc
  have HKS : Hid (Ks w0 kb ks) := hks
  have HBE : Hid (∀ k W, I k W → Below w0.heap.size w0 W) := hbelow
  have H0 : Hid (I 0 (w0.alloc (.cells (playC nilV nilV nilV nilV 0 most) 34))) := h0
  have HKE : Hid (∀ k W W', I k W → Kept (fun _ => False) W W' → I k W') := hkeep
  have HSK : Hid (∀ k W, I k W → I (k + 1) W) := hskip
  have HST : Hid (∀ k W (hk : k < os.length), I k W → ks.any (fun x => os[k].kd == x) = true → Calls Tryz.prog 9 #[.pointer (some ⟨w0.heap.size, 0, none⟩), .agg #[.int .i64 os[k].kd, .int .i64 os[k].a, .int .i64 os[k].b, .int .i64 os[k].c, .string os[k].s, .slice os[k].ao os[k].n os[k].cap]] W fun e w' => e = .returned (.bool true) ∧ Hid (J k w')) := hstep
  have HWH : Hid (∀ k W, k < os.length → J k W → Calls Tryz.prog 10 #[.pointer (some ⟨w0.heap.size, 1, none⟩)] W fun e w' => e = .returned (.bool true) ∧ Hid (I (k + 1) w')) := hwhole
  clear hsc hks hbelow h0 hkeep hskip hstep hwhole
  go_enter Tryz.func8, Tryz.ntmps8
  go_wp2
  go_loopw [8] (fun i wr => ∃ k : Nat, k ≤ n ∧ i = .int .i64 k ∧ Hid (I k wr)) (fun i _ => n - (intOf i).toNat)
  case atStart => exact ⟨0, Nat.zero_le _, rfl, H0⟩
  case round =>
    obtain ⟨k, hk, rfl, HI⟩ := hrel
    by_cases hlt : k < n
    · have hlt' : k < os.length := by omega
      obtain ⟨bl, off, hao, hbl, hcell⟩ := HSC.out.cell k hlt'
      obtain ⟨o, ho⟩ : ∃ o, o = os[k] := ⟨_, rfl⟩
      rw [← ho] at hcell
      have HCELL : Hid (∀ W, Below w0.heap.size w0 W → ∀ f, f < 6 → W.cell? ⟨bl, off + k * 6 + f, none⟩ = (opC o)[f]?) := fun W hW f hf => (below_cell hW hbl).trans (hcell f hf)
      have HO : Hid (o = os[k]) := ho
      subst hao
      clear hcell ho
      go_wp2
      go_loopw [9, 10] (fun inn j wy => ∃ t : Nat, t ≤ ks.length ∧ j = .int .i64 t ∧ inn = .bool ((ks.take t).any (fun x => o.kd == x)) ∧ Hid (I k wy)) (fun _ j _ => ks.length - (intOf j).toNat)
      case atStart => exact ⟨0, Nat.zero_le _, rfl, rfl, HI⟩
      case round =>
        obtain ⟨t, ht, rfl, rfl, HI2⟩ := hrel
        have hB := HBE.out k wr HI2.out
        have s0 : wr.cell? ⟨bl, off + k * 6, none⟩ = some (.int .i64 o.kd) := HCELL.out wr hB 0 (by omega)
        by_cases hts : t < ks.length
        · have kc : wr.cell? ⟨kb, t, none⟩ = some (.int .i64 ks[t]) := (below_cell hB HKS.out.1).trans (HKS.out.2 t hts)
          have HAN : Hid ((ks.take (t + 1)).any (fun x => o.kd == x) = ((ks.take t).any (fun x => o.kd == x) || (o.kd == ks[t]))) := any_snoc ks o.kd t hts
          generalize ks[t] = kt at *
          generalize hin : (ks.take t).any (fun x => o.kd == x) = inn at *
          clear hB hin
          cases inn with
          | true =>
            clear s0 kc
            go_wp2_with fail
            go_quiet (fail)
            go_wp2
            go_roundw
            case rel => exact ⟨t + 1, by omega, by go_num, by rw [HAN.out, Bool.true_or], HKE.out _ _ _ HI2.out ((Kept.refl _ _).drewN _)⟩
            case measure => simp [intOf]; omega
          | false =>
            cases hkt : (o.kd == kt) with
            | true =>
              rw [hkt] at HAN
              go_wp2_with fail
              go_quiet (fail)
              go_wp2
              go_roundw
              case rel => exact ⟨t + 1, by omega, by go_num, by rw [HAN.out]; rfl, HKE.out _ _ _ HI2.out ((Kept.refl _ _).drewN _)⟩
              case measure => simp [intOf]; omega
            | false =>
              rw [hkt] at HAN
              go_wp2_with fail
              go_quiet (fail)
              go_wp2
              go_roundw
              case rel => exact ⟨t + 1, by omega, by go_num, by rw [HAN.out]; rfl, HKE.out _ _ _ HI2.out ((Kept.refl _ _).drewN _)⟩
              case measure => simp [intOf]; omega
        · have htt : t = ks.length := by omega
          subst htt
          rw [List.take_length]
          generalize hin : ks.any (fun x => o.kd == x) = inn
          cases inn with
          | false =>
            clear hB s0
            go_wp2
            go_roundw
            case rel => exact ⟨k + 1, by omega, by go_num, HSK.out _ _ HI2.out⟩
            case measure => simp [intOf]; omega
          | true =>
            have s1 : wr.cell? ⟨bl, off + k * 6 + 1, none⟩ = some (.int .i64 o.a) := HCELL.out wr hB 1 (by omega)
            have s2 : wr.cell? ⟨bl, off + k * 6 + 2, none⟩ = some (.int .i64 o.b) := HCELL.out wr hB 2 (by omega)
            have s3 : wr.cell? ⟨bl, off + k * 6 + 3, none⟩ = some (.int .i64 o.c) := HCELL.out wr hB 3 (by omega)
            have s4 : wr.cell? ⟨bl, off + k * 6 + 4, none⟩ = some (.string o.s) := HCELL.out wr hB 4 (by omega)
            have s5 : wr.cell? ⟨bl, off + k * 6 + 5, none⟩ = some (.slice o.ao o.n o.cap) := HCELL.out wr hB 5 (by omega)
            have HS2 : Hid (Calls Tryz.prog 9 #[.pointer (some ⟨w0.heap.size, 0, none⟩), .agg #[.int .i64 o.kd, .int .i64 o.a, .int .i64 o.b, .int .i64 o.c, .string o.s, .slice o.ao o.n o.cap]] wr fun e w' => e = .returned (.bool true) ∧ Hid (J k w')) := by
              have := HST.out k wr hlt' HI2.out (by rw [← HO.out]; exact hin)
              rw [← HO.out] at this
              exact this
            clear hB hin
            go_wp2_with first
              | (go_at_call 9; refine HS2.out.mono ?_; rintro e w1 ⟨rfl, hj1⟩)
              | (go_at_call 10; refine (HWH.out k w1 hlt' hj1.out).mono ?_; rintro e w2 ⟨rfl, hi2⟩)
            go_roundw
            case rel => exact ⟨k + 1, by omega, by go_num, hi2⟩
            case measure => simp [intOf]; omega
    · have hkk : k = n := by omega
      subst hkk
      go_wp2
      go_ret
      exact ⟨rfl, HI.out⟩

end Go.Proofs.YtkednbbjofeecaaGreat
