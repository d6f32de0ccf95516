import Derived.Test.YtpfcacedpkaihaaGreatLl
import Derived.BigQuiet
import Derived.ProofKit
import Derived.OpenShut
import Derived.ShutString
import Derived.ChangeOld
import Derived.Below
import Derived.SizedLaws
import Derived.Test.YtpfcacedpkaihaaGreatHp
/- The law's plays (package almanaclaw), walked, whatever holds between two steps. -/
namespace Go.Proofs.YtpfcacedpkaihaaGreat
open Go.RowKit

/-- a script in memory. -/
structure Sc (w : World) (ao : Option Addr) (n : Nat) (os : List OpE) : Prop where
  len : os.length = n
  cell : ∀ j (h : j < os.length), ∃ bl off, ao = some ⟨bl, off, none⟩ ∧ bl < w.heap.size ∧ ∀ f, f < 6 → w.cell? ⟨bl, off + j * 6 + f, none⟩ = (opC os[j])[f]?

/-- the kinds in memory. -/
def Ks (w : World) (kb : Nat) (ks : List Int) : Prop := kb < w.heap.size ∧ ∀ j (h : j < ks.length), w.cell? ⟨kb, j, none⟩ = some (.int .i64 ks[j])

theorem below_cell {B : Nat} {w w' : World} (h : Below B w w') {a : Addr} (hb : a.block < B) : w'.cell? a = w.cell? a := World.cell?_of_block (h.block a.block hb)

def PlaysPost (n : Nat) (I : Nat → World → Prop) (e : Ending) (w' : World) : Prop := e = .returned (.bool true) ∧ I n w'

theorem any_snoc (ks : List Int) (k : Int) (t : Nat) (h : t < ks.length) : (ks.take (t + 1)).any (fun x => k == x) = ((ks.take t).any (fun x => k == x) || (k == ks[t])) := by
  rw [List.take_succ_eq_append_getElem h, List.any_append]; simp

set_option maxRecDepth 100000 in
set_option maxHeartbeats 1000000 in
theorem lplays (w0 : World) (ao : Option Addr) (n cap kb kcap : Nat) (os : List OpE) (ks : List Int) (most : Int) (I J : Nat → World → Prop) (hsc : Sc w0 ao n os) (hks : Ks w0 kb ks) (hn : n ≤ 4611686018427387904) (hkn : ks.length ≤ 100)
    (hbelow : ∀ k W, I k W → Below w0.heap.size w0 W)
    (h0 : I 0 (w0.alloc (.cells (playC nilV nilV nilV nilV 0 most) 34)))
    (hkeep : ∀ k W W', I k W → Kept (fun _ => False) W W' → I k W')
    (hskip : ∀ k W, I k W → I (k + 1) W)
    (hstep : ∀ k W (hk : k < os.length), I k W → ks.any (fun x => os[k].kd == x) = true → Calls Tryz.prog 9 #[.pointer (some ⟨w0.heap.size, 0, none⟩), .agg #[.int .i64 os[k].kd, .int .i64 os[k].a, .int .i64 os[k].b, .int .i64 os[k].c, .string os[k].s, .slice os[k].ao os[k].n os[k].cap]] W fun e w' => e = .returned (.bool true) ∧ J k w')
    (hwhole : ∀ k W, k < os.length → J k W → Calls Tryz.prog 10 #[.pointer (some ⟨w0.heap.size, 1, none⟩)] W fun e w' => e = .returned (.bool true) ∧ I (k + 1) w') :
    Calls Tryz.prog 8 #[.slice ao n cap, .slice (some ⟨kb, 0, none⟩) ks.length kcap, .int .i64 most] w0 fun e w' => PlaysPost n I e w' := by
  have hl := hsc.len
  have HSC : Hid (Sc w0 ao n os) := hsc
  have HKS : Hid (Ks w0 kb ks) := hks
  have HBE : Hid (∀ k W, I k W → Below w0.heap.size w0 W) := hbelow
  have H0 : Hid (I 0 (w0.alloc (.cells (playC nilV nilV nilV nilV 0 most) 34))) := h0
  have HKE : Hid (∀ k W W', I k W → Kept (fun _ => False) W W' → I k W') := hkeep
  have HSK : Hid (∀ k W, I k W → I (k + 1) W) := hskip
  have HST : Hid (∀ k W (hk : k < os.length), I k W → ks.any (fun x => os[k].kd == x) = true → Calls Tryz.prog 9 #[.pointer (some ⟨w0.heap.size, 0, none⟩), .agg #[.int .i64 os[k].kd, .int .i64 os[k].a, .int .i64 os[k].b, .int .i64 os[k].c, .string os[k].s, .slice os[k].ao os[k].n os[k].cap]] W fun e w' => e = .returned (.bool true) ∧ Hid (J k w')) := hstep
  have HWH : Hid (∀ k W, k < os.length → J k W → Calls Tryz.prog 10 #[.pointer (some ⟨w0.heap.size, 1, none⟩)] W fun e w' => e = .returned (.bool true) ∧ Hid (I (k + 1) w')) := hwhole
  clear hsc hks hbelow h0 hkeep hskip hstep hwhole
  go_enter Tryz.func8, Tryz.ntmps8
  go_wp2
  go_loopw [8] (fun i wr => ∃ k : Nat, k ≤ n ∧ i = .int .i64 k ∧ Hid (I k wr)) (fun i _ => n - (intOf i).toNat)
  case atStart => exact ⟨0, Nat.zero_le _, rfl, H0⟩
  case round =>
    obtain ⟨k, hk, rfl, HI⟩ := hrel
    by_cases hlt : k < n
    · have hlt' : k < os.length := by omega
      obtain ⟨bl, off, hao, hbl, hcell⟩ := HSC.out.cell k hlt'
      obtain ⟨o, ho⟩ : ∃ o, o = os[k] := ⟨_, rfl⟩
      rw [← ho] at hcell
      have HCELL : Hid (∀ W, Below w0.heap.size w0 W → ∀ f, f < 6 → W.cell? ⟨bl, off + k * 6 + f, none⟩ = (opC o)[f]?) := fun W hW f hf => (below_cell hW hbl).trans (hcell f hf)
      have HO : Hid (o = os[k]) := ho
      subst hao
      clear hcell ho
      go_wp2
      go_loopw [9, 10] (fun inn j wy => ∃ t : Nat, t ≤ ks.length ∧ j = .int .i64 t ∧ inn = .bool ((ks.take t).any (fun x => o.kd == x)) ∧ Hid (I k wy)) (fun _ j _ => ks.length - (intOf j).toNat)
      case atStart => exact ⟨0, Nat.zero_le _, rfl, rfl, HI⟩
      case round =>
        obtain ⟨t, ht, rfl, rfl, HI2⟩ := hrel
        have hB := HBE.out k wr HI2.out
        have s0 : wr.cell? ⟨bl, off + k * 6, none⟩ = some (.int .i64 o.kd) := HCELL.out wr hB 0 (by omega)
        by_cases hts : t < ks.length
        · have kc : wr.cell? ⟨kb, t, none⟩ = some (.int .i64 ks[t]) := (below_cell hB HKS.out.1).trans (HKS.out.2 t hts)
          have HAN : Hid ((ks.take (t + 1)).any (fun x => o.kd == x) = ((ks.take t).any (fun x => o.kd == x) || (o.kd == ks[t]))) := any_snoc ks o.kd t hts
          generalize ks[t] = kt at *
          generalize hin : (ks.take t).any (fun x => o.kd == x) = inn at *
          clear hB hin
          cases inn with
          | true =>
            clear s0 kc
            go_wp2_with fail
            go_quiet (fail)
            go_wp2
            go_roundw
            case rel => exact ⟨t + 1, by omega, by go_num, by rw [HAN.out, Bool.true_or], HKE.out _ _ _ HI2.out ((Kept.refl _ _).drewN _)⟩
            case measure => simp [intOf]; omega
          | false =>
            cases hkt : (o.kd == kt) with
            | true =>
              rw [hkt] at HAN
              go_wp2_with fail
              go_quiet (fail)
              go_wp2
              go_roundw
              case rel => exact ⟨t + 1, by omega, by go_num, by rw [HAN.out]; rfl, HKE.out _ _ _ HI2.out ((Kept.refl _ _).drewN _)⟩
              case measure => simp [intOf]; omega
            | false =>
              rw [hkt] at HAN
              go_wp2_with fail
              go_quiet (fail)
              go_wp2
              go_roundw
              case rel => exact ⟨t + 1, by omega, by go_num, by rw [HAN.out]; rfl, HKE.out _ _ _ HI2.out ((Kept.refl _ _).drewN _)⟩
              case measure => simp [intOf]; omega
        · have htt : t = ks.length := by omega
          subst htt
          rw [List.take_length]
          generalize hin : ks.any (fun x => o.kd == x) = inn
          cases inn with
          | false =>
            clear hB s0
            go_wp2
            go_roundw
            case rel => exact ⟨k + 1, by omega, by go_num, HSK.out _ _ HI2.out⟩
            case measure => simp [intOf]; omega
          | true =>
            have s1 : wr.cell? ⟨bl, off + k * 6 + 1, none⟩ = some (.int .i64 o.a) := HCELL.out wr hB 1 (by omega)
            have s2 : wr.cell? ⟨bl, off + k * 6 + 2, none⟩ = some (.int .i64 o.b) := HCELL.out wr hB 2 (by omega)
            have s3 : wr.cell? ⟨bl, off + k * 6 + 3, none⟩ = some (.int .i64 o.c) := HCELL.out wr hB 3 (by omega)
            have s4 : wr.cell? ⟨bl, off + k * 6 + 4, none⟩ = some (.string o.s) := HCELL.out wr hB 4 (by omega)
            have s5 : wr.cell? ⟨bl, off + k * 6 + 5, none⟩ = some (.slice o.ao o.n o.cap) := HCELL.out wr hB 5 (by omega)
            have HS2 : Hid (Calls Tryz.prog 9 #[.pointer (some ⟨w0.heap.size, 0, none⟩), .agg #[.int .i64 o.kd, .int .i64 o.a, .int .i64 o.b, .int .i64 o.c, .string o.s, .slice o.ao o.n o.cap]] wr fun e w' => e = .returned (.bool true) ∧ Hid (J k w')) := by
              have := HST.out k wr hlt' HI2.out (by rw [← HO.out]; exact hin)
              rw [← HO.out] at this
              exact this
            clear hB hin
            go_wp2_with first
              | (go_at_call 9; refine HS2.out.mono ?_; rintro e w1 ⟨rfl, hj1⟩)
              | (go_at_call 10; refine (HWH.out k w1 hlt' hj1.out).mono ?_; rintro e w2 ⟨rfl, hi2⟩)
            go_roundw
            case rel => exact ⟨k + 1, by omega, by go_num, hi2⟩
            case measure => simp [intOf]; omega
    · have hkk : k = n := by omega
      subst hkk
      go_wp2
      go_ret
      exact ⟨rfl, HI.out⟩

end Go.Proofs.YtpfcacedpkaihaaGreat

/- Opening a script (a list of steps: four numbers, a text, a list of writes) that comes in as an argument. -/
namespace Go.Proofs.YtpfcacedpkaihaaGreat
open Go.ChangeShapes Go.WideShapes Go.ChangeAt Go.RowKit

theorem Tryz.own : ownKnob Tryz.prog.godebug = none := by kernel_rfl
theorem Tryz.laidOut : laidOutB Tryz.prog = true := by kernel_rfl
theorem Tryz.cellsOp : Tryz.prog.cellsOf 37 = 6 := by kernel_rfl
theorem Tryz.cellsInt : Tryz.prog.cellsOf 3 = 1 := by kernel_rfl
theorem Tryz.cellsI32 : Tryz.prog.cellsOf 21 = 1 := by kernel_rfl
theorem Tryz.cellsStr : Tryz.prog.cellsOf 9 = 1 := by kernel_rfl
theorem Tryz.cellsWs : Tryz.prog.cellsOf 35 = 1 := by kernel_rfl
theorem Tryz.cellsWrite : Tryz.prog.cellsOf 152 = 2 := by kernel_rfl
theorem Tryz.bytesOp : Tryz.prog.bytesOf 37 = 72 := by kernel_rfl
theorem Tryz.bytesWrite : Tryz.prog.bytesOf 152 = 16 := by kernel_rfl

theorem list_choose {α : Type} (P : Nat → α → Prop) : ∀ n : Nat, (∀ i, i < n → ∃ x, P i x) → ∃ l : List α, l.length = n ∧ ∀ i (h : i < l.length), P i l[i]
  | 0, _ => ⟨[], rfl, fun i h => absurd h (Nat.not_lt_zero _)⟩
  | n + 1, h => by
    obtain ⟨l, hl, hp⟩ := list_choose P n fun i hi => h i (by omega)
    obtain ⟨x, hx⟩ := h n (by omega)
    refine ⟨l ++ [x], by simp [hl], fun i hi => ?_⟩
    by_cases e : i < l.length
    · rw [List.getElem_append_left e]; exact hp i e
    · have : i = n := by simp at hi; omega
      subst this
      rw [List.getElem_append_right (by omega)]
      simpa [hl] using hx

section
variable {H : Type} {enc : TypeId × Value → H} {w : World} {fuel : Nat} {cs : List Value} {x : DataW H × List MemPlace}

theorem len2 {l : List Value} (h : l.length = 2) : ∃ a b, l = [a, b] := by
  match l, h with
  | [a, b], _ => exact ⟨a, b, rfl⟩
theorem len6 {l : List Value} (h : l.length = 6) : ∃ a b c d e f, l = [a, b, c, d, e, f] := by
  match l, h with
  | [a, b, c, d, e, f], _ => exact ⟨a, b, c, d, e, f, rfl⟩

set_option maxRecDepth 100000 in
theorem open_write (h : DataW.trod enc Tryz.prog w 0 (fun _ => true) true fuel 152 cs = some x) : ∃ p : Int × Int, cs = wrC p ∧ -2147483648 ≤ p.2 ∧ p.2 < 2147483648 := by
  obtain ⟨y0, y1, n, _, hl, h0, h1⟩ := trod_struct2 Tryz.underlying152 h
  rw [Tryz.cellsWrite] at hl
  clear h
  obtain ⟨a, b, rfl⟩ := len2 hl
  obtain ⟨k, e0, _⟩ := DataW.trod_int Tryz.underlying3 h0
  obtain ⟨v, e1, _, bv⟩ := DataW.trod_int Tryz.underlying21 h1
  have bd := bounds_i32 bv
  rw [Tryz.cellsInt] at e0
  rw [Tryz.cellsI32] at e1
  simp at e0 e1
  exact ⟨(k, v), by simp [wrC, e0, e1], by dsimp only; omega, by dsimp only; omega⟩

theorem add_off (bl off j : Nat) : (⟨bl, off, none⟩ : Addr).add j = ⟨bl, off + j, none⟩ := by cases j <;> simp [Addr.add]

/-- the first cell of a row tells that the address is a plain one. -/
theorem addr_none {a : Addr} {m : Nat} {c : List Value} (h : w.cells? 0 (a.add 0) (m + 1) = some c) : ∃ bl off, a = ⟨bl, off, none⟩ ∧ bl < w.heap.size := by
  obtain ⟨_, hl, hc⟩ := World.cells?_some h
  have h0 := hc 0 (by omega)
  rw [List.getElem?_eq_getElem (by omega)] at h0
  obtain ⟨bl, off, spot⟩ := a
  have hs : spot = none := by simpa [Addr.add] using World.cell?_spot h0
  subst hs
  refine ⟨bl, off, rfl, ?_⟩
  rw [add_off, add_off] at h0
  exact World.block_lt_of_cell? w _ h0

/-- a list of writes. -/
theorem open_writes (h : DataW.trod enc Tryz.prog w 0 (fun _ => true) true fuel 35 cs = some x) (hs : (x.1.weights Tryz.prog 35).all (· ≤ reachBytes) = true) :
    ∃ (ao : Option Addr) (n cap : Nat) (ws : List (Int × Int)), cs = [.slice ao n cap] ∧ Wr w ao n ws ∧ n * 16 ≤ 140737488351232 ∧ (ao = none → n = 0 ∧ cap = 0) ∧ (0 < n → ∀ a, ao = some a → a.block < w.heap.size) ∧ BdW ws := by
  rcases DataW.trod_slice Tryz.underlying35 h with ⟨rfl, _⟩ | ⟨a, len, cap, elems, rest, n, _, rfl, rfl, _, hl, hm, hlen, hel, hsp, _⟩
  · exact ⟨none, 0, 0, [], rfl, ⟨rfl, fun j hj => absurd hj (Nat.not_lt_zero _)⟩, by omega, fun _ => ⟨rfl, rfl⟩, fun h0 => absurd h0 (Nat.lt_irrefl _), fun x hx => (by cases hx)⟩
  · have hw : len * 16 ≤ 140737488351232 := by
      have := List.all_eq_true.1 hs ((elems.length + rest.length) * Tryz.prog.bytesOf 152) (by simp [DataW.weights, Tryz.underlying35])
      rw [Tryz.bytesWrite, hlen] at this
      have h2 : (len + rest.length) * 16 ≤ reachBytes := by simpa using this
      unfold reachBytes at h2
      omega
    clear h hs
    by_cases h0 : 0 < len
    · have row : ∀ i, i < len → ∃ ci y, w.cells? 0 (a.add (i * 2)) 2 = some ci ∧ DataW.trod enc Tryz.prog w 0 (fun _ => true) true n 152 ci = some y := by
        intro i hi
        have h1 := hel i hi
        rw [List.getElem?_eq_getElem (by omega), Tryz.cellsWrite] at h1
        obtain ⟨ci, hci, htr⟩ := Option.bind_eq_some_iff.mp h1
        exact ⟨ci, _, hci, htr⟩
      obtain ⟨c0, _, hc0, _⟩ := row 0 h0
      rw [Nat.zero_mul] at hc0
      obtain ⟨bl, off, rfl, hb⟩ := addr_none hc0
      have each : ∀ i, i < len → ∃ p : Int × Int, (∀ f, f < 2 → w.cell? ⟨bl, off + i * 2 + f, none⟩ = (wrC p)[f]?) ∧ -2147483648 ≤ p.2 ∧ p.2 < 2147483648 := by
        intro i hi
        obtain ⟨ci, y, hci, htr⟩ := row i hi
        obtain ⟨p, rfl, bp⟩ := open_write htr
        obtain ⟨_, _, hc⟩ := World.cells?_some hci
        refine ⟨p, fun f hf => ?_, bp⟩
        have := hc f hf
        rwa [add_off, add_off] at this
      obtain ⟨ws, hwl, hws⟩ := list_choose _ len each
      refine ⟨some ⟨bl, off, none⟩, len, cap, ws, rfl, ⟨hwl, fun j hj => ⟨bl, off, rfl, ?_, ?_⟩⟩, hw, (fun e => by cases e), fun _ a' ha => ?_, fun y hy => ?_⟩
      · have c0 := (hws j hj).1 0 (by omega)
        simpa [wrC] using c0
      · have c1 := (hws j hj).1 1 (by omega)
        simpa [wrC] using c1
      · injection ha with ha
        subst ha
        exact hb
      · obtain ⟨j, hj, rfl⟩ := List.getElem_of_mem hy
        exact (hws j hj).2
    · have e0 : len = 0 := by omega
      subst e0
      exact ⟨some a, 0, cap, [], rfl, ⟨rfl, fun j hj => absurd hj (Nat.not_lt_zero _)⟩, hw, (fun e => by cases e), fun h => absurd h (Nat.lt_irrefl _), fun x hx => (by cases hx)⟩

theorem weights_field {ts : List TypeId} {ds : List (DataW H)} {j : Nat} {t : TypeId} {d : DataW H} (h : (DataW.weightsEach Tryz.prog ts ds).all (· ≤ reachBytes) = true) (ht : ts[j]? = some t) (hd : ds[j]? = some d) : (d.weights Tryz.prog t).all (· ≤ reachBytes) = true :=
  List.all_eq_true.2 fun n hn => List.all_eq_true.1 h n (DataW.weights_mem_each ht hd n hn)
theorem weights_all {e : TypeId} : ∀ {ds : List (DataW H)} {j : Nat} {d : DataW H}, ds[j]? = some d → ∀ n ∈ d.weights Tryz.prog e, n ∈ DataW.weightsAll Tryz.prog e ds
  | d0 :: ds, 0, d, hd, n, hn => by simp at hd; subst hd; simp only [DataW.weightsAll, List.mem_append]; exact .inl hn
  | d0 :: ds, j + 1, d, hd, n, hn => by simp at hd; simp only [DataW.weightsAll, List.mem_append]; exact .inr (weights_all hd n hn)
  | [], _, _, hd, _, _ => by simp at hd

set_option maxRecDepth 100000 in
/-- a step. -/
theorem open_op (h : DataW.trod enc Tryz.prog w 0 (fun _ => true) true fuel 37 cs = some x) (hs : (x.1.weights Tryz.prog 37).all (· ≤ reachBytes) = true) : ∃ o : OpE, cs = opC o ∧ OpOk w.heap.size w o := by
  obtain ⟨xs, n, _, rfl, hl, hlen, hf⟩ := DataW.trod_struct Tryz.underlying37 h
  rw [Tryz.cellsOp] at hl
  clear h
  obtain ⟨c0, c1, c2, c3, c4, c5, rfl⟩ := len6 hl
  have hlen6 : xs.length = 6 := hlen
  have g0 := hf 0 _ rfl
  have g1 := hf 1 _ rfl
  have g2 := hf 2 _ rfl
  have g3 := hf 3 _ rfl
  have g4 := hf 4 _ rfl
  have g5 := hf 5 _ rfl
  rw [List.getElem?_eq_getElem (by omega)] at g0 g1 g2 g3 g4 g5
  obtain ⟨k0, e0, _, b0⟩ := DataW.trod_int Tryz.underlying3 g0
  obtain ⟨k1, e1, _, b1⟩ := DataW.trod_int Tryz.underlying3 g1
  obtain ⟨k2, e2, _, b2⟩ := DataW.trod_int Tryz.underlying3 g2
  obtain ⟨k3, e3, _, b3⟩ := DataW.trod_int Tryz.underlying3 g3
  obtain ⟨s, e4, _, hsz⟩ := DataW.trod_string Tryz.underlying9 g4
  have hs5 : ((xs[5]).1.weights Tryz.prog 35).all (· ≤ reachBytes) = true := by
    simp only [DataW.weights, Tryz.underlying37] at hs
    exact weights_field (j := 5) hs rfl (by rw [List.getElem?_map, List.getElem?_eq_getElem (by omega)]; rfl)
  obtain ⟨ao, m, cap, ws, e5, hwr, hre, hno, hlow, hvals⟩ := open_writes g5 hs5
  have e0 : List.take (Tryz.prog.cellsOf 3) (List.drop 0 [c0, c1, c2, c3, c4, c5]) = [Value.int .i64 k0] := e0
  have e1 : List.take (Tryz.prog.cellsOf 3) (List.drop 1 [c0, c1, c2, c3, c4, c5]) = [Value.int .i64 k1] := e1
  have e2 : List.take (Tryz.prog.cellsOf 3) (List.drop 2 [c0, c1, c2, c3, c4, c5]) = [Value.int .i64 k2] := e2
  have e3 : List.take (Tryz.prog.cellsOf 3) (List.drop 3 [c0, c1, c2, c3, c4, c5]) = [Value.int .i64 k3] := e3
  have e4 : List.take (Tryz.prog.cellsOf 9) (List.drop 4 [c0, c1, c2, c3, c4, c5]) = [Value.string s] := e4
  have e5 : List.take (Tryz.prog.cellsOf 35) (List.drop 5 [c0, c1, c2, c3, c4, c5]) = [Value.slice ao m cap] := e5
  rw [Tryz.cellsInt] at e0 e1 e2 e3
  rw [Tryz.cellsStr] at e4
  rw [Tryz.cellsWs] at e5
  simp at e0 e1 e2 e3 e4 e5
  have bd := bounds_i64 b1
  exact ⟨⟨k0, k1, k2, k3, s, ao, m, cap, ws⟩, by simp [opC, e0, e1, e2, e3, e4, e5], ⟨hwr, hre, hno, hlow, hvals, hsz, by dsimp only; omega, by dsimp only; omega⟩⟩

/-- a script. -/
theorem open_script (h : DataW.trod enc Tryz.prog w 0 (fun _ => true) true fuel 22 cs = some x) (hs : (x.1.weights Tryz.prog 22).all (· ≤ reachBytes) = true) :
    ∃ (ao : Option Addr) (n cap : Nat) (os : List OpE), cs = [.slice ao n cap] ∧ Sc w ao n os ∧ n * 72 ≤ 140737488351232 ∧ ∀ o ∈ os, OpOk w.heap.size w o := by
  rcases DataW.trod_slice Tryz.underlying22 h with ⟨rfl, _⟩ | ⟨a, len, cap, elems, rest, n, _, rfl, rfl, _, hl, hm, hlen, hel, hsp, _⟩
  · exact ⟨none, 0, 0, [], rfl, ⟨rfl, fun j hj => absurd hj (Nat.not_lt_zero _)⟩, by omega, fun o ho => by cases ho⟩
  · have hs' : ∀ q, q ∈ ((elems.map (·.1)).length + (rest.map (·.1)).length) * Tryz.prog.bytesOf 37 :: (DataW.weightsAll Tryz.prog 37 (elems.map (·.1)) ++ DataW.weightsAll Tryz.prog 37 (rest.map (·.1))) → q ≤ reachBytes := by
      intro q hq
      have := List.all_eq_true.1 hs q (by simpa only [DataW.weights, Tryz.underlying22] using hq)
      simpa using this
    have hw : len * 72 ≤ 140737488351232 := by
      have h2 := hs' _ (List.mem_cons_self ..)
      rw [Tryz.bytesOp, List.length_map, hlen] at h2
      unfold reachBytes at h2
      omega
    clear h hs
    by_cases h0 : 0 < len
    · have row : ∀ i, i < len → ∃ ci y, w.cells? 0 (a.add (i * 6)) 6 = some ci ∧ DataW.trod enc Tryz.prog w 0 (fun _ => true) true n 37 ci = some y ∧ elems[i]? = some y := by
        intro i hi
        have h1 := hel i hi
        rw [List.getElem?_eq_getElem (by omega), Tryz.cellsOp] at h1
        obtain ⟨ci, hci, htr⟩ := Option.bind_eq_some_iff.mp h1
        exact ⟨ci, _, hci, htr, List.getElem?_eq_getElem (by omega)⟩
      obtain ⟨c0, _, hc0, _⟩ := row 0 h0
      rw [Nat.zero_mul] at hc0
      obtain ⟨bl, off, rfl, hb⟩ := addr_none hc0
      have each : ∀ i, i < len → ∃ o : OpE, (∀ f, f < 6 → w.cell? ⟨bl, off + i * 6 + f, none⟩ = (opC o)[f]?) ∧ OpOk w.heap.size w o := by
        intro i hi
        obtain ⟨ci, y, hci, htr, hy⟩ := row i hi
        have hsy : (y.1.weights Tryz.prog 37).all (· ≤ reachBytes) = true := List.all_eq_true.2 fun q hq => by
          have := hs' q (List.mem_cons_of_mem _ (List.mem_append_left _ (weights_all (j := i) (by rw [List.getElem?_map, hy]; rfl) q hq)))
          simpa using this
        obtain ⟨o, rfl, hok⟩ := open_op htr hsy
        obtain ⟨_, _, hc⟩ := World.cells?_some hci
        refine ⟨o, fun f hf => ?_, hok⟩
        have := hc f hf
        rwa [add_off, add_off] at this
      obtain ⟨os, hol, hos⟩ := list_choose _ len each
      refine ⟨some ⟨bl, off, none⟩, len, cap, os, rfl, ⟨hol, fun j hj => ⟨bl, off, rfl, hb, (hos j hj).1⟩⟩, hw, fun o ho => ?_⟩
      obtain ⟨j, hj, rfl⟩ := List.getElem_of_mem ho
      exact (hos j hj).2
    · have e0 : len = 0 := by omega
      subst e0
      exact ⟨some a, 0, cap, [], rfl, ⟨rfl, fun j hj => absurd hj (Nat.not_lt_zero _)⟩, hw, fun o ho => by cases ho⟩

end

end Go.Proofs.YtpfcacedpkaihaaGreat

/- The law's own whole and numbers (package almanaclaw) over a book without lists, walked. -/
namespace Go.Proofs.YtpfcacedpkaihaaGreat
open Go.RowKit

set_option maxHeartbeats 1000000 in
theorem numbers_empty (w : World) (pb o : Nat) (hc : w.cell? ⟨pb, o + 2, none⟩ = some (.slice none 0 0)) :
    Calls Tryz.prog 22 #[.pointer (some ⟨pb, o, none⟩)] w fun e w' => e = .returned (.bool true) ∧ w = w' := by
  go_enter Tryz.func22, Tryz.ntmps22
  go_wp2
  refine wp_loop_rounds 1 ?_
  rw [rounds_succ]
  go_wp2
  go_loop [5, 6, 7] (fun d _ _ => ∃ k : Int, -1 ≤ k ∧ k ≤ 3 ∧ d = .int .i64 k) (fun d _ _ => (intOf d + 1).toNat)
  case atStart => exact ⟨3, by omega, by omega, rfl⟩
  case round =>
    obtain ⟨k, hk0, hk1, rfl⟩ := hrel
    by_cases hlt : 0 ≤ k
    · go_wp2
      refine wp_loop_rounds 1 ?_
      rw [rounds_succ]
      go_wp2
      refine wp_loop_rounds 1 ?_
      rw [rounds_succ]
      go_wp2
      go_round
      case rel => exact ⟨k - 1, by omega, by omega, rfl⟩
      case measure => simp [intOf]; omega
    · go_wp2
      go_ret
      exact ⟨rfl, rfl⟩

set_option maxHeartbeats 1000000 in
theorem whole_empty (w : World) (pb o : Nat) (h0 : w.cell? ⟨pb, o, none⟩ = some (.slice none 0 0)) (h1 : w.cell? ⟨pb, o + 1, none⟩ = some (.slice none 0 0)) (h2 : w.cell? ⟨pb, o + 2, none⟩ = some (.slice none 0 0)) :
    Calls Tryz.prog 10 #[.pointer (some ⟨pb, o, none⟩)] w fun e w' => e = .returned (.bool true) ∧ w = w' := by
  have HN : Hid (Calls Tryz.prog 22 #[.pointer (some ⟨pb, o, none⟩)] w fun e w' => e = .returned (.bool true) ∧ w = w') := numbers_empty w pb o h2
  go_enter Tryz.func10, Tryz.ntmps10
  go_wp2
  refine wp_loop_rounds 1 ?_
  rw [rounds_succ]
  go_wp2
  refine wp_loop_rounds 1 ?_
  rw [rounds_succ]
  go_wp2_with (go_at_call 22; refine HN.out.mono ?_; rintro e w' ⟨rfl, rfl⟩)
  go_ret
  exact ⟨rfl, rfl⟩

end Go.Proofs.YtpfcacedpkaihaaGreat

/- The law Begins (package almanaclaw), walked at every script. -/
namespace Go.Proofs.YtpfcacedpkaihaaGreat
open Go.RowKit

theorem Sc.alloc {w : World} {ao : Option Addr} {n : Nat} {os : List OpE} (h : Sc w ao n os) (o : Obj) : Sc (w.alloc o) ao n os := by
  refine ⟨h.len, fun j hj => ?_⟩
  obtain ⟨bl, off, e, hb, hc⟩ := h.cell j hj
  exact ⟨bl, off, e, by simp; omega, fun f hf => (World.cell?_alloc_past o bl _ hb).trans (hc f hf)⟩
theorem OpOk.alloc {w : World} {o : OpE} (h : OpOk w.heap.size w o) (x : Obj) : OpOk (w.alloc x).heap.size (w.alloc x) o :=
  ⟨h.wr.kept (Kept.alloc w x (fun _ => False)) (fun _ _ => id), h.reach, h.nil, fun h0 a ha => by have := h.low h0 a ha; simp; omega, h.vals, h.str, h.a0, h.a1⟩

theorem inv_start (w0 : World) (most : Int) (X : Nat → Prop) (hX : ∀ k, ¬ X k) : Inv w0.heap.size X w0 (w0.alloc (.cells (playC nilV nilV nilV nilV 0 most) 34)) w0.heap.size [] nilV nilV nilV nilV 0 most :=
  ⟨(Below.refl _ _).alloc (Nat.le_refl _) _, Blk.new _ _ _, Row.nil _ _ _, fun p hp => (by cases hp), fun i j a c ha => (by simp at ha), fun p hp => (by cases hp), ⟨Nat.le_refl _, hX _⟩, fun k hk => (by simp [nilV, Value.ownBlock] at hk), fun k hk => absurd hk (hX k), Nat.le_refl _⟩

/-- what holds between two steps of Begins. -/
def BInv (w0 : World) (most : Int) (k : Nat) (W : World) : Prop :=
  ∃ ps vps commits, Inv w0.heap.size (fun _ => False) w0 W w0.heap.size ps vps nilV nilV nilV commits most ∧ ps.length ≤ k ∧ 0 ≤ commits ∧ commits ≤ (k : Int) ∧ ∀ p ∈ ps, p.R.uses.length ≤ k

theorem below_alloc {w w' : World} {o : Obj} (h : Below (w.alloc o).heap.size (w.alloc o) w') : Below w.heap.size w w' :=
  ⟨h.os, h.tape, h.output, by have := h.size; simp at this; omega, fun k hk => (h.block k (by simp; omega)).trans (Below.heap_alloc _ _ _ hk)⟩

theorem begins_plays (w0 : World) (ao : Option Addr) (n cap kb kcap : Nat) (os : List OpE) (hsc : Sc w0 ao n os) (hks : Ks w0 kb [1, 2, 3, 4, 5, 6]) (hn : n * 72 ≤ 140737488351232) (hok : ∀ o ∈ os, OpOk w0.heap.size w0 o) :
    Calls Tryz.prog 8 #[.slice ao n cap, .slice (some ⟨kb, 0, none⟩) 6 kcap, .int .i64 (n : Int)] w0 fun e w' => PlaysPost n (BInv w0 (n : Int)) e w' := by
  have hl := hsc.len
  refine lplays w0 ao n cap kb kcap os [1, 2, 3, 4, 5, 6] (n : Int) (BInv w0 (n : Int)) (fun k W => BInv w0 (n : Int) (k + 1) W) hsc hks (by omega) (by simp) ?_ ?_ ?_ ?_ ?_ ?_
  · rintro k W ⟨ps, vps, commits, hi, _⟩
    exact hi.below
  · exact ⟨[], nilV, 0, inv_start w0 _ _ (fun _ => id), by simp, by omega, by simp, fun p hp => (by cases hp)⟩
  · rintro k W W' ⟨ps, vps, commits, hi, r⟩ hk
    exact ⟨ps, vps, commits, hi.kept hk, r⟩
  · rintro k W ⟨ps, vps, commits, hi, r1, r2, r3, r4⟩
    exact ⟨ps, vps, commits, hi, by omega, r2, by omega, fun p hp => Nat.le_succ_of_le (r4 p hp)⟩
  · rintro k W hk ⟨ps, vps, commits, hi, r1, r2, r3, r4⟩ hany
    have hkd : os[k].kd = 1 ∨ os[k].kd = 2 ∨ os[k].kd = 3 ∨ os[k].kd = 4 ∨ os[k].kd = 5 ∨ os[k].kd = 6 := by simpa using hany
    refine (lstep_begins hi os[k] (hok _ (List.getElem_mem hk)) hkd (by omega) r2 (by omega) (fun p hp => by have := r4 p hp; omega)).mono fun e w' hp => ?_
    obtain ⟨e1, _, ps', vps', commits', hi', l1, l2, l3⟩ := hp
    exact ⟨e1, ps', vps', commits', hi', by omega, by omega, by omega, l3 k r4⟩
  · rintro k W hk ⟨ps, vps, commits, hi, r1, r2, r3, r4⟩
    refine (whole_empty W w0.heap.size 1 (hi.blk.cell 1) (hi.blk.cell 2) (hi.blk.cell 3)).mono fun e w' hp => ?_
    obtain ⟨e1, rfl⟩ := hp
    exact ⟨e1, ps, vps, commits, hi, r1, r2, r3, r4⟩

def LawPost (w : World) (e : Ending) (w' : World) : Prop := e = .returned (.bool true) ∧ Below w.heap.size w w'

set_option maxRecDepth 100000 in
set_option maxHeartbeats 1000000 in
theorem begins_any (w : World) (ao : Option Addr) (n cap : Nat) (os : List OpE) (hsc : Sc w ao n os) (hn : n * 72 ≤ 140737488351232) (hok : ∀ o ∈ os, OpOk w.heap.size w o) :
    Calls Tryz.prog 3 #[.slice ao n cap] w fun e w' => LawPost w e w' := by
  have HPL : Hid (Calls Tryz.prog 8 #[.slice ao n cap, .slice (some ⟨w.heap.size, 0, none⟩) 6 6, .int .i64 (n : Int)] (w.alloc (.cells #[.int .i64 1, .int .i64 2, .int .i64 3, .int .i64 4, .int .i64 5, .int .i64 6] 3)) fun e w' => e = .returned (.bool true) ∧ Hid (Below w.heap.size w w')) := by
    refine (begins_plays _ ao n cap w.heap.size 6 os (hsc.alloc _) ⟨by simp, fun j hj => ?_⟩ hn (fun o ho => (hok o ho).alloc _)).mono fun e w' hp => ?_
    · have hj6 : j < 6 := hj
      rcases six hj6 with rfl | rfl | rfl | rfl | rfl | rfl <;> simp
    · obtain ⟨e1, ps, vps, commits, hi, _⟩ := hp
      exact ⟨e1, below_alloc hi.below⟩
  clear hsc hok
  go_enter Tryz.func3, Tryz.ntmps3
  go_wp2_with (go_at_call 8; refine HPL.out.mono ?_; rintro e w1 ⟨rfl, hb⟩)
  go_ret
  exact ⟨rfl, hb.out⟩

end Go.Proofs.YtpfcacedpkaihaaGreat
