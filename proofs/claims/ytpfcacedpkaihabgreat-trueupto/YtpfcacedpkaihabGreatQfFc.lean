import Derived.Test.YtpfcacedpkaihabGreatQe
import Derived.Test.YtpfcacedpkaihabGreatVaVcMaMbMc
import Derived.Test.YtpfcacedpkaihabGreatKa
/- What almanac.Eval answers at every text in every state. -/
namespace Go.Proofs.YtpfcacedpkaihabGreat
open Go.RowKit

theorem qEval_any (s : ByteArray) (x : Nat → Int) (w : World) (hs : s.size ≤ maxLen) :
    Calls Tryz.prog 45 #[.string s, .agg #[.int .i32 (x 0), .int .i32 (x 1), .int .i32 (x 2), .int .i32 (x 3), .int .i32 (x 4), .int .i32 (x 5), .int .i32 (x 6), .int .i32 (x 7)]] w fun e w' =>
      e = .returned (.tuple #[.int .i32 (evalL x (Q.readL s.data.toList).2), .int .i64 (Q.readL s.data.toList).1]) ∧ Below w.heap.size w w' := by
  rcases Q.readL_cases s.data.toList with h | h | ⟨us, h, r⟩
  · rw [h]; exact qEval_bad s x w 3 hs h
  · rw [h]; exact qEval_bad s x w 4 hs h
  · rw [h]; exact qEval_good s x w us h

set_option maxHeartbeats 400000 in
theorem aEval_any (s : ByteArray) (x : Nat → Int) (w : World) (hs : s.size ≤ maxLen) :
    Calls Tryz.prog 27 #[.string s, .agg #[.int .i32 (x 0), .int .i32 (x 1), .int .i32 (x 2), .int .i32 (x 3), .int .i32 (x 4), .int .i32 (x 5), .int .i32 (x 6), .int .i32 (x 7)]] w fun e w' =>
      e = .returned (.tuple #[.int .i32 (evalL x (Q.readL s.data.toList).2), .int .i64 (Q.readL s.data.toList).1]) ∧ Below w.heap.size w w' := by
  go_enter Tryz.func27, Tryz.ntmps27
  go_wp2_with (go_at_call 45; refine (qEval_any s x _ hs).mono ?_; rintro e w1 ⟨rfl, hb⟩)
  go_ret2
  exact ⟨rfl, (((Below.refl _ _).alloc (Nat.le_refl _) _).trans (hb.mono (by simp)))⟩

end Go.Proofs.YtpfcacedpkaihabGreat

/- The law True (package almanackeep): last, right, walked. -/
namespace Go.Proofs.YtpfcacedpkaihabGreat
open Go.RowKit

theorem st_at1 {K : KS} {l : List PastE} (h : K.states = (fun _ => 0) :: l.map PastE.st) (t : Nat) (ht : t ≤ l.length) : ∃ hlt : t < K.states.length, K.states[t] = stAt l t := by
  have hlt : t < K.states.length := by rw [h]; simp; omega
  refine ⟨hlt, ?_⟩
  have e : K.states[t]? = some (stAt l t) := by
    rw [h]
    cases t with
    | zero => rfl
    | succ t =>
      have hl : t < l.length := by omega
      rw [List.getElem?_cons_succ, List.getElem?_map, List.getElem?_eq_getElem hl, stAt_succ (List.getElem?_eq_getElem hl)]
      rfl
  rw [List.getElem?_eq_getElem hlt] at e
  injection e
theorem wrap_small {n : Nat} (h : n ≤ 1000000) : IntKind.i64.wrap (n : Int) = n := by simp [IntKind.wrap, IntKind.bits, IntKind.signed]; omega

set_option maxHeartbeats 1000000 in
theorem klast (w : World) (e : EntE) (hz : Nat) (h1 : e.kn ≤ 700) (h2 : e.till ≤ 701) (h3 : hz ≤ 700) (h4 : e.op = false → 1 ≤ e.till) :
    Calls Tryz.prog 26 #[.agg #[.string e.q, .int .i32 e.val, .int .u64 (e.fr : Int), .int .u64 (e.till : Int), .bool e.op, .int .u64 (e.kn : Int)], .int .u64 (hz : Int)] w fun e' w' => e' = .returned (.int .i64 (lastE e hz : Int)) ∧ Kept (fun _ => False) w w' := by
  have w1 := wrap_small (n := e.kn) (by omega)
  have w2 := wrap_small (n := e.till) (by omega)
  have w3 := wrap_small (n := hz) (by omega)
  cases ho : e.op with
  | false =>
    have HL : Hid ((lastE e hz : Int) = (e.till : Int) - 1) := by have := h4 ho; show _ = _; rw [lastE_cl ho]; omega
    have h5 := h4 ho
    rw [HL.out]
    clear h4 ho
    go_enter Tryz.func26, Tryz.ntmps26
    go_wp2
    go_ret
    exact ⟨rfl, Kept.alloc _ _ _⟩
  | true =>
    by_cases hk : hz < e.kn
    · have HL : Hid ((lastE e hz : Int) = (e.kn : Int)) := by show _ = _; rw [lastE_op ho]; omega
      have hd : ((hz : Nat) : Int) < (e.kn : Int) := by omega
      rw [HL.out]
      clear h4 ho
      go_enter Tryz.func26, Tryz.ntmps26
      go_wp2
      go_ret
      exact ⟨rfl, Kept.alloc _ _ _⟩
    · have HL : Hid ((lastE e hz : Int) = (hz : Int)) := by show _ = _; rw [lastE_op ho]; omega
      have hd : ¬ ((hz : Nat) : Int) < (e.kn : Int) := by omega
      have hd2 : e.kn ≤ hz := by omega
      rw [HL.out]
      clear h4 ho
      go_enter Tryz.func26, Tryz.ntmps26
      go_wp2
      go_ret
      exact ⟨rfl, Kept.alloc _ _ _⟩

set_option maxRecDepth 100000 in
set_option maxHeartbeats 2000000 in
theorem kright (w : World) (pb hz : Nat) (K : KS) (l : List PastE) (e : EntE) (h : Keep w pb K) (hst : K.states = (fun _ => 0) :: l.map PastE.st) (hE : EntS l e hz) (hto : lastE e hz ≤ l.length) (hm : l.length ≤ 700) (h1 : e.kn ≤ 700) (h2 : e.till ≤ 701) (h3 : hz ≤ 700) :
    Calls Tryz.prog 10 #[.pointer (some ⟨pb, 0, none⟩), .agg #[.string e.q, .int .i32 e.val, .int .u64 (e.fr : Int), .int .u64 (e.till : Int), .bool e.op, .int .u64 (e.kn : Int)], .int .u64 (hz : Int)] w fun e' w' => e' = .returned (.bool true) ∧ Kept (fun _ => False) w w' := by
  have hsl : K.states.length = l.length + 1 := by rw [hst]; simp
  obtain ⟨g, cs, hvs, hog, _⟩ := h.states.block (by omega)
  rw [hsl] at hvs
  have HC : Hid (∀ W, Kept (fun _ => False) w W → W.cell? ⟨pb, 3, none⟩ = some (.slice (some ⟨g, 0, none⟩) (l.length + 1) cs) ∧ ∀ t, t ≤ l.length → ∀ f u, (stL (stAt l t))[f]? = some u → W.cell? ⟨g, t * 8 + f, none⟩ = some u) := fun W hW => by
    have hK := h.kept hW (fun _ _ => id)
    refine ⟨by rw [← hvs]; exact hK.c3, fun t ht f u hu => hK.states.cell hog _ u ?_⟩
    obtain ⟨hlt, e1⟩ := st_at1 hst t ht
    have hf : f < 8 := (List.getElem?_eq_some_iff.mp hu).1
    rw [state_at K.states t hlt f hf, e1]
    exact hu
  have HNW : Hid (∀ W, Kept (fun _ => False) w W → Calls Tryz.prog 22 #[.pointer (some ⟨pb, 0, none⟩)] W fun e w' => e = .returned (.int .i64 (l.length : Int)) ∧ W = w') := fun W hW => knewest_c W pb _ l.length cs (HC.out W hW).1 (by omega)
  obtain ⟨tt, hto'⟩ : ∃ x, x = lastE e hz := ⟨_, rfl⟩
  have HLA : Hid (∀ W, Calls Tryz.prog 26 #[.agg #[.string e.q, .int .i32 e.val, .int .u64 (e.fr : Int), .int .u64 (e.till : Int), .bool e.op, .int .u64 (e.kn : Int)], .int .u64 (hz : Int)] W fun e' w' => e' = .returned (.int .i64 (tt : Int)) ∧ Kept (fun _ => False) W w') := fun W => by rw [hto']; exact klast W e hz h1 h2 h3 (fun ho => by have := hE.cl ho; omega)
  have HEV : Hid (∀ t, e.fr ≤ t → t ≤ tt → ∀ W, Calls Tryz.prog 27 #[.string e.q, .agg #[.int .i32 (stAt l t 0), .int .i32 (stAt l t 1), .int .i32 (stAt l t 2), .int .i32 (stAt l t 3), .int .i32 (stAt l t 4), .int .i32 (stAt l t 5), .int .i32 (stAt l t 6), .int .i32 (stAt l t 7)]] W fun e' w' => e' = .returned (.tuple #[.int .i32 e.val, .int .i64 0]) ∧ Kept (fun _ => False) W w') := fun t g1 g2 W => by
    obtain ⟨ts, hr, hv⟩ := hE.right
    have hl40 := readL_len hr
    have hql : e.q.data.toList.length = e.q.size := by rw [Array.length_toList]; rfl
    refine (aEval_any e.q (stAt l t) W (by unfold maxLen; omega)).mono fun e' w' hp => ⟨?_, Kept.of_below hp.2 _⟩
    rw [hp.1, hr]
    rw [← hv t g1 (by rw [← hto']; exact g2)]
  have hle : e.fr ≤ tt := by rw [hto']; exact hE.le
  rw [← hto'] at hto
  have hwf := wrap_small (n := e.fr) (by omega)
  obtain ⟨q, hq⟩ : ∃ x, x = e.q := ⟨_, rfl⟩
  obtain ⟨val, hval⟩ : ∃ x, x = e.val := ⟨_, rfl⟩
  obtain ⟨fr, hfr⟩ : ∃ x, x = e.fr := ⟨_, rfl⟩
  obtain ⟨till, htill⟩ : ∃ x, x = e.till := ⟨_, rfl⟩
  obtain ⟨op, hop⟩ : ∃ x, x = e.op := ⟨_, rfl⟩
  obtain ⟨kn, hkn⟩ : ∃ x, x = e.kn := ⟨_, rfl⟩
  rw [← hq, ← hval, ← hfr, ← htill, ← hop, ← hkn] at HLA ⊢
  rw [← hq, ← hval, ← hfr] at HEV
  rw [← hfr] at hle hwf
  have hd1 : decide ((l.length : Int) < (tt : Int)) = false := decide_eq_false (by omega)
  have hd2 : decide ((tt : Int) < (fr : Int)) = false := decide_eq_false (by omega)
  have hd3 : decide (l.length < tt) = false := decide_eq_false (by omega)
  have hd4 : decide (tt < fr) = false := decide_eq_false (by omega)
  clear h hst hE hvs hog hsl hto' hq hval hfr htill hop hkn h1 h2
  go_enter Tryz.func10, Tryz.ntmps10
  go_wp2_with first
    | (go_at_call 26; refine (HLA.out _).mono ?_; rintro e w1 ⟨rfl, hk1⟩; have HK1 : Hid (Kept (fun _ => False) w w1 ∧ Blk w1 w.heap.size 53 #[.string q, .int .i32 val, .int .u64 (fr : Int), .int .u64 (till : Int), .bool op, .int .u64 (kn : Int)]) := ⟨(Kept.alloc _ _ _).trans hk1 (fun _ => id) (fun _ _ => id), (Blk.new w _ _).kept hk1 id⟩; have b2 : w1.cell? ⟨w.heap.size, 2, none⟩ = some (.int .u64 (fr : Int)) := HK1.out.2.cell 2; clear hk1)
    | (go_at_call 22; refine (HNW.out _ HK1.out.1).mono ?_; rintro e w2 ⟨rfl, rfl⟩)
  go_loopw [8] (fun tv wx => ∃ t : Nat, fr ≤ t ∧ t ≤ tt + 1 ∧ tv = .int .i64 t ∧ Hid (Kept (fun _ => False) w1 wx)) (fun tv _ => tt + 1 - (intOf tv).toNat)
  case atStart => exact ⟨fr, Nat.le_refl _, by omega, rfl, Kept.refl _ _⟩
  case round =>
    obtain ⟨t, ht1, ht2, rfl, HKR⟩ := hrel
    by_cases hlt : t ≤ tt
    · have ht3 : (t : Int) ≤ (tt : Int) := by omega
      have ht4 : t ≤ l.length := by omega
      have hkw : Kept (fun _ => False) w wr := HK1.out.1.trans HKR.out (fun _ => id) (fun _ _ => id)
      have bE := HK1.out.2.kept HKR.out id
      have e0 : wr.cell? ⟨w.heap.size, 0, none⟩ = some (.string q) := bE.cell 0
      have e1 : wr.cell? ⟨w.heap.size, 1, none⟩ = some (.int .i32 val) := bE.cell 1
      obtain ⟨c3, cst⟩ := HC.out wr hkw
      obtain ⟨s, hs⟩ : ∃ s, s = stAt l t := ⟨_, rfl⟩
      have HEI : Hid (∀ W, Calls Tryz.prog 27 #[.string q, .agg #[.int .i32 (s 0), .int .i32 (s 1), .int .i32 (s 2), .int .i32 (s 3), .int .i32 (s 4), .int .i32 (s 5), .int .i32 (s 6), .int .i32 (s 7)]] W fun e w' => e = .returned (.tuple #[.int .i32 val, .int .i64 0]) ∧ Kept (fun _ => False) W w') := fun W => by rw [hs]; exact HEV.out t ht1 hlt W
      have cst' := cst t ht4
      rw [← hs] at cst'
      have s0 : wr.cell? ⟨g, t * 8, none⟩ = some (.int .i32 (s 0)) := cst' 0 _ rfl
      have s1 : wr.cell? ⟨g, t * 8 + 1, none⟩ = some (.int .i32 (s 1)) := cst' 1 _ rfl
      have s2 : wr.cell? ⟨g, t * 8 + 2, none⟩ = some (.int .i32 (s 2)) := cst' 2 _ rfl
      have s3 : wr.cell? ⟨g, t * 8 + 3, none⟩ = some (.int .i32 (s 3)) := cst' 3 _ rfl
      have s4 : wr.cell? ⟨g, t * 8 + 4, none⟩ = some (.int .i32 (s 4)) := cst' 4 _ rfl
      have s5 : wr.cell? ⟨g, t * 8 + 5, none⟩ = some (.int .i32 (s 5)) := cst' 5 _ rfl
      have s6 : wr.cell? ⟨g, t * 8 + 6, none⟩ = some (.int .i32 (s 6)) := cst' 6 _ rfl
      have s7 : wr.cell? ⟨g, t * 8 + 7, none⟩ = some (.int .i32 (s 7)) := cst' 7 _ rfl
      have ht0 : (0 : Int) ≤ (t : Int) := by omega
      have ht5 : (t : Int) < (l.length : Int) + 1 := by omega
      clear hs cst cst' hkw bE
      have xe0 := drew_cell0 e0
      have xc3 := drew_cell0 c3
      have xs0 := drew_cell0 s0
      have xs1 := drew_cell0 s1
      have xs2 := drew_cell0 s2
      have xs3 := drew_cell0 s3
      have xs4 := drew_cell0 s4
      have xs5 := drew_cell0 s5
      have xs6 := drew_cell0 s6
      have xs7 := drew_cell0 s7
      go_wp2
      go_region_held3 (fun w' => w'.cell? ⟨w.heap.size, 0, none⟩ = some (.string q) ∧ w'.cell? ⟨pb, 3, none⟩ = some (.slice (some ⟨g, 0, none⟩) (l.length + 1) cs) ∧ w'.cell? ⟨g, t * 8, none⟩ = some (.int .i32 (s 0)) ∧ w'.cell? ⟨g, t * 8 + 1, none⟩ = some (.int .i32 (s 1)) ∧ w'.cell? ⟨g, t * 8 + 2, none⟩ = some (.int .i32 (s 2)) ∧ w'.cell? ⟨g, t * 8 + 3, none⟩ = some (.int .i32 (s 3)) ∧ w'.cell? ⟨g, t * 8 + 4, none⟩ = some (.int .i32 (s 4)) ∧ w'.cell? ⟨g, t * 8 + 5, none⟩ = some (.int .i32 (s 5)) ∧ w'.cell? ⟨g, t * 8 + 6, none⟩ = some (.int .i32 (s 6)) ∧ w'.cell? ⟨g, t * 8 + 7, none⟩ = some (.int .i32 (s 7))) (first | with_reducible exact ⟨ye0, yc3, ys0, ys1, ys2, ys3, ys4, ys5, ys6, ys7⟩ | with_reducible exact ⟨xe0, xc3, xs0, xs1, xs2, xs3, xs4, xs5, xs6, xs7⟩ | fail) ((go_at_call 27; refine (HEI.out _).mono ?_; rintro e w3 ⟨rfl, hk3⟩; have ye0 := hk3.hold xe0; have yc3 := hk3.hold xc3; have ys0 := hk3.hold xs0; have ys1 := hk3.hold xs1; have ys2 := hk3.hold xs2; have ys3 := hk3.hold xs3; have ys4 := hk3.hold xs4; have ys5 := hk3.hold xs5; have ys6 := hk3.hold xs6; have ys7 := hk3.hold xs7; have ye1 := hk3.hold (drew_cell0 e1); have HK3 : Hid (Kept (fun _ => False) w1 w3) := HKR.out.drew.trans hk3 (fun _ => id) (fun _ _ => id); clear hk3))
      all_goals
        clear xe0 xc3 xs0 xs1 xs2 xs3 xs4 xs5 xs6 xs7 ye0 yc3 ys0 ys1 ys2 ys3 ys4 ys5 ys6 ys7
        go_wp2
        go_roundw
        case rel => exact ⟨t + 1, by omega, by omega, by go_num, HK3.out⟩
        case measure => simp [intOf]; omega
    · have hte : t = tt + 1 := by omega
      have ht3 : ¬ (t : Int) ≤ (tt : Int) := by omega
      go_wp2
      go_ret
      exact ⟨rfl, HK1.out.1.trans HKR.out (fun _ => id) (fun _ _ => id)⟩

end Go.Proofs.YtpfcacedpkaihabGreat
