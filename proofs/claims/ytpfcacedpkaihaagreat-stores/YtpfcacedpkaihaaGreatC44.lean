import Derived.Test.YtpfcacedpkaihaaGreatC25
import Derived.Test.YtpfcacedpkaihaaGreatC41
import Derived.Test.YtpfcacedpkaihaaGreatC34
import Derived.Test.YtpfcacedpkaihaaGreatC43
import Derived.Test.YtpfcacedpkaihaaGreatC42
namespace Go.Proofs.YtpfcacedpkaihaaGreat
open Go.RowKit
set_option maxRecDepth 100000
set_option maxHeartbeats 16000000
theorem rremembers (w : World) (up : Bool) (since hz t : Nat) (fl wt en nm : Value) (ht : t ≤ 1000000) :
  Calls Tryz.prog 146 #[.agg #[.bool up, .int .u64 (since : Int), .int .u64 (hz : Int), fl, wt, en, nm], .int .u64 (t : Int)] w fun e w' => e = .returned (.bool (decide (since < t ∧ t ≤ hz ∧ hz < t + 6))) ∧ Kept (fun _ => False) w w' := by
 have hwr : IntKind.u64.wrap ((t : Int) + 6) = (t : Int) + 6 := by simp [IntKind.wrap, IntKind.bits, IntKind.signed]; omega
 have HQ : Hid (∀ x : Bool, (x = true ↔ since < t ∧ t ≤ hz ∧ hz < t + 6) → (Ending.returned (.bool x)) = .returned (.bool (decide (since < t ∧ t ≤ hz ∧ hz < t + 6)))) := fun x hx => by
  cases x with
  | true => rw [decide_eq_true (hx.mp rfl)]
  | false => rw [decide_eq_false (fun hh => by cases hx.mpr hh)]
 go_enter Tryz.func146, Tryz.ntmps146
 go_wp2
 all_goals
  go_ret
  exact ⟨HQ.out _ (by simp <;> omega), Kept.alloc _ _ _⟩
structure Lating (w W : World) (S : Nat) (A : Array Value) (K T : Int) (e : EntE) : Prop where
 low : Kept (fun _ => False) w W
 nb : Blk W w.heap.size 146 A
 eb : Blk W (w.heap.size + 1) 55 (entA e)
 zb : Blk W (w.heap.size + 1 + 1) 55 zeroA
 sb : Blk W S 70 #[.int .u8 K, .int .i64 T]
 far : w.heap.size + 1 + 1 < S
theorem Lating.same {w W W' : World} {S : Nat} {A : Array Value} {K T : Int} {e : EntE} (h : Lating w W S A K T e) (k : Kept (fun _ => False) W W') : Lating w W' S A K T e :=
 ⟨h.low.trans k (fun _ => id) (fun _ _ => id), h.nb.kept k id, h.eb.kept k id, h.zb.kept k id, h.sb.kept k id, h.far⟩
theorem Lating.set {w W : World} {S : Nat} {A : Array Value} {K T : Int} {e e' : EntE} (h : Lating w W S A K T e) (i : Nat) (v : Value) (he : (entA e).setIfInBounds i v = entA e') : Lating w (W.setCell ⟨w.heap.size + 1, i, none⟩ v) S A K T e' := by
 have k := Kept.setCell W ⟨w.heap.size + 1, i, none⟩ v
 have hf := h.far
 refine ⟨h.low.setNew _ _ _ (by omega), h.nb.kept k (by simp), ?_, h.zb.kept k (by simp), h.sb.kept k (by simp; omega), h.far⟩
 rw [← he]
 exact h.eb.set i v
theorem kres {w W : World} {B : Nat} (h : Kept (fun _ => False) w W) (hb : w.heap.size ≤ B) (a b c d e f : Value) : Kept (fun _ => False) w ((((((W.setCell ⟨B, 0, none⟩ a).setCell ⟨B, 1, none⟩ b).setCell ⟨B, 2, none⟩ c).setCell ⟨B, 3, none⟩ d).setCell ⟨B, 4, none⟩ e).setCell ⟨B, 5, none⟩ f) :=
 (((((h.setNew _ _ _ hb).setNew _ _ _ hb).setNew _ _ _ hb).setNew _ _ _ hb).setNew _ _ _ hb).setNew _ _ _ hb
def LatePost (w : World) (l : List PastE) (since hz : Nat) (p : EntE) (e : Ending) (w' : World) : Prop :=
 Kept (fun _ => False) w w' ∧ ((∃ y, lateE l since hz p = some y ∧ e = .returned (.tuple #[.agg (entA y), .bool true])) ∨ (lateE l since hz p = none ∧ ∃ y, e = .returned (.tuple #[.agg (entA y), .bool false])))
theorem rlate (w : World) (b : Nat) (R : RefS) (up : Bool) (since hz : Nat) (fl wt en nm : Value) (p : EntE) (h : Ref w b R) (hf : R.Fit) (hhz : hz < R.past.length) (hq : p.q.size ≤ maxLen) :
  Calls Tryz.prog 102 #[.pointer (some ⟨b, 0, none⟩), .agg #[.bool up, .int .u64 (since : Int), .int .u64 (hz : Int), fl, wt, en, nm], .agg (entA p)] w fun e w' => LatePost w R.past since hz p e w' := by
 by_cases hs : p.op = false ∨ hz ≤ p.kn
 · refine (rlate_short w b up since hz fl wt en nm p hs).mono fun e w' hp => ⟨hp.2, .inl ⟨p, ?_, hp.1⟩⟩
  unfold lateE
  rw [if_pos hs]
 · have ho : p.op = true := by cases hh : p.op with
   | true => rfl
   | false => exact absurd (.inl hh) hs
  have hlt : p.kn < hz := by have := mt Or.inr hs; omega
  obtain ⟨l, hl⟩ : ∃ l, l = R.past := ⟨_, rfl⟩
  obtain ⟨K, hK⟩ : ∃ K, K = keysQ p.q := ⟨_, rfl⟩
  have hpm := hf.pmax
  have HLE : Hid (∀ r : Option EntE, lateGo l K since hz p.kn (hz - p.kn) p = r → lateE l since hz p = r.map fun y => if y.op then { y with kn := hz } else y) := fun r hr => by
   unfold lateE
   rw [if_neg hs, ← hK, hr]
  have HT : Hid (∀ W, Kept (fun _ => False) w W → ∀ t : Nat, t < l.length → Calls Tryz.prog 141 #[.pointer (some ⟨b, 0, none⟩), .int .u64 (t : Int), .int .u8 K] W fun e w' => e = .returned (.bool (touchB l K t)) ∧ W = w') := by
   intro W hW t ht
   rw [hl] at ht ⊢
   have hq : R.past[t]? = some R.past[t] := List.getElem?_eq_getElem ht
   rw [touchB_some K hq]
   exact rtouches W b R t K _ (h.kept hW fun _ _ => id) hf hq
  have HPA : Hid (∀ (W : World), Calls Tryz.prog 26 #[.string p.q] W fun e w' => ∃ y er : Int, e = .returned (.tuple #[.agg #[.int .u8 K, .int .i64 y], .int .i64 er]) ∧ Kept (fun _ => False) W w') := fun W => (rParse_any p.q W hq).mono fun e w' hp => ⟨_, _, by rw [hK]; exact hp.1, Kept.of_below hp.2 _⟩
  have HRE : Hid (∀ (W : World) (t : Nat), t ≤ 1000000 → Calls Tryz.prog 146 #[.agg #[.bool up, .int .u64 (since : Int), .int .u64 (hz : Int), fl, wt, en, nm], .int .u64 (t : Int)] W fun e w' => e = .returned (.bool (decide (since < t ∧ t ≤ hz ∧ hz < t + 6))) ∧ Kept (fun _ => False) W w') := fun W t ht => rremembers W up since hz t fl wt en nm ht
  rw [← hl] at hhz ⊢
  obtain ⟨pq, pv, pf, pt, po, pk⟩ := p
  have ho' : po = true := ho
  subst ho'
  have hlt' : pk < hz := hlt
  have hl7 : l.length ≤ 1000 := by rw [hl]; omega
  have hd : decide ((hz : Int) ≤ (pk : Int)) = false := by simp; omega
  show Calls Tryz.prog 102 #[.pointer (some ⟨b, 0, none⟩), .agg #[.bool up, .int .u64 (since : Int), .int .u64 (hz : Int), fl, wt, en, nm], .agg #[.string pq, .int .i32 pv, .int .u64 (pf : Int), .int .u64 (pt : Int), .bool true, .int .u64 (pk : Int)]] w _
  dsimp only at HLE HPA
  obtain ⟨A, hA⟩ : ∃ A : Array Value, A = #[.bool up, .int .u64 (since : Int), .int .u64 (hz : Int), fl, wt, en, nm] := ⟨_, rfl⟩
  have HLA : Hid (∀ (w1 : World) (T : Int), Kept (fun _ => False) (((w.alloc (.cells #[.bool up, .int .u64 (since : Int), .int .u64 (hz : Int), fl, wt, en, nm] 146)).alloc (.cells #[.string pq, .int .i32 pv, .int .u64 (pf : Int), .int .u64 (pt : Int), .bool true, .int .u64 (pk : Int)] 55)).alloc (.cells zeroA 55)) w1 → Lating w (w1.alloc (.cells #[.int .u8 K, .int .i64 T] 70)) w1.heap.size A K T ⟨pq, pv, pf, pt, true, pk⟩) := by
   intro w1 T k
   have k0 : Kept (fun _ => False) w w1 := (((Kept.alloc w _ (fun _ => False)).allocNew _).allocNew _).trans k (fun _ => id) (fun _ _ => id)
   have hsz := k.size
   simp at hsz
   refine ⟨k0.allocNew _, ?_, ?_, ?_, Blk.new _ _ _, by omega⟩
   · rw [hA]
    exact (((Blk.new w _ _).kept (((Kept.alloc _ _ (fun _ => False)).allocNew _)) id).kept k id).kept (Kept.alloc _ _ (fun _ => False)) id
   · have := (((Blk.new (w.alloc (.cells #[.bool up, .int .u64 (since : Int), .int .u64 (hz : Int), fl, wt, en, nm] 146)) 55 #[.string pq, .int .i32 pv, .int .u64 (pf : Int), .int .u64 (pt : Int), .bool true, .int .u64 (pk : Int)]).kept (Kept.alloc _ (.cells zeroA 55) (fun _ => False)) id).kept k id).kept (Kept.alloc _ (.cells #[.int .u8 K, .int .i64 T] 70) (fun _ => False)) id
    simpa [entA] using this
   · have := ((Blk.new ((w.alloc (.cells #[.bool up, .int .u64 (since : Int), .int .u64 (hz : Int), fl, wt, en, nm] 146)).alloc (.cells #[.string pq, .int .i32 pv, .int .u64 (pf : Int), .int .u64 (pt : Int), .bool true, .int .u64 (pk : Int)] 55)) 55 zeroA).kept k id).kept (Kept.alloc _ (.cells #[.int .u8 K, .int .i64 T] 70) (fun _ => False)) id
    simpa using this
  have HF : Hid (∀ W S T e, Lating w W S A K T e → W.cell? ⟨w.heap.size, 0, none⟩ = some (.bool up) ∧ W.cell? ⟨w.heap.size, 1, none⟩ = some (.int .u64 (since : Int)) ∧ W.cell? ⟨w.heap.size, 2, none⟩ = some (.int .u64 (hz : Int)) ∧ W.cell? ⟨w.heap.size, 3, none⟩ = some fl ∧ W.cell? ⟨w.heap.size, 4, none⟩ = some wt ∧ W.cell? ⟨w.heap.size, 5, none⟩ = some en ∧ W.cell? ⟨w.heap.size, 6, none⟩ = some nm ∧ W.cell? ⟨S, 0, none⟩ = some (.int .u8 K)) := by
   intro W S T e hL
   have hn := hL.nb
   rw [hA] at hn
   exact ⟨hn.cell 0, hn.cell 1, hn.cell 2, hn.cell 3, hn.cell 4, hn.cell 5, hn.cell 6, hL.sb.cell 0⟩
  have HG : Hid (∀ W S T (e : EntE), Lating w W S A K T e → W.cell? ⟨w.heap.size + 1, 0, none⟩ = some (.string e.q) ∧ W.cell? ⟨w.heap.size + 1, 1, none⟩ = some (.int .i32 e.val) ∧ W.cell? ⟨w.heap.size + 1, 2, none⟩ = some (.int .u64 (e.fr : Int)) ∧ W.cell? ⟨w.heap.size + 1, 3, none⟩ = some (.int .u64 (e.till : Int)) ∧ W.cell? ⟨w.heap.size + 1, 4, none⟩ = some (.bool e.op) ∧ W.cell? ⟨w.heap.size + 1, 5, none⟩ = some (.int .u64 (e.kn : Int)) ∧ (∀ i, W.frozen? ⟨w.heap.size + 1, i, none⟩ = false) ∧ (∀ i, W.frozen? ⟨w.heap.size + 1 + 1, i, none⟩ = false) ∧ W.cell? ⟨w.heap.size + 1 + 1, 0, none⟩ = some (.string ⟨#[]⟩) ∧ W.cell? ⟨w.heap.size + 1 + 1, 1, none⟩ = some (.int .i32 0) ∧ W.cell? ⟨w.heap.size + 1 + 1, 2, none⟩ = some (.int .u64 0) ∧ W.cell? ⟨w.heap.size + 1 + 1, 3, none⟩ = some (.int .u64 0) ∧ W.cell? ⟨w.heap.size + 1 + 1, 4, none⟩ = some (.bool false) ∧ W.cell? ⟨w.heap.size + 1 + 1, 5, none⟩ = some (.int .u64 0)) := by
   intro W S T e hL
   have hn := hL.eb
   have hz := hL.zb
   exact ⟨hn.cell 0, hn.cell 1, hn.cell 2, hn.cell 3, hn.cell 4, hn.cell 5, hn.free, hz.free, hz.cell 0, hz.cell 1, hz.cell 2, hz.cell 3, hz.cell 4, hz.cell 5⟩
  clear h hf hs hq hK ho hl hlt hA
  go_enter Tryz.func102, Tryz.ntmps102
  go_wp2_with (go_at_call 26; refine (HPA.out _).mono ?_; rintro e w1 ⟨T, er, rfl, hk1⟩; have HL0 := HLA.out w1 T hk1; have HL1 : Hid (Lating w (w1.alloc (.cells #[.int .u8 K, .int .i64 T] 70)) w1.heap.size A K T ⟨pq, pv, pf, pt, true, pk⟩) := HL0; have n2 : (w1.alloc (.cells #[.int .u8 K, .int .i64 T] 70)).cell? ⟨w.heap.size, 2, none⟩ = some (.int .u64 (hz : Int)) := (HF.out _ _ _ _ HL0).2.2.1; clear hk1 HL0)
  clear n2
  generalize w1.alloc (.cells #[.int .u8 K, .int .i64 T] 70) = W0 at HL1 ⊢
  generalize w1.heap.size = S at HL1 ⊢
  have HST : Hid (∀ W (e : EntE), Lating w W S A K T e → S ≠ w.heap.size + 1 ∧ w.heap.size + 1 ≠ S) := fun W e hL => by have := hL.far; omega
  go_loopw [10] (fun tv wr => ∃ (m : Nat) (e : EntE), m ≤ hz - pk ∧ tv = .int .u64 ((pk + m : Nat) : Int) ∧ Hid (Lating w wr S A K T e ∧ e.kn = pk ∧ lateGo l K since hz pk (hz - pk) ⟨pq, pv, pf, pt, true, pk⟩ = lateGo l K since hz pk m e)) (fun tv _ => (intOf tv).toNat)
  case atStart => exact ⟨hz - pk, _, Nat.le_refl _, by rw [show pk + (hz - pk) = hz by omega], HL1.out, rfl, rfl⟩
  case round =>
   obtain ⟨m, ⟨q', v', f', t', o', k'⟩, hm, rfl, HI⟩ := hrel
   obtain rfl : k' = pk := HI.out.2.1
   obtain ⟨n0, n1, n2, n3, n4, n5, n6, s0⟩ := HF.out wr S T _ HI.out.1
   obtain ⟨e0, e1, e2, e3, e4, e5, ef, zf, z0, z1, z2, z3, z4, z5⟩ := HG.out wr S T _ HI.out.1
   dsimp only at e0 e1 e2 e3 e4 e5
   match m, hm, HI with
   | 0, hm, HI =>
    have hd1 : decide ((k' : Int) < ((k' + 0 : Nat) : Int)) = false := by simp
    have HE : Hid (lateE l since hz ⟨pq, pv, pf, pt, true, k'⟩ = some (if o' then ⟨q', v', f', t', o', hz⟩ else ⟨q', v', f', t', o', k'⟩)) := HLE.out (some _) HI.out.2.2
    have HK : Hid (Kept (fun _ => False) w wr) := HI.out.1.low
    cases o' with
    | true =>
     go_wp2
     exact bodyPost_ret (v := .tuple #[.agg (entA ⟨q', v', f', t', true, hz⟩), .bool true]) (by simp [results, Tryz.results102, go_sem, entA, z0, z1, z2, z3, z4, z5]) rfl ⟨kres (HK.out.setNew _ _ _ (by omega)) (by omega) _ _ _ _ _ _, .inl ⟨_, HE.out, rfl⟩⟩
    | false =>
     go_wp2
     exact bodyPost_ret (v := .tuple #[.agg (entA ⟨q', v', f', t', false, k'⟩), .bool true]) (by simp [results, Tryz.results102, go_sem, entA, z0, z1, z2, z3, z4, z5]) rfl ⟨kres HK.out (by omega) _ _ _ _ _ _, .inl ⟨_, HE.out, rfl⟩⟩
   | m + 1, hm, HI =>
    have hd1 : decide ((k' : Int) < ((k' + (m + 1) : Nat) : Int)) = true := by simp; omega
    by_cases hr : since < k' + (m + 1) ∧ hz < k' + (m + 1) + 6
    · have HR1 : Hid (∀ W : World, Calls Tryz.prog 146 #[.agg #[.bool up, .int .u64 (since : Int), .int .u64 (hz : Int), fl, wt, en, nm], .int .u64 ((k' + (m + 1) : Nat) : Int)] W fun e w' => e = .returned (.bool true) ∧ Kept (fun _ => False) W w') := fun W => by
      have := HRE.out W (k' + (m + 1)) (by omega)
      rw [decide_eq_true (show since < k' + (m + 1) ∧ k' + (m + 1) ≤ hz ∧ hz < k' + (m + 1) + 6 from ⟨hr.1, by omega, hr.2⟩)] at this
      exact this
     have HGO : Hid (lateGo l K since hz k' (hz - k') ⟨pq, pv, pf, pt, true, k'⟩ = lateGo l K since hz k' m (if touchB l K (k' + (m + 1)) then ⟨q', v', f', k' + (m + 1), false, k'⟩ else ⟨q', v', f', t', o', k'⟩)) := by
      show _ = _
      rw [HI.out.2.2, lateGo, if_pos (show since < k' + m + 1 ∧ hz < k' + m + 1 + 6 from hr)]
      rfl
     have HT1 : Hid (∀ W, Kept (fun _ => False) w W → Calls Tryz.prog 141 #[.pointer (some ⟨b, 0, none⟩), .int .u64 ((k' + (m + 1) : Nat) : Int), .int .u8 K] W fun e w' => e = .returned (.bool (touchB l K (k' + (m + 1)))) ∧ W = w') := fun W hW => HT.out W hW (k' + (m + 1)) (by omega)
     cases hy : touchB l K (k' + (m + 1)) with
     | true =>
      rw [hy] at HT1 HGO
      clear hy hr
      go_wp2_with first
       | (go_at_call 146; refine (HR1.out _).mono ?_; rintro e w2 ⟨rfl, hk2⟩; have HL2 : Hid (Lating w w2 S A K T ⟨q', v', f', t', o', k'⟩) := HI.out.1.same hk2; clear hk2 n0 n1 n2 n3 n4 n5 n6 s0 e0 e1 e2 e3 e4 e5 ef zf z0 z1 z2 z3 z4 z5; obtain ⟨_, _, _, _, _, _, _, s0⟩ := HF.out w2 S T _ HL2.out; obtain ⟨e0, e1, e2, e3, e4, e5, ef, _⟩ := HG.out w2 S T _ HL2.out)
       | (go_at_call 141; refine (HT1.out _ HL2.out.low).mono ?_; rintro e w3 ⟨rfl, rfl⟩)
      go_roundw
      case rel => exact ⟨m, ⟨q', v', f', k' + (m + 1), false, k'⟩, by omega, by go_num, (HL2.out.set (e' := ⟨q', v', f', t', false, k'⟩) 4 _ rfl).set 3 _ rfl, rfl, HGO.out⟩
      case measure => simp [intOf]; omega
     | false =>
      rw [hy] at HT1 HGO
      clear hy hr
      go_wp2_with first
       | (go_at_call 146; refine (HR1.out _).mono ?_; rintro e w2 ⟨rfl, hk2⟩; have HL2 : Hid (Lating w w2 S A K T ⟨q', v', f', t', o', k'⟩) := HI.out.1.same hk2; clear hk2 n0 n1 n2 n3 n4 n5 n6 s0 e0 e1 e2 e3 e4 e5 ef zf z0 z1 z2 z3 z4 z5; obtain ⟨_, _, _, _, _, _, _, s0⟩ := HF.out w2 S T _ HL2.out)
       | (go_at_call 141; refine (HT1.out _ HL2.out.low).mono ?_; rintro e w3 ⟨rfl, rfl⟩)
      go_roundw
      case rel => exact ⟨m, ⟨q', v', f', t', o', k'⟩, by omega, by go_num, HL2.out, rfl, HGO.out⟩
      case measure => simp [intOf]; omega
    · have HR1 : Hid (∀ W : World, Calls Tryz.prog 146 #[.agg #[.bool up, .int .u64 (since : Int), .int .u64 (hz : Int), fl, wt, en, nm], .int .u64 ((k' + (m + 1) : Nat) : Int)] W fun e w' => e = .returned (.bool false) ∧ Kept (fun _ => False) W w') := fun W => by
      have := HRE.out W (k' + (m + 1)) (by omega)
      rw [decide_eq_false (show ¬ (since < k' + (m + 1) ∧ k' + (m + 1) ≤ hz ∧ hz < k' + (m + 1) + 6) from fun hh => hr ⟨hh.1, hh.2.2⟩)] at this
      exact this
     have HE : Hid (lateE l since hz ⟨pq, pv, pf, pt, true, k'⟩ = none) := HLE.out none (by rw [HI.out.2.2, lateGo, if_neg (show ¬ (since < k' + m + 1 ∧ hz < k' + m + 1 + 6) from hr)])
     clear hr
     go_wp2_with (go_at_call 146; refine (HR1.out _).mono ?_; rintro e w2 ⟨rfl, hk2⟩; have HL2 : Hid (Lating w w2 S A K T ⟨q', v', f', t', o', k'⟩) := HI.out.1.same hk2; clear hk2 n0 n1 n2 n3 n4 n5 n6 s0 e0 e1 e2 e3 e4 e5 ef zf z0 z1 z2 z3 z4 z5; obtain ⟨e0, e1, e2, e3, e4, e5, ef, zf, z0, z1, z2, z3, z4, z5⟩ := HG.out w2 S T _ HL2.out)
     exact bodyPost_ret (v := .tuple #[.agg (entA ⟨q', v', f', t', o', k'⟩), .bool false]) (by simp [results, Tryz.results102, go_sem, entA, z0, z1, z2, z3, z4, z5]) rfl ⟨kres HL2.out.low (by omega) _ _ _ _ _ _, .inr ⟨HE.out, _, rfl⟩⟩
theorem hs6 {W : World} {g o b f : Nat} {e : EntE} {v : Value} (hne : b ≠ g) (h : W.cell? ⟨b, f, none⟩ = some v) : (set6 W g o e).cell? ⟨b, f, none⟩ = some v :=
 (World.cell?_of_block (a := ⟨b, f, none⟩) ((set6_kept W g o e).block b (World.block_lt_of_cell? W _ h) hne)).trans h
theorem kdrew {W w : World} {n : Nat} (h : Kept (fun _ => False) (W.drewN n) w) : Kept (fun _ => False) W w := ((Kept.refl (fun _ => False) W).drewN n).trans h (fun _ => id) (fun _ _ => id)
theorem store_turn {W : World} {b k ge j : Nat} {R : RefS} {nd : NodeE} (h : Ref W b R) (hnd : R.nodes[k]? = some nd) (hg : nd.en.ownBlock = some ge) (hj : j < nd.ents.length) (M : EntE) : Became W b R (set6 W ge (j * 6) M) (R.putN k (nd.setEnts (nd.ents.set j M) nd.en)) :=
 h.turnEnts hnd _ ((set6_kept W ge (j * 6) M).mono fun i hi => by rw [hg, hi]) (by rw [List.length_set]; exact (h.ents nd (List.mem_of_getElem? hnd)).set6 hg hj M)
theorem drew_cell {w : World} {a : Addr} {v : Value} (h : w.cell? a = some v) : w.drew.cell? a = some v := h
def TakenPost (w : World) (b : Nat) (R : RefS) (i k : Nat) (nd : NodeE) (p : EntE) (e : Ending) (w' : World) : Prop :=
 e = .returned (.tuple #[.bool true, .int .i64 0]) ∧
 ((∃ (j : Nat) (x : EntE) (nm : Int) (v vs : Value), nd.ents[j]? = some x ∧ nd.nms[j]? = some nm ∧ sameE x p ∧ (∀ (t : Nat) (y : EntE), t < j → nd.ents[t]? = some y → ¬ sameE y p) ∧
   Became w b R w' (((R.setPuts (R.puts.eraseIdx i) v).putN k (nd.setEnts (nd.ents.set j (mergedE x p)) nd.en)).pushUse nm vs)) ∨
  ((∀ (t : Nat) (y : EntE), nd.ents[t]? = some y → ¬ sameE y p) ∧ ∃ (nd1 : NodeE) (v ve vm vs : Value),
   (((nd.ents.length : Int) < R.room ∧ nd1 = nd) ∨ (R.room ≤ (nd.ents.length : Int) ∧ ∃ v1 v2, nd1 = nd.without (goesN R.uses nd).toNat v1 v2)) ∧
   Became w b R w' { ((R.setPuts (R.puts.eraseIdx i) v).putN k ((nd1.setEnts (nd1.ents ++ [p]) ve).setNms (nd1.nms ++ [R.next]) vm)).pushUse R.next vs with next := R.next + 1 }))
theorem not_next {l : List EntE} {p x : EntE} {j : Nat} (h : ∀ (t : Nat) (y : EntE), t < j → l[t]? = some y → ¬ sameE y p) (hx : l[j]? = some x) (hn : ¬ sameE x p) : ∀ (t : Nat) (y : EntE), t < j + 1 → l[t]? = some y → ¬ sameE y p := by
 intro t y ht hy
 by_cases e : t = j
 · subst e; rw [hx] at hy; injection hy with hy; subst hy; exact hn
 · exact h t y (by omega) hy
theorem store_first {w w1 : World} {b : Nat} {R : RefS} {v : Value} {l : List EntE} {p : EntE} (hB : Kept (fun _ => False) (w.alloc (.cells (entA p) 55)) w1 ∧ Became w b R (w1.setCell ⟨b, 5, none⟩ v) (R.setPuts l v)) (h : Ref w b R) (hv : ∀ x, v.ownBlock = some x → w.heap.size < x) :
  Storing w b R (w1.setCell ⟨b, 5, none⟩ v) (R.setPuts l v) w.heap.size p := by
 have hbl := h.blk.lt
 refine ⟨hB.2, ((Blk.new w _ _).kept hB.1 id).kept (Kept.setCell w1 _ _) (by simp only; omega), ?_⟩
 rintro (e | ⟨r, hr, he⟩)
 · omega
 · by_cases hz : r.v = v
  · have := hv _ (by rw [← hz]; exact he); omega
  · have hm : r ∈ R.rows := by
    simp only [RefS.rows, RefS.setPuts, List.mem_cons] at hr ⊢
    rcases hr with rfl | rfl | rfl | rfl | rfl | hr
    · exact .inl rfl
    · exact .inr (.inl rfl)
    · exact .inr (.inr (.inl rfl))
    · exact absurd rfl hz
    · exact .inr (.inr (.inr (.inr (.inl rfl))))
    · exact .inr (.inr (.inr (.inr (.inr hr))))
   have := (h.all.row r hm).lt _ he; omega
theorem store_late {w W w3 : World} {b P : Nat} {R R' : RefS} {p : EntE} {n : Nat} (h : Storing w b R W R' P p) (k : Kept (fun _ => False) (W.drewN n) w3) : Storing w b R w3 R' P p := h.same (((Kept.refl (fun _ => False) W).drewN n).trans k (fun _ => id) (fun _ _ => id))
theorem app_from {w w2 w' : World} {e : TypeId} {size : Nat} {v v' : Value} {n m : Nat} {xs news : List Value} (k : Kept (fun _ => False) w w2) (h : Appended w2 w' e size v v' n m xs news) : Appended w w' e size v v' n m xs news := by
 refine ⟨h.row, k.trans h.kept (fun _ => False.elim) (fun _ _ => id), ?_⟩
 rcases h.own with e | e
 · exact .inl e
 · exact .inr fun j hj => Nat.le_trans k.size (e j hj)
theorem store_ent {w W W2 w' : World} {b k g P : Nat} {R R2 : RefS} {nd1 : NodeE} {p : EntE} {v' : Value} (h : Storing w b R W R2 P p) (hk : Kept (fun _ => False) W W2) (hnd : R2.nodes[k]? = some nd1) (ho : R2.vn.ownBlock = some g) (hA : Appended W2 w' 55 6 nd1.en v' nd1.ents.length 1 (nd1.ents.flatMap entC) (entC p)) :
  (∀ f u, W.cell? ⟨g, f, none⟩ = some u → w'.cell? ⟨g, f, none⟩ = some u) ∧ (∀ f u, W.cell? ⟨b, f, none⟩ = some u → w'.cell? ⟨b, f, none⟩ = some u) ∧ (∀ f, w'.frozen? ⟨g, f, none⟩ = false) ∧ Storing w b R (w'.setCell ⟨g, k * 7 + 5, none⟩ v') (R2.putN k (nd1.setEnts (nd1.ents ++ [p]) v')) P p ∧ Blk w' P 55 (entA p) := by
 have hA2 := app_from hk hA
 have hr := h.bec.1.ents nd1 (List.mem_of_getElem? hnd)
 have hg : ¬ nd1.en.ownBlock = some g := fun e => hr.ne_row h.bec.1.nodes (by decide) g e ho
 have hb : ¬ nd1.en.ownBlock = some b := fun e => hr.ne_block h.bec.1.blk (by decide) e
 refine ⟨fun f u hc => hA2.kept.keep hg hc, fun f u hc => hA2.kept.keep hb hc, fun f => (h.bec.1.nodes.kept hA2.kept fun j hj he => ?_).free ho f, h.next (h.bec.1.pushEnt hnd ho p v' hA2), h.box.kept hA2.kept fun e => h.away (.inr ⟨_, nodeR_mem (List.mem_of_getElem? hnd) (List.mem_of_getElem? (i := 2) rfl), e⟩)⟩
 rw [ho] at hj
 injection hj with hj
 exact hg (by rw [hj]; exact he)
theorem store_nm {w W W2 w' : World} {b k g P : Nat} {R R2 : RefS} {nd1 : NodeE} {p : EntE} {x : Int} {v' : Value} (h : Storing w b R W R2 P p) (hk : Kept (fun _ => False) W W2) (hnd : R2.nodes[k]? = some nd1) (ho : R2.vn.ownBlock = some g) (hA : Appended W2 w' 3 1 nd1.nm v' nd1.nms.length 1 (i64s nd1.nms) [.int .i64 x]) :
  (∀ f u, W.cell? ⟨g, f, none⟩ = some u → w'.cell? ⟨g, f, none⟩ = some u) ∧ (∀ f u, W.cell? ⟨b, f, none⟩ = some u → w'.cell? ⟨b, f, none⟩ = some u) ∧ (∀ f, w'.frozen? ⟨g, f, none⟩ = false) ∧ Storing w b R (w'.setCell ⟨g, k * 7 + 6, none⟩ v') (R2.putN k (nd1.setNms (nd1.nms ++ [x]) v')) P p := by
 have hA2 := app_from hk hA
 have hr := h.bec.1.nms nd1 (List.mem_of_getElem? hnd)
 have hg : ¬ nd1.nm.ownBlock = some g := fun e => hr.ne_row h.bec.1.nodes (by decide) g e ho
 have hb : ¬ nd1.nm.ownBlock = some b := fun e => hr.ne_block h.bec.1.blk (by decide) e
 refine ⟨fun f u hc => hA2.kept.keep hg hc, fun f u hc => hA2.kept.keep hb hc, fun f => (h.bec.1.nodes.kept hA2.kept fun j hj he => ?_).free ho f, h.next (h.bec.1.pushNm hnd ho x v' hA2)⟩
 rw [ho] at hj
 injection hj with hj
 exact hg (by rw [hj]; exact he)
theorem store_use {w W W2 w' : World} {b P : Nat} {R R2 : RefS} {p : EntE} {x : Int} {v' : Value} (h : Storing w b R W R2 P p) (hk : Kept (fun _ => False) W W2) (hA : Appended W2 w' 3 1 R2.vs v' R2.uses.length 1 (i64s R2.uses) [.int .i64 x]) :
  Kept (fun j => R2.vs.ownBlock = some j) W w' ∧ (∀ f u, W.cell? ⟨b, f, none⟩ = some u → w'.cell? ⟨b, f, none⟩ = some u) ∧ (∀ f, w'.frozen? ⟨b, f, none⟩ = false) ∧ Became w b R (w'.setCell ⟨b, 6, none⟩ v') (R2.pushUse x v') := by
 have hA2 := app_from hk hA
 have hb : ¬ R2.vs.ownBlock = some b := fun e => h.bec.1.uses.ne_block h.bec.1.blk (by decide) e
 exact ⟨hA2.kept, fun f u hc => hA2.kept.keep hb hc, fun f => (h.bec.1.blk.kept hA2.kept hb).free f, h.bec.trans (h.bec.1.pushUse x v' hA2)⟩
theorem nm_ne_uses {w : World} {b k : Nat} {R : RefS} {nd : NodeE} (h : Ref w b R) (hn : nd ∈ R.nodes) (hk : nd.nm.ownBlock = some k) : R.vs.ownBlock ≠ some k := by
 have hm : (⟨3, 1, nd.nm, nd.nms.length, i64s nd.nms⟩ : RowD) ∈ R.nodes.flatMap nodeR := List.mem_flatMap.mpr ⟨nd, hn, List.mem_of_getElem? (i := 3) rfl⟩
 obtain ⟨i, hi, e⟩ := List.getElem_of_mem hm
 exact h.all.sep (i + 5) 4 _ ⟨3, 1, R.vs, R.uses.length, i64s R.uses⟩ (by show (R.nodes.flatMap nodeR)[i]? = _; rw [List.getElem?_eq_getElem hi, e]) rfl (by omega) k hk
theorem node_cells {W : World} {b k g n cap : Nat} {R2 : RefS} {nd1 : NodeE} (h : Ref W b R2) (hnd : R2.nodes[k]? = some nd1) (hv : R2.vn = .slice (some ⟨g, 0, none⟩) n cap) (ho : R2.vn.ownBlock = some g) :
  W.cell? ⟨b, 3, none⟩ = some (.slice (some ⟨g, 0, none⟩) n cap) ∧ W.cell? ⟨g, k * 7 + 5, none⟩ = some nd1.en ∧ W.cell? ⟨g, k * 7 + 6, none⟩ = some nd1.nm := by
 obtain ⟨hk, hnd'⟩ := List.getElem?_eq_some_iff.mp hnd
 exact ⟨by rw [h.c3, hv], h.nodes.cell ho _ _ (by rw [node_at R2.nodes k hk 5 (by omega), hnd']; rfl), h.nodes.cell ho _ _ (by rw [node_at R2.nodes k hk 6 (by omega), hnd']; rfl)⟩
theorem goes_nat (us : List Int) (nd : NodeE) (h : 0 < nd.ents.length) : ∃ q : Nat, goesN us nd = (q : Int) ∧ q < nd.ents.length := by
 unfold goesN
 split
 · rename_i h0
  have := bestC_lt nd.ents nd.ents.length
  exact ⟨(bestC nd.ents nd.ents.length).toNat, by omega, by omega⟩
 · have := bestU_lt us nd.nms nd.ents.length
  exact ⟨bestU us nd.nms nd.ents.length, rfl, by omega⟩
end Go.Proofs.YtpfcacedpkaihaaGreat
