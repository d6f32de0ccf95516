import Derived.Test.YtpfcacedpkaihaaGreatC36
import Derived.Test.YtpfcacedpkaihaaGreatC38
import Derived.Test.YtpfcacedpkaihaaGreatC31
import Derived.BigQuiet
namespace Go.Proofs.YtpfcacedpkaihaaGreat
open Go.RowKit
set_option maxRecDepth 100000
set_option maxHeartbeats 16000000
def PutsPost (w : World) (pb : Nat) (vps bv b1 b2 : Value) (commits most : Int) (bn : Nat) (vals : List Value) (m : Nat) (w' : World) : Prop :=
 ∃ (N : Nat) (ad : Nat → Option Addr) (cp : Nat → Nat) (v : Value), Blk w' N 51 (fourC m ad cp) ∧ w.heap.size ≤ N ∧
  (∀ k, k < 4 → ∀ t, t < m + k → ∃ g, ad k = some ⟨g, 0, none⟩ ∧ w.heap.size ≤ g ∧ Mk bn w' g t) ∧
  Row w' 49 1 v (bn + 1) (vals ++ [.slice (some ⟨N, 0, none⟩) 4 4]) ∧ Blk w' pb 34 (playC vps v b1 b2 commits most) ∧
  Kept (fun k => k = pb ∨ bv.ownBlock = some k) w w' ∧ (∀ k, v.ownBlock = some k → bv.ownBlock = some k ∨ w.heap.size ≤ k)
theorem puts_post {w w1 w2 w3 : World} {pb : Nat} {vps bv b1 b2 : Value} {commits most : Int} {bn : Nat} {vals : List Value} {m : Nat} {lV : Value} {e : Ending} (k1 : Kept (fun _ => False) w w1) (k2 : Kept (fun _ => False) w1 w2) (hl : ∀ k, lV.ownBlock = some k → w.heap.size ≤ k) (h : EPost w2 pb vps bv b1 b2 commits most bn vals lV m e w3) : PutsPost w pb vps bv b1 b2 commits most bn vals m w3 := by
 obtain ⟨_, N, ad, cp, v, hN, hs, hm, hr, hb, hk, hv⟩ := h
 have s1 := k1.size
 have s2 := k2.size
 refine ⟨N, ad, cp, v, hN, by omega, fun k hk t ht => ?_, hr, hb, ?_, fun k hk => (hv k hk).imp id (fun h => by omega)⟩
 · obtain ⟨g, e1, o1, m1⟩ := hm k hk t ht
  refine ⟨g, e1, ?_, m1⟩
  rcases o1 with h1 | h1
  · exact hl g h1
  · omega
 · refine (k1.trans k2 (H := fun _ => False) (fun _ => id) (fun _ _ => id)).trans hk (fun _ => False.elim) (fun k hk hf => ?_)
  rcases hf with h1 | h1 | h1
  · exact .inl h1
  · exact .inr h1
  · have := hl k h1; omega
theorem lmem_puts (w : World) (pb xb cb : Nat) (a b c : Int) (s : ByteArray) (ao : Option Addr) (n cap : Nat) (D : DevS) (R : RefS) (vps bv b1 b2 : Value) (commits most : Int) (bn : Nat) (vals : List Value) (h : Pair w xb cb D R) (hblk : Blk w pb 34 (playC vps bv b1 b2 commits most)) (hbv : Row w 49 1 bv bn vals) (hbn : (bn + 1) * 24 ≤ 140737488355328) :
  Calls Tryz.prog 16 #[.pointer (some ⟨pb, 0, none⟩), .agg #[.pointer (some ⟨xb, 0, none⟩), .pointer (some ⟨cb, 0, none⟩)], .agg #[.int .i64 8, .int .i64 a, .int .i64 b, .int .i64 c, .string s, .slice ao n cap]] w fun e w' => e = .returned (.bool true) ∧ Hid (PutsPost w pb vps bv b1 b2 commits most bn vals D.puts.length w') := by
 have hk := boxed_kept w xb cb 8 a b c s (.slice ao n cap)
 have hq := h.dfit.qmax
 have hsz := boxed_size w xb cb 8 a b c s (.slice ao n cap)
 obtain ⟨ap, cpp, hvu, _⟩ := h.ref.puts.form
 have H0 : Hid (Calls Tryz.prog 40 #[.pointer (some ⟨xb, 0, none⟩)] (boxed w xb cb 8 a b c s (.slice ao n cap)) fun e w1 => ∃ lo lc, e = .returned (.slice lo D.puts.length lc) ∧ w1.cell? ⟨w.heap.size, 1, none⟩ = some (.pointer (some ⟨cb, 0, none⟩)) ∧ w1.cell? ⟨cb, 5, none⟩ = some (.slice ap R.puts.length cpp) ∧ Hid (Row w1 55 6 (.slice lo D.puts.length lc) D.puts.length (D.puts.flatMap entC) ∧ Kept (fun _ => False) w w1 ∧ ∀ k, (Value.slice lo D.puts.length lc).ownBlock = some k → w.heap.size ≤ k)) := by
  refine (dputs _ xb D (h.kept hk fun _ _ => id).dev h.dfit).mono fun e w1 hp => ?_
  obtain ⟨v, e1, r1, r2, r3⟩ := hp
  obtain ⟨lo, lc, hv, _⟩ := r1.form
  subst e1 hv
  have hkk : Kept (fun _ => False) w w1 := hk.trans r2 (fun _ => id) (fun _ _ => id)
  refine ⟨lo, lc, rfl, boxed_c r2 (fun _ => False.elim), by rw [← hvu]; exact hkk.keep id h.ref.c5, r1, hkk, fun k hk => ?_⟩
  have := r3 k hk
  omega
 have H1 : Hid (∀ W lo lc, Row W 55 6 (.slice lo D.puts.length lc) D.puts.length (D.puts.flatMap entC) → Kept (fun _ => False) w W → Calls Tryz.prog 41 #[.slice lo D.puts.length lc, .slice ap R.puts.length cpp] W fun e w' => e = .returned (.bool true) ∧ Hid (Kept (fun _ => False) W w')) := by
  intro W lo lc hr hW
  have hp2 := h.ref.puts.kept hW (fun _ _ => id)
  rw [hvu, h.sim.puts] at hp2
  rw [h.sim.puts]
  exact (rsameEntries W _ _ D.puts (by omega) hr hp2).mono fun e w' hp => ⟨hp.1, Kept.of_below hp.2 _⟩
 have H2 : Hid (∀ W lo lc, Row W 55 6 (.slice lo D.puts.length lc) D.puts.length (D.puts.flatMap entC) → Kept (fun _ => False) w W → Calls Tryz.prog 42 #[.pointer (some ⟨pb, 1, none⟩), .slice lo D.puts.length lc] W fun e w' => e = .returned (.tuple #[]) ∧ Hid (EPost W pb vps bv b1 b2 commits most bn vals (.slice lo D.puts.length lc) D.puts.length (.returned (.tuple #[])) w')) := by
  intro W lo lc hr hW
  refine (lentries W pb vps bv b1 b2 commits most bn vals lo D.puts.length lc _ (hblk.kept hW id) (hbv.kept hW fun _ _ => id) hbn hr (by omega)).mono fun e w' hp => ?_
  have e1 := hp.1
  subst e1
  exact ⟨rfl, hp⟩
 have hpl := hblk.lt
 clear h hblk hbv hk hvu hsz
 go_enter Tryz.func16, Tryz.ntmps16
 go_wp2_with first
  | (go_at_call 40; refine H0.out.mono ?_; rintro e w1 ⟨lo, lc, rfl, q1, q2, HR⟩)
  | (go_at_call 41; refine (H1.out _ lo lc HR.out.1 HR.out.2.1).mono ?_; rintro e w2 ⟨rfl, HK2⟩)
  | (go_at_call 42; refine (H2.out _ lo lc (HR.out.1.kept HK2.out (fun _ _ => id)) (HR.out.2.1.trans HK2.out (fun _ => id) (fun _ _ => id))).mono ?_; rintro e w3 ⟨rfl, HE3⟩)
 go_ret
 exact ⟨rfl, puts_post HR.out.2.1 HK2.out HR.out.2.2 HE3.out⟩
theorem lstep_memory {B : Nat} {X : Nat → Prop} {w0 w : World} {pb : Nat} {ps : List PairE} {vps b0 b1 b2 : Value} {commits most : Int} (h : Inv B X w0 w pb ps vps b0 b1 b2 commits most) (kd a b c : Int) (s : ByteArray) (ao : Option Addr) (n cap : Nat) (hps : 0 < ps.length) (hpm : ps.length ≤ 4611686018427387904) (h2 : 8 ≤ kd) (h12 : kd ≤ 12) (ha0 : -9223372036854775808 ≤ a) (ha1 : a ≤ 9223372036854775807) (Q : World → Prop)
  (hrd : ∀ (W : World) (i : Nat) (p : PairE), ps[i]? = some p → Kept (fun _ => False) w W → Calls Tryz.prog 16 #[.pointer (some ⟨pb, 0, none⟩), .agg #[.pointer (some ⟨p.xb, 0, none⟩), .pointer (some ⟨p.cb, 0, none⟩)], .agg #[.int .i64 kd, .int .i64 a, .int .i64 b, .int .i64 c, .string s, .slice ao n cap]] W fun e w' => e = .returned (.bool true) ∧ Hid (Q w')) :
  Calls Tryz.prog 9 #[.pointer (some ⟨pb, 0, none⟩), .agg #[.int .i64 kd, .int .i64 a, .int .i64 b, .int .i64 c, .string s, .slice ao n cap]] w fun e w' => e = .returned (.bool true) ∧ Q w' := by
 have hk1 : (kd == 1) = false := beq_eq_false_iff_ne.mpr (by omega)
 have hk2 : (kd == 2) = false := beq_eq_false_iff_ne.mpr (by omega)
 have hk19 : (kd == 19) = false := beq_eq_false_iff_ne.mpr (by omega)
 obtain ⟨g, cv, hv, hog, hgl⟩ := h.row.block hps
 have c0 : w.cell? ⟨pb, 0, none⟩ = some vps := h.blk.cell 0
 rw [hv] at c0
 have hpl := h.blk.lt
 obtain ⟨m, hm⟩ : ∃ m, m = ps.length := ⟨_, rfl⟩
 obtain ⟨j, hj⟩ : ∃ j, j = pickN a m := ⟨_, rfl⟩
 have hjm : j < m := by rw [hj]; exact pickN_lt a (by omega)
 have HPK : Hid (∀ W, Calls Tryz.prog 13 #[.int .i64 a, .int .i64 m] W fun e w' => e = .returned (.int .i64 (j : Int)) ∧ W = w') := fun W => by rw [hj]; exact rpick W a m ha0 ha1 (by omega) (by omega)
 have hjp : j < ps.length := by omega
 obtain ⟨p, hp⟩ : ∃ p, p = ps[j] := ⟨_, rfl⟩
 have hget : ps[j]? = some p := by rw [hp]; exact List.getElem?_eq_getElem hjp
 have q0 := h.row.cell hog (j * 2) _ (by have := pair_at ps j hjp 0 (by omega); rw [Nat.add_zero] at this; rw [this]; rfl)
 have q1 := h.row.cell hog (j * 2 + 1) _ (by rw [pair_at ps j hjp 1 (by omega)]; rfl)
 rw [← hp] at q0 q1
 rw [← hm] at c0
 have hmz : ((m : Int) == 0) = false := beq_eq_false_iff_ne.mpr (by omega)
 have HRD : Hid (∀ W, Kept (fun _ => False) w W → Calls Tryz.prog 16 #[.pointer (some ⟨pb, 0, none⟩), .agg #[.pointer (some ⟨p.xb, 0, none⟩), .pointer (some ⟨p.cb, 0, none⟩)], .agg #[.int .i64 kd, .int .i64 a, .int .i64 b, .int .i64 c, .string s, .slice ao n cap]] W fun e w' => e = .returned (.bool true) ∧ Hid (Q w')) :=
  fun W hk => hrd W j p hget hk
 have hm1 : m ≤ 4611686018427387904 := by omega
 have hm0 : 0 < m := by omega
 generalize p.xb = xb at *
 generalize p.cb = cb at *
 clear hrd h hv hog hj hp hget hm hps hpm hjp
 go_enter Tryz.func9, Tryz.ntmps9
 go_wp2_with fail
 go_cut [5] (fun pp wx => pp = .pointer (some ⟨w.heap.size + 1, 0, none⟩) ∧ Hid (Kept (fun _ => False) w wx ∧ Blk wx w.heap.size 37 #[.int .i64 kd, .int .i64 a, .int .i64 b, .int .i64 c, .string s, .slice ao n cap] ∧ Blk wx (w.heap.size + 1) 44 #[.pointer (some ⟨xb, 0, none⟩), .pointer (some ⟨cb, 0, none⟩)]))
 case first =>
  go_region_held3 (fun w' => w'.cell? ⟨pb, 0, none⟩ = some (.slice (some ⟨g, 0, none⟩) m cv) ∧ w'.cell? ⟨w.heap.size, 1, none⟩ = some (.int .i64 a) ∧ w'.cell? ⟨g, j * 2, none⟩ = some (.pointer (some ⟨xb, 0, none⟩)) ∧ w'.cell? ⟨g, j * 2 + 1, none⟩ = some (.pointer (some ⟨cb, 0, none⟩))) (go_keep) ((go_at_call 13; refine (HPK.out _).mono ?_; rintro e w' ⟨rfl, rfl⟩))
  all_goals
   go_wp2
   go_meet
   case rel => exact ⟨rfl, ((Kept.alloc w _ (fun _ => False)).allocNew _).drew, boxes_two w _ _ _ _ _ rfl⟩
 case rest =>
  obtain ⟨rfl, HC⟩ := hcut
  have d0 : wc.cell? ⟨w.heap.size, 0, none⟩ = some (.int .i64 kd) := HC.out.2.1.cell 0
  have d1 : wc.cell? ⟨w.heap.size, 1, none⟩ = some (.int .i64 a) := HC.out.2.1.cell 1
  have d2 : wc.cell? ⟨w.heap.size, 2, none⟩ = some (.int .i64 b) := HC.out.2.1.cell 2
  have d3 : wc.cell? ⟨w.heap.size, 3, none⟩ = some (.int .i64 c) := HC.out.2.1.cell 3
  have d4 : wc.cell? ⟨w.heap.size, 4, none⟩ = some (.string s) := HC.out.2.1.cell 4
  have d5 : wc.cell? ⟨w.heap.size, 5, none⟩ = some (.slice ao n cap) := HC.out.2.1.cell 5
  have e0 : wc.cell? ⟨w.heap.size + 1, 0, none⟩ = some (.pointer (some ⟨xb, 0, none⟩)) := HC.out.2.2.cell 0
  have e1 : wc.cell? ⟨w.heap.size + 1, 1, none⟩ = some (.pointer (some ⟨cb, 0, none⟩)) := HC.out.2.2.cell 1
  have hk7 : decide (kd ≤ 7) = false := decide_eq_false (by omega)
  clear c0 q0 q1
  go_wp2_with (go_at_call 16; refine (HRD.out _ HC.out.1).mono ?_; rintro e w1 ⟨rfl, hs⟩)
  go_ret
  exact ⟨rfl, hs.out⟩
structure Sc (w : World) (ao : Option Addr) (n : Nat) (os : List OpE) : Prop where
 len : os.length = n
 cell : ∀ j (h : j < os.length), ∃ bl off, ao = some ⟨bl, off, none⟩ ∧ bl < w.heap.size ∧ ∀ f, f < 6 → w.cell? ⟨bl, off + j * 6 + f, none⟩ = (opC os[j])[f]?
def Ks (w : World) (kb : Nat) (ks : List Int) : Prop := kb < w.heap.size ∧ ∀ j (h : j < ks.length), w.cell? ⟨kb, j, none⟩ = some (.int .i64 ks[j])
theorem below_cell {B : Nat} {w w' : World} (h : Below B w w') {a : Addr} (hb : a.block < B) : w'.cell? a = w.cell? a := World.cell?_of_block (h.block a.block hb)
def PlaysPost (n : Nat) (I : Nat → World → Prop) (e : Ending) (w' : World) : Prop := e = .returned (.bool true) ∧ I n w'
theorem any_snoc (ks : List Int) (k : Int) (t : Nat) (h : t < ks.length) : (ks.take (t + 1)).any (fun x => k == x) = ((ks.take t).any (fun x => k == x) || (k == ks[t])) := by
 rw [List.take_succ_eq_append_getElem h, List.any_append]; simp
theorem lplays (w0 : World) (ao : Option Addr) (n cap kb kcap : Nat) (os : List OpE) (ks : List Int) (most : Int) (I J : Nat → World → Prop) (hsc : Sc w0 ao n os) (hks : Ks w0 kb ks) (hn : n ≤ 4611686018427387904) (hkn : ks.length ≤ 100)
  (hbelow : ∀ k W, I k W → Below w0.heap.size w0 W)
  (h0 : I 0 (w0.alloc (.cells (playC nilV nilV nilV nilV 0 most) 34)))
  (hkeep : ∀ k W W', I k W → Kept (fun _ => False) W W' → I k W')
  (hskip : ∀ k W, I k W → I (k + 1) W)
  (hstep : ∀ k W (hk : k < os.length), I k W → ks.any (fun x => os[k].kd == x) = true → Calls Tryz.prog 9 #[.pointer (some ⟨w0.heap.size, 0, none⟩), .agg #[.int .i64 os[k].kd, .int .i64 os[k].a, .int .i64 os[k].b, .int .i64 os[k].c, .string os[k].s, .slice os[k].ao os[k].n os[k].cap]] W fun e w' => e = .returned (.bool true) ∧ J k w')
  (hwhole : ∀ k W, k < os.length → J k W → Calls Tryz.prog 10 #[.pointer (some ⟨w0.heap.size, 1, none⟩)] W fun e w' => e = .returned (.bool true) ∧ I (k + 1) w') :
  Calls Tryz.prog 8 #[.slice ao n cap, .slice (some ⟨kb, 0, none⟩) ks.length kcap, .int .i64 most] w0 fun e w' => PlaysPost n I e w' := by
 have hl := hsc.len
 have HSC : Hid (Sc w0 ao n os) := hsc
 have HKS : Hid (Ks w0 kb ks) := hks
 have HBE : Hid (∀ k W, I k W → Below w0.heap.size w0 W) := hbelow
 have H0 : Hid (I 0 (w0.alloc (.cells (playC nilV nilV nilV nilV 0 most) 34))) := h0
 have HKE : Hid (∀ k W W', I k W → Kept (fun _ => False) W W' → I k W') := hkeep
 have HSK : Hid (∀ k W, I k W → I (k + 1) W) := hskip
 have HST : Hid (∀ k W (hk : k < os.length), I k W → ks.any (fun x => os[k].kd == x) = true → Calls Tryz.prog 9 #[.pointer (some ⟨w0.heap.size, 0, none⟩), .agg #[.int .i64 os[k].kd, .int .i64 os[k].a, .int .i64 os[k].b, .int .i64 os[k].c, .string os[k].s, .slice os[k].ao os[k].n os[k].cap]] W fun e w' => e = .returned (.bool true) ∧ Hid (J k w')) := hstep
 have HWH : Hid (∀ k W, k < os.length → J k W → Calls Tryz.prog 10 #[.pointer (some ⟨w0.heap.size, 1, none⟩)] W fun e w' => e = .returned (.bool true) ∧ Hid (I (k + 1) w')) := hwhole
 clear hsc hks hbelow h0 hkeep hskip hstep hwhole
 go_enter Tryz.func8, Tryz.ntmps8
 go_wp2
 go_loopw [8] (fun i wr => ∃ k : Nat, k ≤ n ∧ i = .int .i64 k ∧ Hid (I k wr)) (fun i _ => n - (intOf i).toNat)
 case atStart => exact ⟨0, Nat.zero_le _, rfl, H0⟩
 case round =>
  obtain ⟨k, hk, rfl, HI⟩ := hrel
  by_cases hlt : k < n
  · have hlt' : k < os.length := by omega
   obtain ⟨bl, off, hao, hbl, hcell⟩ := HSC.out.cell k hlt'
   obtain ⟨o, ho⟩ : ∃ o, o = os[k] := ⟨_, rfl⟩
   rw [← ho] at hcell
   have HCELL : Hid (∀ W, Below w0.heap.size w0 W → ∀ f, f < 6 → W.cell? ⟨bl, off + k * 6 + f, none⟩ = (opC o)[f]?) := fun W hW f hf => (below_cell hW hbl).trans (hcell f hf)
   have HO : Hid (o = os[k]) := ho
   subst hao
   clear hcell ho
   go_wp2
   go_loopw [9, 10] (fun inn j wy => ∃ t : Nat, t ≤ ks.length ∧ j = .int .i64 t ∧ inn = .bool ((ks.take t).any (fun x => o.kd == x)) ∧ Hid (I k wy)) (fun _ j _ => ks.length - (intOf j).toNat)
   case atStart => exact ⟨0, Nat.zero_le _, rfl, rfl, HI⟩
   case round =>
    obtain ⟨t, ht, rfl, rfl, HI2⟩ := hrel
    have hB := HBE.out k wr HI2.out
    have s0 : wr.cell? ⟨bl, off + k * 6, none⟩ = some (.int .i64 o.kd) := HCELL.out wr hB 0 (by omega)
    by_cases hts : t < ks.length
    · have kc : wr.cell? ⟨kb, t, none⟩ = some (.int .i64 ks[t]) := (below_cell hB HKS.out.1).trans (HKS.out.2 t hts)
     have HAN : Hid ((ks.take (t + 1)).any (fun x => o.kd == x) = ((ks.take t).any (fun x => o.kd == x) || (o.kd == ks[t]))) := any_snoc ks o.kd t hts
     generalize ks[t] = kt at *
     generalize hin : (ks.take t).any (fun x => o.kd == x) = inn at *
     clear hB hin
     cases inn with
     | true =>
      clear s0 kc
      go_wp2_with fail
      go_quiet (fail)
      go_wp2
      go_roundw
      case rel => exact ⟨t + 1, by omega, by go_num, by rw [HAN.out, Bool.true_or], HKE.out _ _ _ HI2.out ((Kept.refl _ _).drewN _)⟩
      case measure => simp [intOf]; omega
     | false =>
      cases hkt : (o.kd == kt) with
      | true =>
       rw [hkt] at HAN
       go_wp2_with fail
       go_quiet (fail)
       go_wp2
       go_roundw
       case rel => exact ⟨t + 1, by omega, by go_num, by rw [HAN.out]; rfl, HKE.out _ _ _ HI2.out ((Kept.refl _ _).drewN _)⟩
       case measure => simp [intOf]; omega
      | false =>
       rw [hkt] at HAN
       go_wp2_with fail
       go_quiet (fail)
       go_wp2
       go_roundw
       case rel => exact ⟨t + 1, by omega, by go_num, by rw [HAN.out]; rfl, HKE.out _ _ _ HI2.out ((Kept.refl _ _).drewN _)⟩
       case measure => simp [intOf]; omega
    · have htt : t = ks.length := by omega
     subst htt
     rw [List.take_length]
     generalize hin : ks.any (fun x => o.kd == x) = inn
     cases inn with
     | false =>
      clear hB s0
      go_wp2
      go_roundw
      case rel => exact ⟨k + 1, by omega, by go_num, HSK.out _ _ HI2.out⟩
      case measure => simp [intOf]; omega
     | true =>
      have s1 : wr.cell? ⟨bl, off + k * 6 + 1, none⟩ = some (.int .i64 o.a) := HCELL.out wr hB 1 (by omega)
      have s2 : wr.cell? ⟨bl, off + k * 6 + 2, none⟩ = some (.int .i64 o.b) := HCELL.out wr hB 2 (by omega)
      have s3 : wr.cell? ⟨bl, off + k * 6 + 3, none⟩ = some (.int .i64 o.c) := HCELL.out wr hB 3 (by omega)
      have s4 : wr.cell? ⟨bl, off + k * 6 + 4, none⟩ = some (.string o.s) := HCELL.out wr hB 4 (by omega)
      have s5 : wr.cell? ⟨bl, off + k * 6 + 5, none⟩ = some (.slice o.ao o.n o.cap) := HCELL.out wr hB 5 (by omega)
      have HS2 : Hid (Calls Tryz.prog 9 #[.pointer (some ⟨w0.heap.size, 0, none⟩), .agg #[.int .i64 o.kd, .int .i64 o.a, .int .i64 o.b, .int .i64 o.c, .string o.s, .slice o.ao o.n o.cap]] wr fun e w' => e = .returned (.bool true) ∧ Hid (J k w')) := by
       have := HST.out k wr hlt' HI2.out (by rw [← HO.out]; exact hin)
       rw [← HO.out] at this
       exact this
      clear hB hin
      go_wp2_with first
       | (go_at_call 9; refine HS2.out.mono ?_; rintro e w1 ⟨rfl, hj1⟩)
       | (go_at_call 10; refine (HWH.out k w1 hlt' hj1.out).mono ?_; rintro e w2 ⟨rfl, hi2⟩)
      go_roundw
      case rel => exact ⟨k + 1, by omega, by go_num, hi2⟩
      case measure => simp [intOf]; omega
  · have hkk : k = n := by omega
   subst hkk
   go_wp2
   go_ret
   exact ⟨rfl, HI.out⟩
end Go.Proofs.YtpfcacedpkaihaaGreat
