import Derived.Deep.RegionHeld3
import Derived.Deep.DeepCutAuto
import Derived.Test.YtpfcacedpkaihaaGreatC38
import Derived.BigQuiet
import Derived.Test.YtpfcacedpkaihaaGreatC37
import Derived.Test.YtpfcacedpkaihaaGreatC35
import Derived.Test.YtpfcacedpkaihaaGreatC21
import Derived.Test.YtpfcacedpkaihaaGreatC26
import Derived.Test.YtpfcacedpkaihaaGreatC25
namespace Go.Proofs.YtpfcacedpkaihaaGreat
open Go.RowKit
set_option maxRecDepth 100000
set_option maxHeartbeats 16000000
structure OpE where
 kd : Int
 a : Int
 b : Int
 c : Int
 s : ByteArray
 ao : Option Addr
 n : Nat
 cap : Nat
 ws : List (Int × Int)
structure OpOk (B : Nat) (w0 : World) (o : OpE) : Prop where
 wr : Wr w0 o.ao o.n o.ws
 reach : o.n * 16 ≤ 140737488351232
 nil : o.ao = none → o.n = 0 ∧ o.cap = 0
 low : 0 < o.n → ∀ a, o.ao = some a → a.block < B
 vals : BdW o.ws
 str : o.s.size ≤ maxLen
 a0 : -9223372036854775808 ≤ o.a
 a1 : o.a ≤ 9223372036854775807
def opC (o : OpE) : List Value := [.int .i64 o.kd, .int .i64 o.a, .int .i64 o.b, .int .i64 o.c, .string o.s, .slice o.ao o.n o.cap]
theorem pair_at (l : List PairE) (j : Nat) (hj : j < l.length) (f : Nat) (hf : f < 2) : (l.flatMap pairC)[j * 2 + f]? = (pairC l[j])[f]? := flat_at pairC 2 (fun _ => rfl) l j hj f hf
theorem boxes_two (w : World) (o : Obj) (a b : Array Value) (T U : TypeId) (h : o = .cells a T) : Blk (((w.alloc o).alloc (.cells b U)).drew) w.heap.size T a ∧ Blk (((w.alloc o).alloc (.cells b U)).drew) (w.heap.size + 1) U b := by
 subst h
 refine ⟨Blk.same ((Blk.new w T a).kept (Kept.alloc _ (.cells b U) (fun _ => False)) id) rfl, ?_⟩
 have := Blk.new (w.alloc (.cells a T)) U b
 simp only [World.size_alloc] at this
 exact this.same rfl
theorem lstep_new {B : Nat} {X : Nat → Prop} {w0 w : World} {pb : Nat} {ps : List PairE} {vps b0 b1 b2 : Value} {commits most : Int} (h : Inv B X w0 w pb ps vps b0 b1 b2 commits most) (a b c : Int) (s : ByteArray) (ao : Option Addr) (n cap : Nat) (hm : (ps.length + 1) * 16 ≤ 140737488355328) :
 Calls Tryz.prog 9 #[.pointer (some ⟨pb, 0, none⟩), .agg #[.int .i64 1, .int .i64 a, .int .i64 b, .int .i64 c, .string s, .slice ao n cap]] w fun e w' => SPost B X w0 w pb ps b0 b1 b2 commits most e w' := by
 have H0 : Hid (∀ W, Kept (fun _ => False) w W → Calls Tryz.prog 11 #[.pointer (some ⟨pb, 0, none⟩), .agg #[.int .i64 1, .int .i64 a, .int .i64 b, .int .i64 c, .string s, .slice ao n cap]] W fun e w' => e = .returned (.bool true) ∧ Hid (SPost B X w0 w pb ps b0 b1 b2 commits most (.returned (.bool true)) w')) :=
  fun W hk => (lopened W pb 1 a b c s ao n cap vps b0 b1 b2 commits most ps.length (ps.flatMap pairC) (h.kept hk).blk (h.kept hk).row hm).mono fun e w' hp => by
   have e1 := hp.1
   subst e1
   exact ⟨rfl, (SPost.of_open (h.kept hk) hp).from hk⟩
 clear h hm
 go_enter Tryz.func9, Tryz.ntmps9
 go_wp2_with (go_at_call 11; refine (H0.out _ (Kept.alloc _ _ _)).mono ?_; rintro e w1 ⟨rfl, hs⟩)
 go_ret
 exact hs.out
theorem lstep_none {B : Nat} {X : Nat → Prop} {w0 w : World} {pb : Nat} {ps : List PairE} {vps b0 b1 b2 : Value} {commits most : Int} (h : Inv B X w0 w pb ps vps b0 b1 b2 commits most) (kd a b c : Int) (s : ByteArray) (ao : Option Addr) (n cap : Nat) (hps : ps.length = 0) (h2 : 2 ≤ kd) (h18 : kd ≤ 18) :
 Calls Tryz.prog 9 #[.pointer (some ⟨pb, 0, none⟩), .agg #[.int .i64 kd, .int .i64 a, .int .i64 b, .int .i64 c, .string s, .slice ao n cap]] w fun e w' => SPost B X w0 w pb ps b0 b1 b2 commits most e w' := by
 have hk1 : (kd == 1) = false := beq_eq_false_iff_ne.mpr (by omega)
 have hk19 : (kd == 19) = false := beq_eq_false_iff_ne.mpr (by omega)
 obtain ⟨av, cv, hv, _⟩ := h.row.form
 rw [hps] at hv
 have c0 : w.cell? ⟨pb, 0, none⟩ = some vps := h.blk.cell 0
 rw [hv] at c0
 have hpl := h.blk.lt
 have HI : Hid (Inv B X w0 w pb ps vps b0 b1 b2 commits most) := h
 clear h hv
 go_enter Tryz.func9, Tryz.ntmps9
 go_wp2
 go_ret
 exact ⟨rfl, Kept.alloc _ _ _, ps, vps, commits, HI.out.kept (Kept.alloc _ _ _), by omega, .inl rfl, fun M hM p hp => Nat.le_succ_of_le (hM p hp)⟩
theorem lstep_reader {B : Nat} {X : Nat → Prop} {w0 w : World} {pb : Nat} {ps : List PairE} {vps b0 b1 b2 : Value} {commits most : Int} (h : Inv B X w0 w pb ps vps b0 b1 b2 commits most) (kd a b c : Int) (s : ByteArray) (ao : Option Addr) (n cap : Nat) (hps : 0 < ps.length) (hpm : ps.length ≤ 4611686018427387904) (h2 : 3 ≤ kd) (h7 : kd ≤ 7) (ha0 : -9223372036854775808 ≤ a) (ha1 : a ≤ 9223372036854775807)
 (hrd : ∀ W xb cb D R, (∃ p ∈ ps, R = p.R) → Pair W xb cb D R → Calls Tryz.prog 15 #[.pointer (some ⟨pb, 0, none⟩), .agg #[.pointer (some ⟨xb, 0, none⟩), .pointer (some ⟨cb, 0, none⟩)], .agg #[.int .i64 kd, .int .i64 a, .int .i64 b, .int .i64 c, .string s, .slice ao n cap]] W fun e w' => StepPost W xb cb D R e w') :
 Calls Tryz.prog 9 #[.pointer (some ⟨pb, 0, none⟩), .agg #[.int .i64 kd, .int .i64 a, .int .i64 b, .int .i64 c, .string s, .slice ao n cap]] w fun e w' => SPost B X w0 w pb ps b0 b1 b2 commits most e w' := by
 have hk1 : (kd == 1) = false := beq_eq_false_iff_ne.mpr (by omega)
 have hk2 : (kd == 2) = false := beq_eq_false_iff_ne.mpr (by omega)
 have hk19 : (kd == 19) = false := beq_eq_false_iff_ne.mpr (by omega)
 obtain ⟨g, cv, hv, hog, hgl⟩ := h.row.block hps
 have c0 : w.cell? ⟨pb, 0, none⟩ = some vps := h.blk.cell 0
 rw [hv] at c0
 have hpl := h.blk.lt
 obtain ⟨m, hm⟩ : ∃ m, m = ps.length := ⟨_, rfl⟩
 obtain ⟨j, hj⟩ : ∃ j, j = pickN a m := ⟨_, rfl⟩
 have hjm : j < m := by rw [hj]; exact pickN_lt a (by omega)
 have HPK : Hid (∀ W, Calls Tryz.prog 13 #[.int .i64 a, .int .i64 m] W fun e w' => e = .returned (.int .i64 (j : Int)) ∧ W = w') := fun W => by rw [hj]; exact rpick W a m ha0 ha1 (by omega) (by omega)
 have hjp : j < ps.length := by omega
 obtain ⟨p, hp⟩ : ∃ p, p = ps[j] := ⟨_, rfl⟩
 have hget : ps[j]? = some p := by rw [hp]; exact List.getElem?_eq_getElem hjp
 have q0 := h.row.cell hog (j * 2) _ (by have := pair_at ps j hjp 0 (by omega); rw [Nat.add_zero] at this; rw [this]; rfl)
 have q1 := h.row.cell hog (j * 2 + 1) _ (by rw [pair_at ps j hjp 1 (by omega)]; rfl)
 rw [← hp] at q0 q1
 rw [← hm] at c0
 have hmz : ((m : Int) == 0) = false := beq_eq_false_iff_ne.mpr (by omega)
 have HRD : Hid (∀ W, Kept (fun _ => False) w W → Calls Tryz.prog 15 #[.pointer (some ⟨pb, 0, none⟩), .agg #[.pointer (some ⟨p.xb, 0, none⟩), .pointer (some ⟨p.cb, 0, none⟩)], .agg #[.int .i64 kd, .int .i64 a, .int .i64 b, .int .i64 c, .string s, .slice ao n cap]] W fun e w' => e = .returned (.bool true) ∧ Hid (SPost B X w0 w pb ps b0 b1 b2 commits most (.returned (.bool true)) w')) :=
  fun W hk => (hrd W p.xb p.cb p.D p.R ⟨p, List.mem_of_getElem? hget, rfl⟩ (((h.each p (List.mem_of_getElem? hget))).kept hk fun _ _ => id)).mono fun e w' hp => ⟨hp.1, (SPost.of_turned (h.kept hk) hget hp.2).from hk⟩
 have hm1 : m ≤ 4611686018427387904 := by omega
 have hm0 : 0 < m := by omega
 generalize p.xb = xb at *
 generalize p.cb = cb at *
 clear hrd h hv hog hj hp hget hm hps hpm hjp
 go_enter Tryz.func9, Tryz.ntmps9
 go_wp2_with fail
 go_cut [5] (fun pp wx => pp = .pointer (some ⟨w.heap.size + 1, 0, none⟩) ∧ Hid (Kept (fun _ => False) w wx ∧ Blk wx w.heap.size 37 #[.int .i64 kd, .int .i64 a, .int .i64 b, .int .i64 c, .string s, .slice ao n cap] ∧ Blk wx (w.heap.size + 1) 44 #[.pointer (some ⟨xb, 0, none⟩), .pointer (some ⟨cb, 0, none⟩)]))
 case first =>
  go_region_held3 (fun w' => w'.cell? ⟨pb, 0, none⟩ = some (.slice (some ⟨g, 0, none⟩) m cv) ∧ w'.cell? ⟨w.heap.size, 1, none⟩ = some (.int .i64 a) ∧ w'.cell? ⟨g, j * 2, none⟩ = some (.pointer (some ⟨xb, 0, none⟩)) ∧ w'.cell? ⟨g, j * 2 + 1, none⟩ = some (.pointer (some ⟨cb, 0, none⟩))) (go_keep) ((go_at_call 13; refine (HPK.out _).mono ?_; rintro e w' ⟨rfl, rfl⟩))
  all_goals
   go_wp2
   go_meet
   case rel => exact ⟨rfl, ((Kept.alloc w _ (fun _ => False)).allocNew _).drew, boxes_two w _ _ _ _ _ rfl⟩
 case rest =>
  obtain ⟨rfl, HC⟩ := hcut
  have d0 : wc.cell? ⟨w.heap.size, 0, none⟩ = some (.int .i64 kd) := HC.out.2.1.cell 0
  have d1 : wc.cell? ⟨w.heap.size, 1, none⟩ = some (.int .i64 a) := HC.out.2.1.cell 1
  have d2 : wc.cell? ⟨w.heap.size, 2, none⟩ = some (.int .i64 b) := HC.out.2.1.cell 2
  have d3 : wc.cell? ⟨w.heap.size, 3, none⟩ = some (.int .i64 c) := HC.out.2.1.cell 3
  have d4 : wc.cell? ⟨w.heap.size, 4, none⟩ = some (.string s) := HC.out.2.1.cell 4
  have d5 : wc.cell? ⟨w.heap.size, 5, none⟩ = some (.slice ao n cap) := HC.out.2.1.cell 5
  have e0 : wc.cell? ⟨w.heap.size + 1, 0, none⟩ = some (.pointer (some ⟨xb, 0, none⟩)) := HC.out.2.2.cell 0
  have e1 : wc.cell? ⟨w.heap.size + 1, 1, none⟩ = some (.pointer (some ⟨cb, 0, none⟩)) := HC.out.2.2.cell 1
  clear c0 q0 q1
  go_wp2_with (go_at_call 15; refine (HRD.out _ HC.out.1).mono ?_; rintro e w1 ⟨rfl, hs⟩)
  go_ret
  exact hs.out
theorem lstep_commit {B : Nat} {X : Nat → Prop} {w0 w : World} {pb : Nat} {ps : List PairE} {vps b0 b1 b2 : Value} {commits most : Int} (h : Inv B X w0 w pb ps vps b0 b1 b2 commits most) (a b c : Int) (s : ByteArray) (ao : Option Addr) (n cap : Nat) (hps : 0 < ps.length) (hpm : ps.length ≤ 4611686018427387904) (ha0 : -9223372036854775808 ≤ a) (ha1 : a ≤ 9223372036854775807)
 (hus : ∀ p ∈ ps, p.R.uses.length < 9223372036854775807) (ws : List (Int × Int)) (hc0 : 0 ≤ commits) (hc1 : commits ≤ 4611686018427387904) (hw : Wr w ao n ws) (hreach : n * 16 ≤ 140737488351232) (hno : ao = none → n = 0 ∧ cap = 0) (hlow : 0 < n → ∀ a, ao = some a → a.block < B) (hwb : BdW ws) :
 Calls Tryz.prog 9 #[.pointer (some ⟨pb, 0, none⟩), .agg #[.int .i64 2, .int .i64 a, .int .i64 b, .int .i64 c, .string s, .slice ao n cap]] w fun e w' => SPost B X w0 w pb ps b0 b1 b2 commits most e w' := by
 obtain ⟨g, cv, hv, hog, hgl⟩ := h.row.block hps
 have c0 : w.cell? ⟨pb, 0, none⟩ = some vps := h.blk.cell 0
 rw [hv] at c0
 have hpl := h.blk.lt
 obtain ⟨m, hm⟩ : ∃ m, m = ps.length := ⟨_, rfl⟩
 obtain ⟨j, hj⟩ : ∃ j, j = pickN a m := ⟨_, rfl⟩
 have hjm : j < m := by rw [hj]; exact pickN_lt a (by omega)
 have HPK : Hid (∀ W, Calls Tryz.prog 13 #[.int .i64 a, .int .i64 m] W fun e w' => e = .returned (.int .i64 (j : Int)) ∧ W = w') := fun W => by rw [hj]; exact rpick W a m ha0 ha1 (by omega) (by omega)
 have hjp : j < ps.length := by omega
 obtain ⟨p, hp⟩ : ∃ p, p = ps[j] := ⟨_, rfl⟩
 have hget : ps[j]? = some p := by rw [hp]; exact List.getElem?_eq_getElem hjp
 have q0 := h.row.cell hog (j * 2) _ (by have := pair_at ps j hjp 0 (by omega); rw [Nat.add_zero] at this; rw [this]; rfl)
 have q1 := h.row.cell hog (j * 2 + 1) _ (by rw [pair_at ps j hjp 1 (by omega)]; rfl)
 rw [← hp] at q0 q1
 rw [← hm] at c0
 have hmz : ((m : Int) == 0) = false := beq_eq_false_iff_ne.mpr (by omega)
 have HRD : Hid (∀ W, Kept (fun _ => False) w W → Calls Tryz.prog 14 #[.pointer (some ⟨pb, 0, none⟩), .agg #[.pointer (some ⟨p.xb, 0, none⟩), .pointer (some ⟨p.cb, 0, none⟩)], .agg #[.int .i64 2, .int .i64 a, .int .i64 b, .int .i64 c, .string s, .slice ao n cap]] W fun e w' => e = .returned (.bool true) ∧ Hid (SPost B X w0 w pb ps b0 b1 b2 commits most (.returned (.bool true)) w')) :=
  fun W hk => (lcommit W pb p.xb p.cb a b c s ao n cap ws p.D p.R vps b0 b1 b2 commits most ((h.each p (List.mem_of_getElem? hget)).kept hk fun _ _ => id) (hus p (List.mem_of_getElem? hget)) (h.kept hk).blk (fun hf => (h.own p (List.mem_of_getElem? hget) pb hf).2.1 rfl) hc0 hc1 (hw.kept hk fun _ _ => id) hreach hno (fun hn x hx => by
   have hl := hlow hn x hx
   have hB := h.pB.1
   have hs := hk.size
   have hz := Nat.le_trans h.bsz h.below.size
   exact ⟨fun hf => by have := (h.own p (List.mem_of_getElem? hget) _ hf).1; omega, by omega, by omega⟩) hwb).mono fun e w' hp => by
    have e1 := hp.1
    subst e1
    exact ⟨rfl, (SPost.of_commit (h.kept hk) hget hp).from hk⟩
 have hm1 : m ≤ 4611686018427387904 := by omega
 have hm0 : 0 < m := by omega
 generalize p.xb = xb at *
 generalize p.cb = cb at *
 clear h hus hv hog hj hp hget hm hps hpm hjp hw hlow hno hreach
 go_enter Tryz.func9, Tryz.ntmps9
 go_wp2_with fail
 go_cut [5] (fun pp wx => pp = .pointer (some ⟨w.heap.size + 1, 0, none⟩) ∧ Hid (Kept (fun _ => False) w wx ∧ Blk wx w.heap.size 37 #[.int .i64 2, .int .i64 a, .int .i64 b, .int .i64 c, .string s, .slice ao n cap] ∧ Blk wx (w.heap.size + 1) 44 #[.pointer (some ⟨xb, 0, none⟩), .pointer (some ⟨cb, 0, none⟩)]))
 case first =>
  go_region_held3 (fun w' => w'.cell? ⟨pb, 0, none⟩ = some (.slice (some ⟨g, 0, none⟩) m cv) ∧ w'.cell? ⟨w.heap.size, 1, none⟩ = some (.int .i64 a) ∧ w'.cell? ⟨g, j * 2, none⟩ = some (.pointer (some ⟨xb, 0, none⟩)) ∧ w'.cell? ⟨g, j * 2 + 1, none⟩ = some (.pointer (some ⟨cb, 0, none⟩))) (go_keep) ((go_at_call 13; refine (HPK.out _).mono ?_; rintro e w' ⟨rfl, rfl⟩))
  all_goals
   go_wp2
   go_meet
   case rel => exact ⟨rfl, ((Kept.alloc w _ (fun _ => False)).allocNew _).drew, boxes_two w _ _ _ _ _ rfl⟩
 case rest =>
  obtain ⟨rfl, HC⟩ := hcut
  have d0 : wc.cell? ⟨w.heap.size, 0, none⟩ = some (.int .i64 2) := HC.out.2.1.cell 0
  have d1 : wc.cell? ⟨w.heap.size, 1, none⟩ = some (.int .i64 a) := HC.out.2.1.cell 1
  have d2 : wc.cell? ⟨w.heap.size, 2, none⟩ = some (.int .i64 b) := HC.out.2.1.cell 2
  have d3 : wc.cell? ⟨w.heap.size, 3, none⟩ = some (.int .i64 c) := HC.out.2.1.cell 3
  have d4 : wc.cell? ⟨w.heap.size, 4, none⟩ = some (.string s) := HC.out.2.1.cell 4
  have d5 : wc.cell? ⟨w.heap.size, 5, none⟩ = some (.slice ao n cap) := HC.out.2.1.cell 5
  have e0 : wc.cell? ⟨w.heap.size + 1, 0, none⟩ = some (.pointer (some ⟨xb, 0, none⟩)) := HC.out.2.2.cell 0
  have e1 : wc.cell? ⟨w.heap.size + 1, 1, none⟩ = some (.pointer (some ⟨cb, 0, none⟩)) := HC.out.2.2.cell 1
  clear c0 q0 q1
  go_wp2_with (go_at_call 14; refine (HRD.out _ HC.out.1).mono ?_; rintro e w1 ⟨rfl, hs⟩)
  go_ret
  exact hs.out
theorem Wr.below {B : Nat} {w w' : World} {ao : Option Addr} {n : Nat} {ws : List (Int × Int)} (h : Wr w ao n ws) (hb : Below B w w') (hlow : 0 < n → ∀ a, ao = some a → a.block < B) : Wr w' ao n ws := by
 refine ⟨h.len, fun j hj => ?_⟩
 obtain ⟨bl, off, e, c0, c1⟩ := h.cell j hj
 have hl := hlow (by have := h.len; omega) _ e
 exact ⟨bl, off, e, (World.cell?_of_block (a := ⟨bl, off + j * 2, none⟩) (hb.block bl hl)).trans c0, (World.cell?_of_block (a := ⟨bl, off + j * 2 + 1, none⟩) (hb.block bl hl)).trans c1⟩
theorem lstep_begins {B : Nat} {X : Nat → Prop} {w0 w : World} {pb : Nat} {ps : List PairE} {vps b0 b1 b2 : Value} {commits most : Int} (h : Inv B X w0 w pb ps vps b0 b1 b2 commits most) (o : OpE) (ho : OpOk B w0 o) (hk : o.kd = 1 ∨ o.kd = 2 ∨ o.kd = 3 ∨ o.kd = 4 ∨ o.kd = 5 ∨ o.kd = 6)
 (hm : (ps.length + 1) * 16 ≤ 140737488355328) (hc0 : 0 ≤ commits) (hc1 : commits ≤ 4611686018427387904) (hus : ∀ p ∈ ps, p.R.uses.length < 9223372036854775807) :
 Calls Tryz.prog 9 #[.pointer (some ⟨pb, 0, none⟩), .agg #[.int .i64 o.kd, .int .i64 o.a, .int .i64 o.b, .int .i64 o.c, .string o.s, .slice o.ao o.n o.cap]] w fun e w' => SPost B X w0 w pb ps b0 b1 b2 commits most e w' := by
 by_cases h1 : o.kd = 1
 · rw [h1]; exact lstep_new h o.a o.b o.c o.s o.ao o.n o.cap hm
 · by_cases hps : ps.length = 0
   · exact lstep_none h o.kd o.a o.b o.c o.s o.ao o.n o.cap hps (by omega) (by omega)
   · have hp0 : 0 < ps.length := by omega
     have hpm : ps.length ≤ 4611686018427387904 := by omega
     by_cases h2 : o.kd = 2
     · rw [h2]; exact lstep_commit h o.a o.b o.c o.s o.ao o.n o.cap hp0 hpm ho.a0 ho.a1 hus o.ws hc0 hc1 (ho.wr.below h.below ho.low) ho.reach ho.nil ho.low ho.vals
     · refine lstep_reader h o.kd o.a o.b o.c o.s o.ao o.n o.cap hp0 hpm (by omega) (by omega) ho.a0 ho.a1 fun W xb cb D R _ hp => ?_
       have h36 : o.kd = 3 ∨ o.kd = 4 ∨ o.kd = 5 ∨ o.kd = 6 := by omega
       rcases h36 with e | e | e | e
       · rw [e]; exact lreader_tick W pb xb cb _ _ _ _ _ _ _ D R hp
       · rw [e]; exact lreader_now W pb xb cb _ _ _ _ _ _ _ D R hp
       · rw [e]; exact lreader_begin W pb xb cb _ _ _ _ _ _ _ D R hp
       · rw [e]; exact lreader_end W pb xb cb _ _ _ _ _ _ _ D R hp
structure Sc (w : World) (ao : Option Addr) (n : Nat) (os : List OpE) : Prop where
 len : os.length = n
 cell : ∀ j (h : j < os.length), ∃ bl off, ao = some ⟨bl, off, none⟩ ∧ bl < w.heap.size ∧ ∀ f, f < 6 → w.cell? ⟨bl, off + j * 6 + f, none⟩ = (opC os[j])[f]?
def Ks (w : World) (kb : Nat) (ks : List Int) : Prop := kb < w.heap.size ∧ ∀ j (h : j < ks.length), w.cell? ⟨kb, j, none⟩ = some (.int .i64 ks[j])
theorem below_cell {B : Nat} {w w' : World} (h : Below B w w') {a : Addr} (hb : a.block < B) : w'.cell? a = w.cell? a := World.cell?_of_block (h.block a.block hb)
def PlaysPost (n : Nat) (I : Nat → World → Prop) (e : Ending) (w' : World) : Prop := e = .returned (.bool true) ∧ I n w'
theorem any_snoc (ks : List Int) (k : Int) (t : Nat) (h : t < ks.length) : (ks.take (t + 1)).any (fun x => k == x) = ((ks.take t).any (fun x => k == x) || (k == ks[t])) := by
 rw [List.take_succ_eq_append_getElem h, List.any_append]; simp
theorem lplays (w0 : World) (ao : Option Addr) (n cap kb kcap : Nat) (os : List OpE) (ks : List Int) (most : Int) (I J : Nat → World → Prop) (hsc : Sc w0 ao n os) (hks : Ks w0 kb ks) (hn : n ≤ 4611686018427387904) (hkn : ks.length ≤ 100)
 (hbelow : ∀ k W, I k W → Below w0.heap.size w0 W)
 (h0 : I 0 (w0.alloc (.cells (playC nilV nilV nilV nilV 0 most) 34)))
 (hkeep : ∀ k W W', I k W → Kept (fun _ => False) W W' → I k W')
 (hskip : ∀ k W, I k W → I (k + 1) W)
 (hstep : ∀ k W (hk : k < os.length), I k W → ks.any (fun x => os[k].kd == x) = true → Calls Tryz.prog 9 #[.pointer (some ⟨w0.heap.size, 0, none⟩), .agg #[.int .i64 os[k].kd, .int .i64 os[k].a, .int .i64 os[k].b, .int .i64 os[k].c, .string os[k].s, .slice os[k].ao os[k].n os[k].cap]] W fun e w' => e = .returned (.bool true) ∧ J k w')
 (hwhole : ∀ k W, k < os.length → J k W → Calls Tryz.prog 10 #[.pointer (some ⟨w0.heap.size, 1, none⟩)] W fun e w' => e = .returned (.bool true) ∧ I (k + 1) w') :
 Calls Tryz.prog 8 #[.slice ao n cap, .slice (some ⟨kb, 0, none⟩) ks.length kcap, .int .i64 most] w0 fun e w' => PlaysPost n I e w' := by
 have hl := hsc.len
 have HSC : Hid (Sc w0 ao n os) := hsc
 have HKS : Hid (Ks w0 kb ks) := hks
 have HBE : Hid (∀ k W, I k W → Below w0.heap.size w0 W) := hbelow
 have H0 : Hid (I 0 (w0.alloc (.cells (playC nilV nilV nilV nilV 0 most) 34))) := h0
 have HKE : Hid (∀ k W W', I k W → Kept (fun _ => False) W W' → I k W') := hkeep
 have HSK : Hid (∀ k W, I k W → I (k + 1) W) := hskip
 have HST : Hid (∀ k W (hk : k < os.length), I k W → ks.any (fun x => os[k].kd == x) = true → Calls Tryz.prog 9 #[.pointer (some ⟨w0.heap.size, 0, none⟩), .agg #[.int .i64 os[k].kd, .int .i64 os[k].a, .int .i64 os[k].b, .int .i64 os[k].c, .string os[k].s, .slice os[k].ao os[k].n os[k].cap]] W fun e w' => e = .returned (.bool true) ∧ Hid (J k w')) := hstep
 have HWH : Hid (∀ k W, k < os.length → J k W → Calls Tryz.prog 10 #[.pointer (some ⟨w0.heap.size, 1, none⟩)] W fun e w' => e = .returned (.bool true) ∧ Hid (I (k + 1) w')) := hwhole
 clear hsc hks hbelow h0 hkeep hskip hstep hwhole
 go_enter Tryz.func8, Tryz.ntmps8
 go_wp2
 go_loopw [8] (fun i wr => ∃ k : Nat, k ≤ n ∧ i = .int .i64 k ∧ Hid (I k wr)) (fun i _ => n - (intOf i).toNat)
 case atStart => exact ⟨0, Nat.zero_le _, rfl, H0⟩
 case round =>
  obtain ⟨k, hk, rfl, HI⟩ := hrel
  by_cases hlt : k < n
  · have hlt' : k < os.length := by omega
    obtain ⟨bl, off, hao, hbl, hcell⟩ := HSC.out.cell k hlt'
    obtain ⟨o, ho⟩ : ∃ o, o = os[k] := ⟨_, rfl⟩
    rw [← ho] at hcell
    have HCELL : Hid (∀ W, Below w0.heap.size w0 W → ∀ f, f < 6 → W.cell? ⟨bl, off + k * 6 + f, none⟩ = (opC o)[f]?) := fun W hW f hf => (below_cell hW hbl).trans (hcell f hf)
    have HO : Hid (o = os[k]) := ho
    subst hao
    clear hcell ho
    go_wp2
    go_loopw [9, 10] (fun inn j wy => ∃ t : Nat, t ≤ ks.length ∧ j = .int .i64 t ∧ inn = .bool ((ks.take t).any (fun x => o.kd == x)) ∧ Hid (I k wy)) (fun _ j _ => ks.length - (intOf j).toNat)
    case atStart => exact ⟨0, Nat.zero_le _, rfl, rfl, HI⟩
    case round =>
     obtain ⟨t, ht, rfl, rfl, HI2⟩ := hrel
     have hB := HBE.out k wr HI2.out
     have s0 : wr.cell? ⟨bl, off + k * 6, none⟩ = some (.int .i64 o.kd) := HCELL.out wr hB 0 (by omega)
     by_cases hts : t < ks.length
     · have kc : wr.cell? ⟨kb, t, none⟩ = some (.int .i64 ks[t]) := (below_cell hB HKS.out.1).trans (HKS.out.2 t hts)
       have HAN : Hid ((ks.take (t + 1)).any (fun x => o.kd == x) = ((ks.take t).any (fun x => o.kd == x) || (o.kd == ks[t]))) := any_snoc ks o.kd t hts
       generalize ks[t] = kt at *
       generalize hin : (ks.take t).any (fun x => o.kd == x) = inn at *
       clear hB hin
       cases inn with
       | true =>
        clear s0 kc
        go_wp2_with fail
        go_quiet (fail)
        go_wp2
        go_roundw
        case rel => exact ⟨t + 1, by omega, by go_num, by rw [HAN.out, Bool.true_or], HKE.out _ _ _ HI2.out ((Kept.refl _ _).drewN _)⟩
        case measure => simp [intOf]; omega
       | false =>
        cases hkt : (o.kd == kt) with
        | true =>
         rw [hkt] at HAN
         go_wp2_with fail
         go_quiet (fail)
         go_wp2
         go_roundw
         case rel => exact ⟨t + 1, by omega, by go_num, by rw [HAN.out]; rfl, HKE.out _ _ _ HI2.out ((Kept.refl _ _).drewN _)⟩
         case measure => simp [intOf]; omega
        | false =>
         rw [hkt] at HAN
         go_wp2_with fail
         go_quiet (fail)
         go_wp2
         go_roundw
         case rel => exact ⟨t + 1, by omega, by go_num, by rw [HAN.out]; rfl, HKE.out _ _ _ HI2.out ((Kept.refl _ _).drewN _)⟩
         case measure => simp [intOf]; omega
     · have htt : t = ks.length := by omega
       subst htt
       rw [List.take_length]
       generalize hin : ks.any (fun x => o.kd == x) = inn
       cases inn with
       | false =>
        clear hB s0
        go_wp2
        go_roundw
        case rel => exact ⟨k + 1, by omega, by go_num, HSK.out _ _ HI2.out⟩
        case measure => simp [intOf]; omega
       | true =>
        have s1 : wr.cell? ⟨bl, off + k * 6 + 1, none⟩ = some (.int .i64 o.a) := HCELL.out wr hB 1 (by omega)
        have s2 : wr.cell? ⟨bl, off + k * 6 + 2, none⟩ = some (.int .i64 o.b) := HCELL.out wr hB 2 (by omega)
        have s3 : wr.cell? ⟨bl, off + k * 6 + 3, none⟩ = some (.int .i64 o.c) := HCELL.out wr hB 3 (by omega)
        have s4 : wr.cell? ⟨bl, off + k * 6 + 4, none⟩ = some (.string o.s) := HCELL.out wr hB 4 (by omega)
        have s5 : wr.cell? ⟨bl, off + k * 6 + 5, none⟩ = some (.slice o.ao o.n o.cap) := HCELL.out wr hB 5 (by omega)
        have HS2 : Hid (Calls Tryz.prog 9 #[.pointer (some ⟨w0.heap.size, 0, none⟩), .agg #[.int .i64 o.kd, .int .i64 o.a, .int .i64 o.b, .int .i64 o.c, .string o.s, .slice o.ao o.n o.cap]] wr fun e w' => e = .returned (.bool true) ∧ Hid (J k w')) := by
         have := HST.out k wr hlt' HI2.out (by rw [← HO.out]; exact hin)
         rw [← HO.out] at this
         exact this
        clear hB hin
        go_wp2_with first
         | (go_at_call 9; refine HS2.out.mono ?_; rintro e w1 ⟨rfl, hj1⟩)
         | (go_at_call 10; refine (HWH.out k w1 hlt' hj1.out).mono ?_; rintro e w2 ⟨rfl, hi2⟩)
        go_roundw
        case rel => exact ⟨k + 1, by omega, by go_num, hi2⟩
        case measure => simp [intOf]; omega
  · have hkk : k = n := by omega
    subst hkk
    go_wp2
    go_ret
    exact ⟨rfl, HI.out⟩
theorem erase_at {α : Type} (l : List α) (i p : Nat) : (l.eraseIdx i)[p]? = l[if p < i then p else p + 1]? := by
 rw [List.getElem?_eraseIdx]
 split <;> rfl
theorem map_erase {α β : Type} (f : α → β) (l : List α) (i : Nat) : (l.eraseIdx i).map f = (l.map f).eraseIdx i := by
 refine List.ext_getElem? fun p => ?_
 rw [List.getElem?_map, erase_at, erase_at, List.getElem?_map]
theorem NSim.remove {l : List PastE} {us : List Int} {s : NodeP} {n : RNode} (h : NSim l us s n) (i : Nat) : NSim l us (s.remove i) { n with ents := n.ents.eraseIdx i, nms := n.nms.eraseIdx i } := by
 refine ⟨h.up, h.hz, h.since, ?_, h.fls, h.flk, h.wts, h.wtk, h.hist, h.top, ?_, fun x hx => h.used x (List.mem_of_mem_eraseIdx hx), fun p q x y a b hx hy ha hb => ?_⟩
 · show n.ents.eraseIdx i = (s.ents.eraseIdx i).map (·.e)
   rw [map_erase, h.ents]
 · show (n.nms.eraseIdx i).length = (s.ents.eraseIdx i).length
   have := h.nml
   rw [List.length_eraseIdx, List.length_eraseIdx, this]
 · have hx' : (s.ents.eraseIdx i)[p]? = some x := hx
   have hy' : (s.ents.eraseIdx i)[q]? = some y := hy
   have ha' : (n.nms.eraseIdx i)[p]? = some a := ha
   have hb' : (n.nms.eraseIdx i)[q]? = some b := hb
   rw [erase_at] at hx' hy' ha' hb'
   exact h.order _ _ x y a b hx' hy' ha' hb'
def firstT (l : List PastE) (K : Int) (a : Nat) : Nat → Option Nat
 | 0 => none
 | m + 1 => if touchB l K a then some a else firstT l K (a + 1) m
theorem firstT_snoc (l : List PastE) (K : Int) : ∀ (m a : Nat), firstT l K a (m + 1) = match firstT l K a m with
  | some s => some s
  | none => if touchB l K (a + m) then some (a + m) else none
 | 0, a => by simp [firstT]
 | m + 1, a => by
  rw [firstT, firstT_snoc l K m (a + 1)]
  conv => rhs; rw [firstT]
  by_cases h : touchB l K a = true
  · rw [if_pos h, if_pos h]
  · rw [if_neg h, if_neg h, show a + 1 + m = a + (m + 1) by omega]
def endE (e : EntE) : Option Nat → EntE
 | some s => { e with op := false, till := s }
 | none => e
def lateGo (l : List PastE) (K : Int) (since hz kn : Nat) : Nat → EntE → Option EntE
 | 0, e => some e
 | m + 1, e => if since < kn + m + 1 ∧ hz < kn + m + 1 + 6 then lateGo l K since hz kn m (if touchB l K (kn + m + 1) then { e with op := false, till := kn + m + 1 } else e) else none
def lateE (l : List PastE) (since hz : Nat) (e : EntE) : Option EntE :=
 if e.op = false ∨ hz ≤ e.kn then some e else (lateGo l (keysQ e.q) since hz e.kn (hz - e.kn) e).map fun y => if y.op then { y with kn := hz } else y
theorem lateGo_all {l : List PastE} {K : Int} {since hz kn : Nat} : ∀ (m : Nat) (e : EntE), (∀ t, kn < t → t ≤ kn + m → since < t ∧ hz < t + 6) → lateGo l K since hz kn m e = some (endE e (firstT l K (kn + 1) m))
 | 0, e, _ => rfl
 | m + 1, e, h => by
  rw [lateGo, if_pos (h (kn + m + 1) (by omega) (by omega)), lateGo_all m _ fun t h1 h2 => h t h1 (by omega), firstT_snoc, show kn + 1 + m = kn + m + 1 by omega]
  cases firstT l K (kn + 1) m with
  | some s =>
   by_cases ht : touchB l K (kn + m + 1) = true
   · rw [if_pos ht]; rfl
   · rw [if_neg ht]
  | none =>
   by_cases ht : touchB l K (kn + m + 1) = true
   · rw [if_pos ht, if_pos ht]; rfl
   · rw [if_neg ht, if_neg ht]
theorem lateGo_no {l : List PastE} {K : Int} {since hz kn : Nat} : ∀ (m : Nat) (e : EntE), 0 < m → ¬ (since < kn + 1 ∧ hz < kn + 1 + 6) → lateGo l K since hz kn m e = none
 | 0, e, h, _ => by omega
 | m + 1, e, _, h => by
  rw [lateGo]
  split
  · by_cases hm : m = 0
    · subst hm
      rename_i hc
      exact absurd hc h
    · exact lateGo_no m _ (by omega) h
  · rfl
theorem wroteL_hist (l : List PastE) (a b t : Nat) : wroteL (histL l a b) t = if max a (b - 6) < t ∧ t ≤ b then some (keysP l t) else none := by
 unfold wroteL histL
 rw [List.find?_map]
 have hf : (List.range' (max a (b - 6) + 1) (b - max a (b - 6))).find? ((fun c : Nat × Int => decide (c.1 = t)) ∘ fun t => (t, keysP l t)) = if max a (b - 6) < t ∧ t ≤ b then some t else none := by
  split
  · rename_i hc
    have hm : t ∈ List.range' (max a (b - 6) + 1) (b - max a (b - 6)) := by
     rw [List.mem_range']
     exact ⟨t - (max a (b - 6) + 1), by omega, by omega⟩
    cases hh : (List.range' (max a (b - 6) + 1) (b - max a (b - 6))).find? ((fun c : Nat × Int => decide (c.1 = t)) ∘ fun t => (t, keysP l t)) with
    | none =>
     rw [List.find?_eq_none] at hh
     exact absurd (by simp) (hh t hm)
    | some x =>
     have := List.find?_some hh
     have : x = t := by simpa using this
     rw [this]
  · rename_i hc
    rw [List.find?_eq_none]
    intro x hx
    rw [List.mem_range'] at hx
    obtain ⟨i, hi, rfl⟩ := hx
    simp
    omega
 rw [hf]
 split <;> rfl
theorem caughtGo_all {l : List PastE} {L : List (Nat × Int)} {K : Int} : ∀ (m t : Nat) (e : EntE), (∀ s, t ≤ s → s < t + m → s < l.length ∧ wroteL L s = some (keysP l s)) → NodeP.caughtGo L K m t e = some (if e.op then endE e (firstT l K t m) else e)
 | 0, t, e, _ => by cases h : e.op <;> simp [NodeP.caughtGo, firstT, endE]
 | m + 1, t, e, h => by
  obtain ⟨h1, h2⟩ := h t (Nat.le_refl _) (by omega)
  rw [NodeP.caughtGo, h2]
  dsimp only
  rw [caughtGo_all m (t + 1) _ fun s h3 h4 => h s (by omega) (by omega)]
  obtain ⟨p, hp⟩ : ∃ p, l[t]? = some p := ⟨_, List.getElem?_eq_getElem h1⟩
  have ht : (bits .and .u8 (keysP l t) K != 0) = touchB l K t := by
   rw [touchB_some _ hp]
   unfold keysP
   rw [hp]; rfl
  rw [ht, firstT]
  obtain ⟨eq, ev, ef, et, eo, ek⟩ := e
  cases eo with
  | false => simp
  | true =>
   cases hb : touchB l K t with
   | true => simp [endE]
   | false => simp
theorem caughtGo_no {L : List (Nat × Int)} {K : Int} {m t : Nat} {e : EntE} (hm : 0 < m) (h : wroteL L t = none) : NodeP.caughtGo L K m t e = none := by
 match m with
 | m + 1 => rw [NodeP.caughtGo, h]
theorem NSim.caught {l : List PastE} {us : List Int} {s : NodeP} {n : RNode} (h : NSim l us s n) (e : EntE) : s.caught e = lateE l n.since n.horizon e := by
 have hhz := h.hz
 have htop := h.top
 unfold NodeP.caught lateE
 rw [hhz]
 by_cases hc : e.op = false ∨ s.horizon ≤ e.kn
 · rw [if_pos hc, if_pos hc]
 · rw [if_neg hc, if_neg hc]
   have ho : e.op = true := by cases hh : e.op with
    | true => rfl
    | false => exact absurd (.inl hh) hc
   have hlt : e.kn < s.horizon := by have := mt Or.inr hc; omega
   have hhist := h.hist
   rw [hhz] at hhist htop
   rw [hhist]
   by_cases hr : max n.since (s.horizon - 6) ≤ e.kn
   · rw [caughtGo_all (l := l) _ _ _ fun t h1 h2 => ⟨by omega, by rw [wroteL_hist, if_pos (by omega)]⟩, lateGo_all _ _ fun t h1 h2 => by omega, if_pos ho]
   · rw [caughtGo_no (by omega) (by rw [wroteL_hist, if_neg (by omega)]), lateGo_no _ _ (by omega) (by omega)]
theorem goes_least {l : List PastE} {us : List Int} {s : NodeP} {n : RNode} (h : NSim l us s n) : ∀ m, m ≤ s.ents.length →
  (0 ≤ bestC n.ents m → bestC n.ents m = (leastD s.ents m : Int) ∧ ∃ y, s.ents[leastD s.ents m]? = some y ∧ y.e.op = false) ∧
  (bestC n.ents m < 0 → (∀ i x, i < m → s.ents[i]? = some x → x.e.op = true) ∧ bestU us n.nms m = leastD s.ents m)
 | 0, _ => ⟨fun h => by simp [bestC] at h, fun _ => ⟨fun i x hi => by omega, rfl⟩⟩
 | m + 1, hm => by
  obtain ⟨ih1, ih2⟩ := goes_least h m (by omega)
  have hml : m < s.ents.length := hm
  obtain ⟨x, hx⟩ : ∃ x, s.ents[m]? = some x := ⟨_, List.getElem?_eq_getElem hml⟩
  have hex : n.ents[m]? = some x.e := by rw [h.ents, List.getElem?_map, hx]; rfl
  have hb : leastD s.ents m < s.ents.length := by rcases leastD_lt s.ents m with h1 | h1 <;> omega
  obtain ⟨y, hy⟩ : ∃ y, s.ents[leastD s.ents m]? = some y := ⟨_, List.getElem?_eq_getElem hb⟩
  have hey : n.ents[leastD s.ents m]? = some y.e := by rw [h.ents, List.getElem?_map, hy]; rfl
  have hnl := h.nml
  obtain ⟨a, ha⟩ : ∃ a, n.nms[m]? = some a := ⟨_, List.getElem?_eq_getElem (by omega)⟩
  obtain ⟨c, hc⟩ : ∃ c, n.nms[leastD s.ents m]? = some c := ⟨_, List.getElem?_eq_getElem (by omega)⟩
  have hL : leastD s.ents (m + 1) = if aheadB x y then m else leastD s.ents m := by
   rw [leastD, hx, hy]
  have hC : bestC n.ents (m + 1) = if x.e.op = false ∧ (bestC n.ents m < 0 ∨ ∃ y, n.ents[(bestC n.ents m).toNat]? = some y ∧ x.e.till < y.till) then (m : Int) else bestC n.ents m := by
   rw [bestC, hex]
  by_cases hneg : bestC n.ents m < 0
  · obtain ⟨i1, i2⟩ := ih2 hneg
    cases hxo : x.e.op with
    | false =>
     have hC' : bestC n.ents (m + 1) = (m : Int) := by rw [hC, if_pos ⟨hxo, .inl hneg⟩]
     have hL' : leastD s.ents (m + 1) = m := by
      by_cases hm0 : leastD s.ents m < m
      · have hyo := i1 _ y hm0 hy
        rw [hL, if_pos (by simp [aheadB, hxo, hyo])]
      · have h0 : leastD s.ents m = 0 := by rcases leastD_lt s.ents m with h1 | h1; exact h1; omega
        have hm1 : m = 0 := by omega
        rw [hL]
        split
        · rfl
        · omega
     refine ⟨fun _ => ⟨by rw [hC', hL'], x, by rw [hL']; exact hx, hxo⟩, fun hn => by rw [hC'] at hn; omega⟩
    | true =>
     have hC' : bestC n.ents (m + 1) = bestC n.ents m := by rw [hC, if_neg (by rw [hxo]; simp)]
     refine ⟨fun hn => by rw [hC'] at hn; omega, fun _ => ⟨fun i z hi hz => ?_, ?_⟩⟩
     · by_cases he : i = m
       · subst he
         rw [hx] at hz
         injection hz with hz
         subst hz
         exact hxo
       · exact i1 i z (by omega) hz
     · have hyo : y.e.op = true := by
        by_cases hm0 : leastD s.ents m < m
        · exact i1 _ y hm0 hy
        · have h0 : leastD s.ents m = m := by rcases leastD_lt s.ents m with h1 | h1 <;> omega
          rw [h0, hx] at hy
          injection hy with hy
          subst hy
          exact hxo
       have ho := h.order m (leastD s.ents m) x y a c hx hy ha hc
       unfold lastP at ho
       rw [bestU, i2, ha, hc, hL]
       dsimp only
       by_cases hlt : x.used < y.used
       · rw [if_pos (ho.mp hlt), if_pos (by simp [aheadB, hxo, hyo]; omega)]
       · rw [if_neg (fun hh => hlt (ho.mpr hh)), if_neg (by simp [aheadB, hxo, hyo]; omega)]
  · obtain ⟨i1, y', hy', hyo⟩ := ih1 (by omega)
    rw [hy] at hy'
    injection hy' with hy'
    subst hy'
    cases hxo : x.e.op with
    | false =>
     have hex2 : (∃ z, n.ents[(bestC n.ents m).toNat]? = some z ∧ x.e.till < z.till) ↔ x.e.till < y.e.till := by
      rw [i1, Int.toNat_natCast, hey]
      exact ⟨fun ⟨z, hz, hlt⟩ => by injection hz with hz; subst hz; exact hlt, fun hlt => ⟨_, rfl, hlt⟩⟩
     by_cases hlt : x.e.till < y.e.till
     · have hC' : bestC n.ents (m + 1) = (m : Int) := by rw [hC, if_pos ⟨hxo, .inr (hex2.mpr hlt)⟩]
       have hL' : leastD s.ents (m + 1) = m := by rw [hL, if_pos (by simp [aheadB, hxo, hyo]; omega)]
       exact ⟨fun _ => ⟨by rw [hC', hL'], x, by rw [hL']; exact hx, hxo⟩, fun hn => by rw [hC'] at hn; omega⟩
     · have hC' : bestC n.ents (m + 1) = bestC n.ents m := by rw [hC, if_neg (fun hh => hh.2.elim hneg fun h2 => hlt (hex2.mp h2))]
       have hL' : leastD s.ents (m + 1) = leastD s.ents m := by rw [hL, if_neg (by simp [aheadB, hxo, hyo]; omega)]
       exact ⟨fun _ => ⟨by rw [hC', hL', i1], y, by rw [hL']; exact hy, hyo⟩, fun hn => by rw [hC'] at hn; omega⟩
    | true =>
     have hC' : bestC n.ents (m + 1) = bestC n.ents m := by rw [hC, if_neg (by rw [hxo]; simp)]
     have hL' : leastD s.ents (m + 1) = leastD s.ents m := by rw [hL, if_neg (by simp [aheadB, hxo, hyo])]
     exact ⟨fun _ => ⟨by rw [hC', hL', i1], y, by rw [hL']; exact hy, hyo⟩, fun hn => by rw [hC'] at hn; omega⟩
theorem NSim.goes {l : List PastE} {us : List Int} {s : NodeP} {nd : NodeE} (h : NSim l us s nd.p) : goesN us nd = (leastD s.ents s.ents.length : Int) := by
 have hl : nd.ents.length = s.ents.length := by have : nd.ents = s.ents.map (·.e) := h.ents; rw [this, List.length_map]
 obtain ⟨h1, h2⟩ := goes_least h s.ents.length (Nat.le_refl _)
 unfold goesN
 rw [hl]
 by_cases hn : 0 ≤ bestC nd.ents s.ents.length
 · rw [if_pos hn]; exact (h1 hn).1
 · rw [if_neg hn]
   have := (h2 (by show bestC nd.ents s.ents.length < 0; omega)).2
   have this' : bestU us nd.nms s.ents.length = leastD s.ents s.ents.length := this
   rw [this']
theorem NSim.same {l : List PastE} {us : List Int} {s : NodeP} {n : RNode} (h : NSim l us s n) (e : EntE) : s.sameI e = n.ents.findIdx? (fun x => decide (sameE x e)) := by
 unfold NodeP.sameI
 rw [h.ents, List.findIdx?_map]
 rfl
theorem NSim.merge {l : List PastE} {us : List Int} {s : NodeP} {n : RNode} (h : NSim l us s n) {j : Nat} {x : HeldE} (e : EntE) (hx : s.ents[j]? = some x) : NSim l us (s.merge j x e) { n with ents := n.ents.set j (mergedE x.e e) } := by
 obtain ⟨hj, hx'⟩ := List.getElem?_eq_some_iff.mp hx
 have hu : ∀ (i : Nat) (z : HeldE), (s.merge j x e).ents[i]? = some z → ∃ z', s.ents[i]? = some z' ∧ z.used = z'.used := by
  intro i z hz
  have hz' : (s.ents.set j ⟨mergedE x.e e, x.used⟩)[i]? = some z := hz
  by_cases hi : i = j
  · subst hi
    rw [List.getElem?_set_self hj] at hz'
    injection hz' with hz'
    subst hz'
    exact ⟨x, hx, rfl⟩
  · rw [List.getElem?_set_ne (fun e => hi e.symm)] at hz'
    exact ⟨z, hz', rfl⟩
 refine ⟨h.up, h.hz, h.since, ?_, h.fls, h.flk, h.wts, h.wtk, h.hist, h.top, ?_, ?_, ?_⟩
 · show n.ents.set j (mergedE x.e e) = (s.ents.set j ⟨mergedE x.e e, x.used⟩).map (·.e)
   rw [List.map_set, h.ents]
 · show n.nms.length = (s.ents.set j _).length
   rw [List.length_set]; exact h.nml
 · intro z hz
   rcases List.mem_or_eq_of_mem_set hz with hz | rfl
   · exact h.used z hz
   · exact h.used x (List.mem_of_getElem? hx)
 · intro p q y z a b hy hz ha hb
   obtain ⟨y', hy', e1⟩ := hu p y hy
   obtain ⟨z', hz', e2⟩ := hu q z hz
   rw [e1, e2]
   exact h.order p q y' z' a b hy' hz' ha hb
theorem NSim.lay0 {l : List PastE} {us : List Int} {s : NodeP} {n : RNode} (h : NSim l us s n) (e : EntE) {nm : Int} (hf : ∀ a ∈ n.nms, a ≠ nm) : NSim l (us ++ [nm]) (s.lay0 e) { n with ents := n.ents ++ [e], nms := n.nms ++ [nm] } := by
 have hnl := h.nml
 have hat : ∀ (i : Nat) (x : HeldE) (a : Int), (s.ents ++ [⟨e, s.uses + 1⟩])[i]? = some x → (n.nms ++ [nm])[i]? = some a → (i < s.ents.length ∧ s.ents[i]? = some x ∧ n.nms[i]? = some a ∧ x.used ≤ s.uses ∧ lastP (us ++ [nm]) a = lastP us a) ∨ (x.used = s.uses + 1 ∧ lastP (us ++ [nm]) a = (us.length : Int)) := by
  intro i x a hx ha
  by_cases hi : i < s.ents.length
  · rw [List.getElem?_append_left hi] at hx
    rw [List.getElem?_append_left (by omega)] at ha
    exact .inl ⟨hi, hx, ha, h.used x (List.mem_of_getElem? hx), lastP_ne (hf a (List.mem_of_getElem? ha))⟩
  · right
    have hi2 : i = s.ents.length := by
     have := (List.getElem?_eq_some_iff.mp hx).1
     simp at this
     omega
    subst hi2
    rw [List.getElem?_append_right (Nat.le_refl _), Nat.sub_self] at hx
    rw [List.getElem?_append_right (by omega), hnl, Nat.sub_self] at ha
    simp at hx ha
    subst hx ha
    exact ⟨rfl, lastP_self _ _⟩
 refine ⟨h.up, h.hz, h.since, ?_, h.fls, h.flk, h.wts, h.wtk, h.hist, h.top, ?_, ?_, ?_⟩
 · show n.ents ++ [e] = (s.ents ++ [(⟨e, s.uses + 1⟩ : HeldE)]).map (·.e)
   rw [List.map_append, h.ents]; rfl
 · show (n.nms ++ [nm]).length = (s.ents ++ [_]).length
   simp [hnl]
 · intro x hx
   have hx' : x ∈ s.ents ++ [⟨e, s.uses + 1⟩] := hx
   rw [List.mem_append, List.mem_singleton] at hx'
   show x.used ≤ s.uses + 1
   rcases hx' with hx' | rfl
   · exact Nat.le_succ_of_le (h.used x hx')
   · exact Nat.le_refl _
 · intro p q y z a b hy hz ha hb
   rcases hat p y a hy ha with ⟨_, p1, p2, p3, p4⟩ | ⟨p3, p4⟩
   · rcases hat q z b hz hb with ⟨_, q1, q2, q3, q4⟩ | ⟨q3, q4⟩
     · rw [p4, q4]
       exact h.order p q y z a b p1 q1 p2 q2
     · have := lastP_lt us a
       rw [p4, q4]
       omega
   · rcases hat q z b hz hb with ⟨_, q1, q2, q3, q4⟩ | ⟨q3, q4⟩
     · have := lastP_lt us b
       rw [p4, q4]
       omega
     · rw [p4, q4]
       omega
theorem flat_set_sub {l : List NodeE} {k : Nat} {nd nd' : NodeE} (hnd : l[k]? = some nd) (hm : nd'.nms.Sublist nd.nms) : ((l.set k nd').flatMap (·.nms)).Sublist (l.flatMap (·.nms)) := by
 induction l generalizing k with
 | nil => simp at hnd
 | cons a r ih =>
  match k with
  | 0 =>
   simp at hnd
   subst hnd
   rw [List.set_cons_zero, List.flatMap_cons, List.flatMap_cons]
   exact hm.append (List.Sublist.refl _)
  | k + 1 =>
   rw [List.set_cons_succ, List.flatMap_cons, List.flatMap_cons]
   exact (List.Sublist.refl _).append (ih (by simpa using hnd))
theorem Goes.keeps {w w' : World} {b : Nat} {D : DevS} {P : DP} (h : Goes w b D P w') : Kept (D.fp b) w w' := h.choose_spec.2.2.1
theorem Sim.turnN {P : DP} {R : RefS} (h : Sim P R) {k : Nat} {s s' : NodeP} {nd nd' : NodeE} (hs : P.sites[k]? = some s) (hnd : R.nodes[k]? = some nd) (hn : NSim R.past R.uses s' nd'.p) (hr : s'.room = s.room) (hm : nd'.nms.Sublist nd.nms) : Sim (P.put (k : Int) s') (R.putN k nd') := by
 obtain ⟨hk, _⟩ := List.getElem?_eq_some_iff.mp hs
 obtain ⟨hk', _⟩ := List.getElem?_eq_some_iff.mp hnd
 have hsub := flat_set_sub hnd hm
 refine ⟨h.past, h.clock, h.rdr, h.puts, h.bd, ?_, ?_, ?_, h.names.sublist hsub, fun x hx => h.fresh x (hsub.subset hx)⟩
 · show (R.nodes.set k nd').length = (P.sites.set (k : Int).toNat s').length
   rw [List.length_set, List.length_set]; exact h.len
 · intro k' t nt ht hnt
   have ht' : (P.sites.set (k : Int).toNat s')[k']? = some t := ht
   have hnt' : (R.nodes.set k nd')[k']? = some nt := hnt
   rw [Int.toNat_natCast] at ht'
   show NSim R.past R.uses t nt.p
   by_cases hkk : k' = k
   · subst hkk
     rw [List.getElem?_set_self hk] at ht'
     rw [List.getElem?_set_self hk'] at hnt'
     injection ht' with ht'
     injection hnt' with hnt'
     subst ht' hnt'
     exact hn
   · rw [List.getElem?_set_ne (fun e => hkk e.symm)] at ht' hnt'
     exact h.node k' t nt ht' hnt'
 · intro t ht
   rcases List.mem_or_eq_of_mem_set ht with ht | rfl
   · exact h.room t ht
   · rw [hr]; exact h.room s (List.mem_of_getElem? hs)
theorem Pair.turn1 {w w1 w2 w3 : World} {xb cb : Nat} {D : DevS} {R : RefS} (h : Pair w xb cb D R) {k : Nat} {s s' : NodeP} {nd : NodeE} {p : RNode} (hs : D.pu.sites[k]? = some s) (hnd : R.nodes[k]? = some nd)
 (g : Goes w xb D (D.pu.put (k : Int) s') w1) (k2 : Kept (fun _ => False) w1 w2) (hb : RTurns w2 cb R k p w3) (hn : NSim R.past R.uses s' p) (hr : s'.room = s.room) (hm : p.nms.Sublist nd.nms) (hg : s'.Good D.pu.past.length R.uses.length) : Turned w w3 xb cb D R ∧ Kept (R.fp cb) w2 w3 := by
 obtain ⟨nd', e1, hb⟩ := hb
 subst e1
 have hpm := h.good.pmax
 refine ⟨h.turned' g k2 hb (h.sim.turnN hs hnd hn hr hm) (h.good.put _ hg) (Fit.putN h.rfit ⟨?_, ?_, ?_⟩) rfl rfl, hb.2.1⟩
 · have := hn.fls
   have this' : nd'.fls = s'.flight.map (·.1) := this
   rw [this', List.length_map]
   exact hg.fl
 · have := hn.hz
   have this' : nd'.horizon = s'.horizon := this
   rw [this']
   exact Nat.le_trans hg.hz hpm
 · have this' : nd'.fls = s'.flight.map (·.1) := hn.fls
   intro t ht
   rw [this'] at ht
   obtain ⟨c, hc, rfl⟩ := List.mem_map.mp ht
   exact Nat.le_trans (hg.fs c hc) hpm
theorem Pair.still {w w1 w2 w3 : World} {xb cb : Nat} {D : DevS} {R : RefS} (h : Pair w xb cb D R) (g : Goes w xb D D.pu w1) (k2 : Kept (fun _ => False) w1 w2) (k3 : Kept (fun _ => False) w2 w3) : Turned w w3 xb cb D R := by
 have hr2 := h.ref_after g.keeps k2
 exact h.turned' g k2 ⟨hr2.kept k3 (fun _ _ => id), k3.mono (fun _ => False.elim), fun _ hx => .inl hx⟩ h.sim h.good h.rfit rfl rfl
theorem site_cases {P : DP} {R : RefS} (h : Sim P R) (k : Int) : (P.site? k = none ∧ (k < 0 ∨ (R.nodes.length : Int) ≤ k)) ∨ ∃ (j : Nat) (s : NodeP) (nd : NodeE), k = (j : Int) ∧ P.site? k = some s ∧ P.sites[j]? = some s ∧ R.nodes[j]? = some nd ∧ NSim R.past R.uses s nd.p := by
 have hl := h.len
 by_cases h0 : k < 0
 · exact .inl ⟨by unfold DP.site?; rw [if_pos h0], .inl h0⟩
 · obtain ⟨j, rfl⟩ : ∃ j : Nat, k = j := ⟨k.toNat, by omega⟩
   by_cases h1 : j < P.sites.length
   · refine .inr ⟨j, P.sites[j], R.nodes[j], rfl, ?_, List.getElem?_eq_getElem h1, List.getElem?_eq_getElem (by omega), h.node j _ _ (List.getElem?_eq_getElem h1) (List.getElem?_eq_getElem (by omega))⟩
     unfold DP.site?
     rw [if_neg h0, Int.toNat_natCast, List.getElem?_eq_getElem h1]
   · refine .inl ⟨?_, .inr (by omega)⟩
     unfold DP.site?
     rw [if_neg h0, Int.toNat_natCast, List.getElem?_eq_none (by omega)]
theorem node_lt {R : RefS} {j : Nat} {nd : NodeE} (h : R.nodes[j]? = some nd) : j < R.nodes.length := (List.getElem?_eq_some_iff.mp h).1
theorem Pair.el {w : World} {xb cb : Nat} {D : DevS} {R : RefS} (h : Pair w xb cb D R) : ∀ nd ∈ R.nodes, nd.nms.length = nd.ents.length ∧ nd.ents.length ≤ 6 ∧ nd.fls.length ≤ 12 ∧ nd.wts.length ≤ 4 ∧ (∀ e ∈ nd.ents, EntOk e D.pu.past.length) ∧ nd.horizon < R.past.length ∧ (∀ t ∈ nd.wts, t < R.past.length) ∧ (∀ t ∈ nd.fls, t < R.past.length) := by
 intro nd hnd
 obtain ⟨j, hj, rfl⟩ := List.getElem_of_mem hnd
 have hl := h.sim.len
 have hs : D.pu.sites[j]? = some D.pu.sites[j] := List.getElem?_eq_getElem (by omega)
 have hn := h.sim.node j _ _ hs (List.getElem?_eq_getElem hj)
 have hg := h.good.sites _ (List.mem_of_getElem? hs)
 have e1 : R.nodes[j].ents = D.pu.sites[j].ents.map (·.e) := hn.ents
 have e2 : R.nodes[j].nms.length = D.pu.sites[j].ents.length := hn.nml
 have e3 : R.nodes[j].fls = D.pu.sites[j].flight.map (·.1) := hn.fls
 have e4 : R.nodes[j].wts = D.pu.sites[j].waits.map (·.1) := hn.wts
 have r6 := hg.room6
 have hel := hg.el
 refine ⟨by rw [e2, e1, List.length_map], by rw [e1, List.length_map]; omega, by rw [e3, List.length_map]; exact hg.fl, by rw [e4, List.length_map]; exact hg.wl, fun e he => ?_, hn.top, fun t ht => ?_, fun t ht => ?_⟩
 · rw [e1] at he
   obtain ⟨z, hz, rfl⟩ := List.mem_map.mp he
   exact hg.es z hz
 · rw [e4] at ht
   obtain ⟨c, hc, rfl⟩ := List.mem_map.mp ht
   exact (hn.wtk c hc).1
 · rw [e3] at ht
   obtain ⟨c, hc, rfl⟩ := List.mem_map.mp ht
   exact (hn.flk c hc).1
theorem pair_evict {w : World} {xb cb : Nat} {D : DevS} {R : RefS} (h : Pair w xb cb D R) (hnn : R.uses.length < 9223372036854775807) (k i : Int) :
 ∃ r : Int, Calls Tryz.prog 47 #[.pointer (some ⟨xb, 0, none⟩), .int .i64 k, .int .i64 i] w fun e w1 => e = .returned (.int .i64 r) ∧
  Then 48 #[.pointer (some ⟨cb, 0, none⟩), .int .i64 k, .int .i64 i] w w1 xb cb D R (.int .i64 r) := by
 refine ⟨(D.pu.evict k i).1, (dEvict w xb D k i h.dev (h.good.walk hnn)).mono fun e w1 hp => ⟨hp.1, hp.2.keeps, fun w2 k2 => ?_⟩⟩
 have g := hp.2
 refine (revict w2 cb R k i (h.ref_after g.keeps k2) h.rfit.nmax fun nd hnd => ⟨(h.el nd hnd).1, by have := (h.el nd hnd).2.1; omega⟩).mono fun e w3 hq => ?_
 rcases site_cases h.sim k with ⟨hno, hk⟩ | ⟨j, s, nd, rfl, hs1, hs, hnd, hn⟩
 · have hE : D.pu.evict k i = (9, D.pu) := by unfold DP.evict; rw [hno]
   rw [hE] at g ⊢
   rcases hq with ⟨_, e2, rfl⟩ | ⟨nd, h0, hnd, _⟩ | ⟨nd, h0, hnd, _⟩
   · exact ⟨e2, h.still g k2 (Kept.refl _ _), Kept.refl _ _⟩
   · have := node_lt hnd; omega
   · have := node_lt hnd; omega
 · have hl : nd.ents.length = s.ents.length := by have : nd.ents = s.ents.map (·.e) := hn.ents; rw [this, List.length_map]
   rcases hq with ⟨hk, _⟩ | ⟨nd', h0, hnd', hi, e2, rfl⟩ | ⟨nd', h0, hnd', hi0, hi1, e2, ve, vn, hb⟩
   · have := node_lt hnd; omega
   · rw [Int.toNat_natCast, hnd] at hnd'
     injection hnd' with hnd'
     subst hnd'
     have hE : D.pu.evict (j : Int) i = (10, D.pu) := by unfold DP.evict; rw [hs1]; dsimp only; rw [if_pos (by omega)]
     rw [hE] at g ⊢
     exact ⟨e2, h.still g k2 (Kept.refl _ _), Kept.refl _ _⟩
   · rw [Int.toNat_natCast] at hnd' hb
     rw [hnd] at hnd'
     injection hnd' with hnd'
     subst hnd'
     have hE : D.pu.evict (j : Int) i = (0, D.pu.put (j : Int) (s.remove i.toNat)) := by unfold DP.evict; rw [hs1]; dsimp only; rw [if_neg (by omega)]
     rw [hE] at g ⊢
     exact ⟨e2, h.turn1 hs hnd g k2 ⟨_, rfl, hb⟩ (hn.remove i.toNat) rfl (List.eraseIdx_sublist ..) ((h.good.sites s (List.mem_of_getElem? hs)).remove _)⟩
end Go.Proofs.YtpfcacedpkaihaaGreat
