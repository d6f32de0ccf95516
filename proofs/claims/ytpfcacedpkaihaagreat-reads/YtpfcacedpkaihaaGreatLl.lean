/- The law's step (package almanaclaw), walked. -/
import Derived.Test.YtpfcacedpkaihaaGreatLiLdLjLk
import Derived.Deep.RegionHeld3
import Derived.Deep.DeepCutAuto
namespace Go.Proofs.YtpfcacedpkaihaaGreat
open Go.RowKit

/-- a step of a script. -/
structure OpE where
  kd : Int
  a : Int
  b : Int
  c : Int
  s : ByteArray
  ao : Option Addr
  n : Nat
  cap : Nat
  ws : List (Int × Int)
structure OpOk (B : Nat) (w0 : World) (o : OpE) : Prop where
  wr : Wr w0 o.ao o.n o.ws
  reach : o.n * 16 ≤ 140737488351232
  nil : o.ao = none → o.n = 0 ∧ o.cap = 0
  low : 0 < o.n → ∀ a, o.ao = some a → a.block < B
  vals : BdW o.ws
  str : o.s.size ≤ maxLen
  a0 : -9223372036854775808 ≤ o.a
  a1 : o.a ≤ 9223372036854775807
def opV (o : OpE) : Value := .agg #[.int .i64 o.kd, .int .i64 o.a, .int .i64 o.b, .int .i64 o.c, .string o.s, .slice o.ao o.n o.cap]
def opC (o : OpE) : List Value := [.int .i64 o.kd, .int .i64 o.a, .int .i64 o.b, .int .i64 o.c, .string o.s, .slice o.ao o.n o.cap]

theorem pair_at (l : List PairE) (j : Nat) (hj : j < l.length) (f : Nat) (hf : f < 2) : (l.flatMap pairC)[j * 2 + f]? = (pairC l[j])[f]? := flat_at pairC 2 (fun _ => rfl) l j hj f hf

theorem boxes_two (w : World) (o : Obj) (a b : Array Value) (T U : TypeId) (h : o = .cells a T) : Blk (((w.alloc o).alloc (.cells b U)).drew) w.heap.size T a ∧ Blk (((w.alloc o).alloc (.cells b U)).drew) (w.heap.size + 1) U b := by
  subst h
  refine ⟨Blk.same ((Blk.new w T a).kept (Kept.alloc _ (.cells b U) (fun _ => False)) id) rfl, ?_⟩
  have := Blk.new (w.alloc (.cells a T)) U b
  simp only [World.size_alloc] at this
  exact this.same rfl

/-- the first step: a new world. -/
theorem lstep_new {B : Nat} {X : Nat → Prop} {w0 w : World} {pb : Nat} {ps : List PairE} {vps b0 b1 b2 : Value} {commits most : Int} (h : Inv B X w0 w pb ps vps b0 b1 b2 commits most) (a b c : Int) (s : ByteArray) (ao : Option Addr) (n cap : Nat) (hm : (ps.length + 1) * 16 ≤ 140737488355328) :
    Calls Tryz.prog 9 #[.pointer (some ⟨pb, 0, none⟩), .agg #[.int .i64 1, .int .i64 a, .int .i64 b, .int .i64 c, .string s, .slice ao n cap]] w fun e w' => SPost B X w0 w pb ps b0 b1 b2 commits most e w' := by
  have H0 : Hid (∀ W, Kept (fun _ => False) w W → Calls Tryz.prog 11 #[.pointer (some ⟨pb, 0, none⟩), .agg #[.int .i64 1, .int .i64 a, .int .i64 b, .int .i64 c, .string s, .slice ao n cap]] W fun e w' => e = .returned (.bool true) ∧ Hid (SPost B X w0 w pb ps b0 b1 b2 commits most (.returned (.bool true)) w')) :=
    fun W hk => (lopened W pb 1 a b c s ao n cap vps b0 b1 b2 commits most ps.length (ps.flatMap pairC) (h.kept hk).blk (h.kept hk).row hm).mono fun e w' hp => by
      have e1 := hp.1
      subst e1
      exact ⟨rfl, (SPost.of_open (h.kept hk) hp).from hk⟩
  clear h hm
  go_enter Tryz.func9, Tryz.ntmps9
  go_wp2_with (go_at_call 11; refine (H0.out _ (Kept.alloc _ _ _)).mono ?_; rintro e w1 ⟨rfl, hs⟩)
  go_ret
  exact hs.out

/-- no world yet: nothing is done. -/
theorem lstep_none {B : Nat} {X : Nat → Prop} {w0 w : World} {pb : Nat} {ps : List PairE} {vps b0 b1 b2 : Value} {commits most : Int} (h : Inv B X w0 w pb ps vps b0 b1 b2 commits most) (kd a b c : Int) (s : ByteArray) (ao : Option Addr) (n cap : Nat) (hps : ps.length = 0) (h2 : 2 ≤ kd) (h18 : kd ≤ 18) :
    Calls Tryz.prog 9 #[.pointer (some ⟨pb, 0, none⟩), .agg #[.int .i64 kd, .int .i64 a, .int .i64 b, .int .i64 c, .string s, .slice ao n cap]] w fun e w' => SPost B X w0 w pb ps b0 b1 b2 commits most e w' := by
  have hk1 : (kd == 1) = false := beq_eq_false_iff_ne.mpr (by omega)
  have hk19 : (kd == 19) = false := beq_eq_false_iff_ne.mpr (by omega)
  obtain ⟨av, cv, hv, _⟩ := h.row.form
  rw [hps] at hv
  have c0 : w.cell? ⟨pb, 0, none⟩ = some vps := h.blk.cell 0
  rw [hv] at c0
  have hpl := h.blk.lt
  have HI : Hid (Inv B X w0 w pb ps vps b0 b1 b2 commits most) := h
  clear h hv
  go_enter Tryz.func9, Tryz.ntmps9
  go_wp2
  go_ret
  exact ⟨rfl, Kept.alloc _ _ _, ps, vps, commits, HI.out.kept (Kept.alloc _ _ _), by omega, .inl rfl, fun M hM p hp => Nat.le_succ_of_le (hM p hp)⟩

set_option maxRecDepth 100000 in
set_option maxHeartbeats 1000000 in
theorem lstep_reader {B : Nat} {X : Nat → Prop} {w0 w : World} {pb : Nat} {ps : List PairE} {vps b0 b1 b2 : Value} {commits most : Int} (h : Inv B X w0 w pb ps vps b0 b1 b2 commits most) (kd a b c : Int) (s : ByteArray) (ao : Option Addr) (n cap : Nat) (hps : 0 < ps.length) (hpm : ps.length ≤ 4611686018427387904) (h2 : 3 ≤ kd) (h7 : kd ≤ 7) (ha0 : -9223372036854775808 ≤ a) (ha1 : a ≤ 9223372036854775807)
    (hrd : ∀ W xb cb D R, (∃ p ∈ ps, R = p.R) → Pair W xb cb D R → Calls Tryz.prog 15 #[.pointer (some ⟨pb, 0, none⟩), .agg #[.pointer (some ⟨xb, 0, none⟩), .pointer (some ⟨cb, 0, none⟩)], .agg #[.int .i64 kd, .int .i64 a, .int .i64 b, .int .i64 c, .string s, .slice ao n cap]] W fun e w' => StepPost W xb cb D R e w') :
    Calls Tryz.prog 9 #[.pointer (some ⟨pb, 0, none⟩), .agg #[.int .i64 kd, .int .i64 a, .int .i64 b, .int .i64 c, .string s, .slice ao n cap]] w fun e w' => SPost B X w0 w pb ps b0 b1 b2 commits most e w' := by
  have hk1 : (kd == 1) = false := beq_eq_false_iff_ne.mpr (by omega)
  have hk2 : (kd == 2) = false := beq_eq_false_iff_ne.mpr (by omega)
  have hk19 : (kd == 19) = false := beq_eq_false_iff_ne.mpr (by omega)
  obtain ⟨g, cv, hv, hog, hgl⟩ := h.row.block hps
  have c0 : w.cell? ⟨pb, 0, none⟩ = some vps := h.blk.cell 0
  rw [hv] at c0
  have hpl := h.blk.lt
  obtain ⟨m, hm⟩ : ∃ m, m = ps.length := ⟨_, rfl⟩
  obtain ⟨j, hj⟩ : ∃ j, j = pickN a m := ⟨_, rfl⟩
  have hjm : j < m := by rw [hj]; exact pickN_lt a (by omega)
  have HPK : Hid (∀ W, Calls Tryz.prog 13 #[.int .i64 a, .int .i64 m] W fun e w' => e = .returned (.int .i64 (j : Int)) ∧ W = w') := fun W => by rw [hj]; exact rpick W a m ha0 ha1 (by omega) (by omega)
  have hjp : j < ps.length := by omega
  obtain ⟨p, hp⟩ : ∃ p, p = ps[j] := ⟨_, rfl⟩
  have hget : ps[j]? = some p := by rw [hp]; exact List.getElem?_eq_getElem hjp
  have q0 := h.row.cell hog (j * 2) _ (by have := pair_at ps j hjp 0 (by omega); rw [Nat.add_zero] at this; rw [this]; rfl)
  have q1 := h.row.cell hog (j * 2 + 1) _ (by rw [pair_at ps j hjp 1 (by omega)]; rfl)
  rw [← hp] at q0 q1
  rw [← hm] at c0
  have hmz : ((m : Int) == 0) = false := beq_eq_false_iff_ne.mpr (by omega)
  have HRD : Hid (∀ W, Kept (fun _ => False) w W → Calls Tryz.prog 15 #[.pointer (some ⟨pb, 0, none⟩), .agg #[.pointer (some ⟨p.xb, 0, none⟩), .pointer (some ⟨p.cb, 0, none⟩)], .agg #[.int .i64 kd, .int .i64 a, .int .i64 b, .int .i64 c, .string s, .slice ao n cap]] W fun e w' => e = .returned (.bool true) ∧ Hid (SPost B X w0 w pb ps b0 b1 b2 commits most (.returned (.bool true)) w')) :=
    fun W hk => (hrd W p.xb p.cb p.D p.R ⟨p, List.mem_of_getElem? hget, rfl⟩ (((h.each p (List.mem_of_getElem? hget))).kept hk fun _ _ => id)).mono fun e w' hp => ⟨hp.1, (SPost.of_turned (h.kept hk) hget hp.2).from hk⟩
  have hm1 : m ≤ 4611686018427387904 := by omega
  have hm0 : 0 < m := by omega
  generalize p.xb = xb at *
  generalize p.cb = cb at *
  clear hrd h hv hog hj hp hget hm hps hpm hjp
  go_enter Tryz.func9, Tryz.ntmps9
  go_wp2_with fail
  go_cut [5] (fun pp wx => pp = .pointer (some ⟨w.heap.size + 1, 0, none⟩) ∧ Hid (Kept (fun _ => False) w wx ∧ Blk wx w.heap.size 37 #[.int .i64 kd, .int .i64 a, .int .i64 b, .int .i64 c, .string s, .slice ao n cap] ∧ Blk wx (w.heap.size + 1) 44 #[.pointer (some ⟨xb, 0, none⟩), .pointer (some ⟨cb, 0, none⟩)]))
  case first =>
    go_region_held3 (fun w' => w'.cell? ⟨pb, 0, none⟩ = some (.slice (some ⟨g, 0, none⟩) m cv) ∧ w'.cell? ⟨w.heap.size, 1, none⟩ = some (.int .i64 a) ∧ w'.cell? ⟨g, j * 2, none⟩ = some (.pointer (some ⟨xb, 0, none⟩)) ∧ w'.cell? ⟨g, j * 2 + 1, none⟩ = some (.pointer (some ⟨cb, 0, none⟩))) (go_keep) ((go_at_call 13; refine (HPK.out _).mono ?_; rintro e w' ⟨rfl, rfl⟩))
    all_goals
      go_wp2
      go_meet
      case rel => exact ⟨rfl, ((Kept.alloc w _ (fun _ => False)).allocNew _).drew, boxes_two w _ _ _ _ _ rfl⟩
  case rest =>
    obtain ⟨rfl, HC⟩ := hcut
    have d0 : wc.cell? ⟨w.heap.size, 0, none⟩ = some (.int .i64 kd) := HC.out.2.1.cell 0
    have d1 : wc.cell? ⟨w.heap.size, 1, none⟩ = some (.int .i64 a) := HC.out.2.1.cell 1
    have d2 : wc.cell? ⟨w.heap.size, 2, none⟩ = some (.int .i64 b) := HC.out.2.1.cell 2
    have d3 : wc.cell? ⟨w.heap.size, 3, none⟩ = some (.int .i64 c) := HC.out.2.1.cell 3
    have d4 : wc.cell? ⟨w.heap.size, 4, none⟩ = some (.string s) := HC.out.2.1.cell 4
    have d5 : wc.cell? ⟨w.heap.size, 5, none⟩ = some (.slice ao n cap) := HC.out.2.1.cell 5
    have e0 : wc.cell? ⟨w.heap.size + 1, 0, none⟩ = some (.pointer (some ⟨xb, 0, none⟩)) := HC.out.2.2.cell 0
    have e1 : wc.cell? ⟨w.heap.size + 1, 1, none⟩ = some (.pointer (some ⟨cb, 0, none⟩)) := HC.out.2.2.cell 1
    clear c0 q0 q1
    go_wp2_with (go_at_call 15; refine (HRD.out _ HC.out.1).mono ?_; rintro e w1 ⟨rfl, hs⟩)
    go_ret
    exact hs.out

set_option maxRecDepth 100000 in
set_option maxHeartbeats 1000000 in
theorem lstep_commit {B : Nat} {X : Nat → Prop} {w0 w : World} {pb : Nat} {ps : List PairE} {vps b0 b1 b2 : Value} {commits most : Int} (h : Inv B X w0 w pb ps vps b0 b1 b2 commits most) (a b c : Int) (s : ByteArray) (ao : Option Addr) (n cap : Nat) (hps : 0 < ps.length) (hpm : ps.length ≤ 4611686018427387904) (ha0 : -9223372036854775808 ≤ a) (ha1 : a ≤ 9223372036854775807)
    (hus : ∀ p ∈ ps, p.R.uses.length < 9223372036854775807) (ws : List (Int × Int)) (hc0 : 0 ≤ commits) (hc1 : commits ≤ 4611686018427387904) (hw : Wr w ao n ws) (hreach : n * 16 ≤ 140737488351232) (hno : ao = none → n = 0 ∧ cap = 0) (hlow : 0 < n → ∀ a, ao = some a → a.block < B) (hwb : BdW ws) :
    Calls Tryz.prog 9 #[.pointer (some ⟨pb, 0, none⟩), .agg #[.int .i64 2, .int .i64 a, .int .i64 b, .int .i64 c, .string s, .slice ao n cap]] w fun e w' => SPost B X w0 w pb ps b0 b1 b2 commits most e w' := by
  obtain ⟨g, cv, hv, hog, hgl⟩ := h.row.block hps
  have c0 : w.cell? ⟨pb, 0, none⟩ = some vps := h.blk.cell 0
  rw [hv] at c0
  have hpl := h.blk.lt
  obtain ⟨m, hm⟩ : ∃ m, m = ps.length := ⟨_, rfl⟩
  obtain ⟨j, hj⟩ : ∃ j, j = pickN a m := ⟨_, rfl⟩
  have hjm : j < m := by rw [hj]; exact pickN_lt a (by omega)
  have HPK : Hid (∀ W, Calls Tryz.prog 13 #[.int .i64 a, .int .i64 m] W fun e w' => e = .returned (.int .i64 (j : Int)) ∧ W = w') := fun W => by rw [hj]; exact rpick W a m ha0 ha1 (by omega) (by omega)
  have hjp : j < ps.length := by omega
  obtain ⟨p, hp⟩ : ∃ p, p = ps[j] := ⟨_, rfl⟩
  have hget : ps[j]? = some p := by rw [hp]; exact List.getElem?_eq_getElem hjp
  have q0 := h.row.cell hog (j * 2) _ (by have := pair_at ps j hjp 0 (by omega); rw [Nat.add_zero] at this; rw [this]; rfl)
  have q1 := h.row.cell hog (j * 2 + 1) _ (by rw [pair_at ps j hjp 1 (by omega)]; rfl)
  rw [← hp] at q0 q1
  rw [← hm] at c0
  have hmz : ((m : Int) == 0) = false := beq_eq_false_iff_ne.mpr (by omega)
  have HRD : Hid (∀ W, Kept (fun _ => False) w W → Calls Tryz.prog 14 #[.pointer (some ⟨pb, 0, none⟩), .agg #[.pointer (some ⟨p.xb, 0, none⟩), .pointer (some ⟨p.cb, 0, none⟩)], .agg #[.int .i64 2, .int .i64 a, .int .i64 b, .int .i64 c, .string s, .slice ao n cap]] W fun e w' => e = .returned (.bool true) ∧ Hid (SPost B X w0 w pb ps b0 b1 b2 commits most (.returned (.bool true)) w')) :=
    fun W hk => (lcommit W pb p.xb p.cb a b c s ao n cap ws p.D p.R vps b0 b1 b2 commits most ((h.each p (List.mem_of_getElem? hget)).kept hk fun _ _ => id) (hus p (List.mem_of_getElem? hget)) (h.kept hk).blk (fun hf => (h.own p (List.mem_of_getElem? hget) pb hf).2.1 rfl) hc0 hc1 (hw.kept hk fun _ _ => id) hreach hno (fun hn x hx => by
      have hl := hlow hn x hx
      have hB := h.pB.1
      have hs := hk.size
      have hz := Nat.le_trans h.bsz h.below.size
      exact ⟨fun hf => by have := (h.own p (List.mem_of_getElem? hget) _ hf).1; omega, by omega, by omega⟩) hwb).mono fun e w' hp => by
        have e1 := hp.1
        subst e1
        exact ⟨rfl, (SPost.of_commit (h.kept hk) hget hp).from hk⟩
  have hm1 : m ≤ 4611686018427387904 := by omega
  have hm0 : 0 < m := by omega
  generalize p.xb = xb at *
  generalize p.cb = cb at *
  clear h hus hv hog hj hp hget hm hps hpm hjp hw hlow hno hreach
  go_enter Tryz.func9, Tryz.ntmps9
  go_wp2_with fail
  go_cut [5] (fun pp wx => pp = .pointer (some ⟨w.heap.size + 1, 0, none⟩) ∧ Hid (Kept (fun _ => False) w wx ∧ Blk wx w.heap.size 37 #[.int .i64 2, .int .i64 a, .int .i64 b, .int .i64 c, .string s, .slice ao n cap] ∧ Blk wx (w.heap.size + 1) 44 #[.pointer (some ⟨xb, 0, none⟩), .pointer (some ⟨cb, 0, none⟩)]))
  case first =>
    go_region_held3 (fun w' => w'.cell? ⟨pb, 0, none⟩ = some (.slice (some ⟨g, 0, none⟩) m cv) ∧ w'.cell? ⟨w.heap.size, 1, none⟩ = some (.int .i64 a) ∧ w'.cell? ⟨g, j * 2, none⟩ = some (.pointer (some ⟨xb, 0, none⟩)) ∧ w'.cell? ⟨g, j * 2 + 1, none⟩ = some (.pointer (some ⟨cb, 0, none⟩))) (go_keep) ((go_at_call 13; refine (HPK.out _).mono ?_; rintro e w' ⟨rfl, rfl⟩))
    all_goals
      go_wp2
      go_meet
      case rel => exact ⟨rfl, ((Kept.alloc w _ (fun _ => False)).allocNew _).drew, boxes_two w _ _ _ _ _ rfl⟩
  case rest =>
    obtain ⟨rfl, HC⟩ := hcut
    have d0 : wc.cell? ⟨w.heap.size, 0, none⟩ = some (.int .i64 2) := HC.out.2.1.cell 0
    have d1 : wc.cell? ⟨w.heap.size, 1, none⟩ = some (.int .i64 a) := HC.out.2.1.cell 1
    have d2 : wc.cell? ⟨w.heap.size, 2, none⟩ = some (.int .i64 b) := HC.out.2.1.cell 2
    have d3 : wc.cell? ⟨w.heap.size, 3, none⟩ = some (.int .i64 c) := HC.out.2.1.cell 3
    have d4 : wc.cell? ⟨w.heap.size, 4, none⟩ = some (.string s) := HC.out.2.1.cell 4
    have d5 : wc.cell? ⟨w.heap.size, 5, none⟩ = some (.slice ao n cap) := HC.out.2.1.cell 5
    have e0 : wc.cell? ⟨w.heap.size + 1, 0, none⟩ = some (.pointer (some ⟨xb, 0, none⟩)) := HC.out.2.2.cell 0
    have e1 : wc.cell? ⟨w.heap.size + 1, 1, none⟩ = some (.pointer (some ⟨cb, 0, none⟩)) := HC.out.2.2.cell 1
    clear c0 q0 q1
    go_wp2_with (go_at_call 14; refine (HRD.out _ HC.out.1).mono ?_; rintro e w1 ⟨rfl, hs⟩)
    go_ret
    exact hs.out

theorem Wr.below {B : Nat} {w w' : World} {ao : Option Addr} {n : Nat} {ws : List (Int × Int)} (h : Wr w ao n ws) (hb : Below B w w') (hlow : 0 < n → ∀ a, ao = some a → a.block < B) : Wr w' ao n ws := by
  refine ⟨h.len, fun j hj => ?_⟩
  obtain ⟨bl, off, e, c0, c1⟩ := h.cell j hj
  have hl := hlow (by have := h.len; omega) _ e
  exact ⟨bl, off, e, (World.cell?_of_block (a := ⟨bl, off + j * 2, none⟩) (hb.block bl hl)).trans c0, (World.cell?_of_block (a := ⟨bl, off + j * 2 + 1, none⟩) (hb.block bl hl)).trans c1⟩

/-- a step of the kinds New, Commit, Tick, Now, Begin, End. -/
theorem lstep_begins {B : Nat} {X : Nat → Prop} {w0 w : World} {pb : Nat} {ps : List PairE} {vps b0 b1 b2 : Value} {commits most : Int} (h : Inv B X w0 w pb ps vps b0 b1 b2 commits most) (o : OpE) (ho : OpOk B w0 o) (hk : o.kd = 1 ∨ o.kd = 2 ∨ o.kd = 3 ∨ o.kd = 4 ∨ o.kd = 5 ∨ o.kd = 6)
    (hm : (ps.length + 1) * 16 ≤ 140737488355328) (hc0 : 0 ≤ commits) (hc1 : commits ≤ 4611686018427387904) (hus : ∀ p ∈ ps, p.R.uses.length < 9223372036854775807) :
    Calls Tryz.prog 9 #[.pointer (some ⟨pb, 0, none⟩), .agg #[.int .i64 o.kd, .int .i64 o.a, .int .i64 o.b, .int .i64 o.c, .string o.s, .slice o.ao o.n o.cap]] w fun e w' => SPost B X w0 w pb ps b0 b1 b2 commits most e w' := by
  by_cases h1 : o.kd = 1
  · rw [h1]; exact lstep_new h o.a o.b o.c o.s o.ao o.n o.cap hm
  · by_cases hps : ps.length = 0
    · exact lstep_none h o.kd o.a o.b o.c o.s o.ao o.n o.cap hps (by omega) (by omega)
    · have hp0 : 0 < ps.length := by omega
      have hpm : ps.length ≤ 4611686018427387904 := by omega
      by_cases h2 : o.kd = 2
      · rw [h2]; exact lstep_commit h o.a o.b o.c o.s o.ao o.n o.cap hp0 hpm ho.a0 ho.a1 hus o.ws hc0 hc1 (ho.wr.below h.below ho.low) ho.reach ho.nil ho.low ho.vals
      · refine lstep_reader h o.kd o.a o.b o.c o.s o.ao o.n o.cap hp0 hpm (by omega) (by omega) ho.a0 ho.a1 fun W xb cb D R _ hp => ?_
        have h36 : o.kd = 3 ∨ o.kd = 4 ∨ o.kd = 5 ∨ o.kd = 6 := by omega
        rcases h36 with e | e | e | e
        · rw [e]; exact lreader_tick W pb xb cb _ _ _ _ _ _ _ D R hp
        · rw [e]; exact lreader_now W pb xb cb _ _ _ _ _ _ _ D R hp
        · rw [e]; exact lreader_begin W pb xb cb _ _ _ _ _ _ _ D R hp
        · rw [e]; exact lreader_end W pb xb cb _ _ _ _ _ _ _ D R hp

end Go.Proofs.YtpfcacedpkaihaaGreat
