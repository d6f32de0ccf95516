import Derived.Test.YtpfcacedpkaihaaGreatHqLp0LeLp
import Derived.Test.YtpfcacedpkaihaaGreatLuLv
import Derived.Test.YtpfcacedpkaihaaGreatLgLo
import Derived.Test.YtpfcacedpkaihaaGreatLl
import Derived.Test.YtpfcacedpkaihaaGreatDlDmDz
import Derived.Test.YtpfcacedpkaihaaGreatLmOsLcBa
/- The law's sameEntries (package almanaclaw) over two lists that read the same, walked. -/
namespace Go.Proofs.YtpfcacedpkaihaaGreat
open Go.RowKit
theorem two_new {w wr : World} {o o' : Obj} (h : Below w.heap.size w wr) : Below w.heap.size w ((wr.alloc o).alloc o') :=
  (h.alloc h.size _).alloc (by have := h.size; simp; omega) _

set_option maxRecDepth 100000 in
set_option maxHeartbeats 4000000 in
theorem rsameEntries (w : World) (va vb : Value) (l : List EntE) (hl : l.length ≤ 1000000) (ha : Row w 55 6 va l.length (l.flatMap entC)) (hb : Row w 55 6 vb l.length (l.flatMap entC)) :
    Calls Tryz.prog 41 #[va, vb] w fun e w' => e = .returned (.bool true) ∧ Below w.heap.size w w' := by
  obtain ⟨aa, ca, hva, _⟩ := ha.form
  obtain ⟨ab, cb, hvb, _⟩ := hb.form
  subst hva
  subst hvb
  have HA : Hid (∀ j (hj : j < l.length), ∃ g, aa = some ⟨g, 0, none⟩ ∧ g < w.heap.size ∧ EntAt w g (j * 6) l[j]) := by
    intro j hj
    obtain ⟨g, cap, hv, hg, he⟩ := ha.entAt j hj
    injection hv with e1 _ _
    exact ⟨g, e1, hg, he⟩
  have HB : Hid (∀ j (hj : j < l.length), ∃ g, ab = some ⟨g, 0, none⟩ ∧ g < w.heap.size ∧ EntAt w g (j * 6) l[j]) := by
    intro j hj
    obtain ⟨g, cap, hv, hg, he⟩ := hb.entAt j hj
    injection hv with e1 _ _
    exact ⟨g, e1, hg, he⟩
  obtain ⟨n, hn⟩ : ∃ n, n = l.length := ⟨_, rfl⟩
  rw [← hn]
  have HN : Hid (n = l.length) := hn
  rw [← hn] at hl
  clear ha hb hn
  go_enter Tryz.func41, Tryz.ntmps41
  go_wp2
  go_loopw [5] (fun k wr => ∃ j : Nat, j ≤ n ∧ k = .int .i64 j ∧ Hid (Below w.heap.size w wr)) (fun k _ => n - (intOf k).toNat)
  case atStart => exact ⟨0, Nat.zero_le _, rfl, Below.refl _ _⟩
  case round =>
    obtain ⟨j, hj, rfl, HBl⟩ := hrel
    by_cases hlt : j < n
    · obtain ⟨ga, hga, hgl, hea⟩ := HA.out j (by rw [← HN.out]; exact hlt)
      obtain ⟨gb, hgb, hgl', heb⟩ := HB.out j (by rw [← HN.out]; exact hlt)
      obtain ⟨e, he⟩ : ∃ e, e = l[j]'(by rw [← HN.out]; exact hlt) := ⟨_, rfl⟩
      rw [← he] at hea heb
      clear he
      obtain ⟨a0, a1, a2, a3, a4, a5⟩ := hea.same (HBl.out.block ga hgl)
      obtain ⟨c0, c1, c2, c3, c4, c5⟩ := heb.same (HBl.out.block gb hgl')
      have hza : ga < wr.heap.size := Nat.lt_of_lt_of_le hgl (Kept.of_below HBl.out (fun _ => False)).size
      have hzb : gb < wr.heap.size := Nat.lt_of_lt_of_le hgl' (Kept.of_below HBl.out (fun _ => False)).size
      clear hea heb
      subst hga
      subst hgb
      have hj0 : (0 : Int) ≤ (j : Int) := by omega
      have hj1 : (j : Int) < (n : Int) := by omega
      go_wp2
      go_roundw
      case rel => exact ⟨j + 1, by omega, by go_num, two_new HBl.out⟩
      case measure => simp [intOf]; omega
    · go_wp2
      go_ret
      exact ⟨rfl, HBl.out⟩

end Go.Proofs.YtpfcacedpkaihaaGreat

/- The law's memory at Puts, and its step at the kinds of memory (package almanaclaw), walked. -/
namespace Go.Proofs.YtpfcacedpkaihaaGreat
open Go.RowKit

/-- what memory leaves at Puts. -/
def PutsPost (w : World) (pb : Nat) (vps bv b1 b2 : Value) (commits most : Int) (bn : Nat) (vals : List Value) (m : Nat) (w' : World) : Prop :=
  ∃ (N : Nat) (ad : Nat → Option Addr) (cp : Nat → Nat) (v : Value), Blk w' N 51 (fourC m ad cp) ∧ w.heap.size ≤ N ∧
    (∀ k, k < 4 → ∀ t, t < m + k → ∃ g, ad k = some ⟨g, 0, none⟩ ∧ w.heap.size ≤ g ∧ Mk bn w' g t) ∧
    Row w' 49 1 v (bn + 1) (vals ++ [.slice (some ⟨N, 0, none⟩) 4 4]) ∧ Blk w' pb 34 (playC vps v b1 b2 commits most) ∧
    Kept (fun k => k = pb ∨ bv.ownBlock = some k) w w' ∧ (∀ k, v.ownBlock = some k → bv.ownBlock = some k ∨ w.heap.size ≤ k)

theorem puts_post {w w1 w2 w3 : World} {pb : Nat} {vps bv b1 b2 : Value} {commits most : Int} {bn : Nat} {vals : List Value} {m : Nat} {lV : Value} {e : Ending} (k1 : Kept (fun _ => False) w w1) (k2 : Kept (fun _ => False) w1 w2) (hl : ∀ k, lV.ownBlock = some k → w.heap.size ≤ k) (h : EPost w2 pb vps bv b1 b2 commits most bn vals lV m e w3) : PutsPost w pb vps bv b1 b2 commits most bn vals m w3 := by
  obtain ⟨_, N, ad, cp, v, hN, hs, hm, hr, hb, hk, hv⟩ := h
  have s1 := k1.size
  have s2 := k2.size
  refine ⟨N, ad, cp, v, hN, by omega, fun k hk t ht => ?_, hr, hb, ?_, fun k hk => (hv k hk).imp id (fun h => by omega)⟩
  · obtain ⟨g, e1, o1, m1⟩ := hm k hk t ht
    refine ⟨g, e1, ?_, m1⟩
    rcases o1 with h1 | h1
    · exact hl g h1
    · omega
  · refine (k1.trans k2 (H := fun _ => False) (fun _ => id) (fun _ _ => id)).trans hk (fun _ => False.elim) (fun k hk hf => ?_)
    rcases hf with h1 | h1 | h1
    · exact .inl h1
    · exact .inr h1
    · have := hl k h1; omega

set_option maxRecDepth 100000 in
set_option maxHeartbeats 1000000 in
theorem lmem_puts (w : World) (pb xb cb : Nat) (a b c : Int) (s : ByteArray) (ao : Option Addr) (n cap : Nat) (D : DevS) (R : RefS) (vps bv b1 b2 : Value) (commits most : Int) (bn : Nat) (vals : List Value) (h : Pair w xb cb D R) (hblk : Blk w pb 34 (playC vps bv b1 b2 commits most)) (hbv : Row w 49 1 bv bn vals) (hbn : (bn + 1) * 24 ≤ 140737488355328) :
    Calls Tryz.prog 16 #[.pointer (some ⟨pb, 0, none⟩), .agg #[.pointer (some ⟨xb, 0, none⟩), .pointer (some ⟨cb, 0, none⟩)], .agg #[.int .i64 8, .int .i64 a, .int .i64 b, .int .i64 c, .string s, .slice ao n cap]] w fun e w' => e = .returned (.bool true) ∧ Hid (PutsPost w pb vps bv b1 b2 commits most bn vals D.puts.length w') := by
  have hk := boxed_kept w xb cb 8 a b c s (.slice ao n cap)
  have hq := h.dfit.qmax
  have hsz := boxed_size w xb cb 8 a b c s (.slice ao n cap)
  obtain ⟨ap, cpp, hvu, _⟩ := h.ref.puts.form
  have H0 : Hid (Calls Tryz.prog 40 #[.pointer (some ⟨xb, 0, none⟩)] (boxed w xb cb 8 a b c s (.slice ao n cap)) fun e w1 => ∃ lo lc, e = .returned (.slice lo D.puts.length lc) ∧ w1.cell? ⟨w.heap.size, 1, none⟩ = some (.pointer (some ⟨cb, 0, none⟩)) ∧ w1.cell? ⟨cb, 5, none⟩ = some (.slice ap R.puts.length cpp) ∧ Hid (Row w1 55 6 (.slice lo D.puts.length lc) D.puts.length (D.puts.flatMap entC) ∧ Kept (fun _ => False) w w1 ∧ ∀ k, (Value.slice lo D.puts.length lc).ownBlock = some k → w.heap.size ≤ k)) := by
    refine (dputs _ xb D (h.kept hk fun _ _ => id).dev h.dfit).mono fun e w1 hp => ?_
    obtain ⟨v, e1, r1, r2, r3⟩ := hp
    obtain ⟨lo, lc, hv, _⟩ := r1.form
    subst e1 hv
    have hkk : Kept (fun _ => False) w w1 := hk.trans r2 (fun _ => id) (fun _ _ => id)
    refine ⟨lo, lc, rfl, boxed_c r2 (fun _ => False.elim), by rw [← hvu]; exact hkk.keep id h.ref.c5, r1, hkk, fun k hk => ?_⟩
    have := r3 k hk
    omega
  have H1 : Hid (∀ W lo lc, Row W 55 6 (.slice lo D.puts.length lc) D.puts.length (D.puts.flatMap entC) → Kept (fun _ => False) w W → Calls Tryz.prog 41 #[.slice lo D.puts.length lc, .slice ap R.puts.length cpp] W fun e w' => e = .returned (.bool true) ∧ Hid (Kept (fun _ => False) W w')) := by
    intro W lo lc hr hW
    have hp2 := h.ref.puts.kept hW (fun _ _ => id)
    rw [hvu, h.sim.puts] at hp2
    rw [h.sim.puts]
    exact (rsameEntries W _ _ D.puts (by omega) hr hp2).mono fun e w' hp => ⟨hp.1, Kept.of_below hp.2 _⟩
  have H2 : Hid (∀ W lo lc, Row W 55 6 (.slice lo D.puts.length lc) D.puts.length (D.puts.flatMap entC) → Kept (fun _ => False) w W → Calls Tryz.prog 42 #[.pointer (some ⟨pb, 1, none⟩), .slice lo D.puts.length lc] W fun e w' => e = .returned (.tuple #[]) ∧ Hid (EPost W pb vps bv b1 b2 commits most bn vals (.slice lo D.puts.length lc) D.puts.length (.returned (.tuple #[])) w')) := by
    intro W lo lc hr hW
    refine (lentries W pb vps bv b1 b2 commits most bn vals lo D.puts.length lc _ (hblk.kept hW id) (hbv.kept hW fun _ _ => id) hbn hr (by omega)).mono fun e w' hp => ?_
    have e1 := hp.1
    subst e1
    exact ⟨rfl, hp⟩
  have hpl := hblk.lt
  clear h hblk hbv hk hvu hsz
  go_enter Tryz.func16, Tryz.ntmps16
  go_wp2_with first
    | (go_at_call 40; refine H0.out.mono ?_; rintro e w1 ⟨lo, lc, rfl, q1, q2, HR⟩)
    | (go_at_call 41; refine (H1.out _ lo lc HR.out.1 HR.out.2.1).mono ?_; rintro e w2 ⟨rfl, HK2⟩)
    | (go_at_call 42; refine (H2.out _ lo lc (HR.out.1.kept HK2.out (fun _ _ => id)) (HR.out.2.1.trans HK2.out (fun _ => id) (fun _ _ => id))).mono ?_; rintro e w3 ⟨rfl, HE3⟩)
  go_ret
  exact ⟨rfl, puts_post HR.out.2.1 HK2.out HR.out.2.2 HE3.out⟩

set_option maxRecDepth 100000 in
set_option maxHeartbeats 1000000 in
theorem lstep_memory {B : Nat} {X : Nat → Prop} {w0 w : World} {pb : Nat} {ps : List PairE} {vps b0 b1 b2 : Value} {commits most : Int} (h : Inv B X w0 w pb ps vps b0 b1 b2 commits most) (kd a b c : Int) (s : ByteArray) (ao : Option Addr) (n cap : Nat) (hps : 0 < ps.length) (hpm : ps.length ≤ 4611686018427387904) (h2 : 8 ≤ kd) (h12 : kd ≤ 12) (ha0 : -9223372036854775808 ≤ a) (ha1 : a ≤ 9223372036854775807) (Q : World → Prop)
    (hrd : ∀ (W : World) (i : Nat) (p : PairE), ps[i]? = some p → Kept (fun _ => False) w W → Calls Tryz.prog 16 #[.pointer (some ⟨pb, 0, none⟩), .agg #[.pointer (some ⟨p.xb, 0, none⟩), .pointer (some ⟨p.cb, 0, none⟩)], .agg #[.int .i64 kd, .int .i64 a, .int .i64 b, .int .i64 c, .string s, .slice ao n cap]] W fun e w' => e = .returned (.bool true) ∧ Hid (Q w')) :
    Calls Tryz.prog 9 #[.pointer (some ⟨pb, 0, none⟩), .agg #[.int .i64 kd, .int .i64 a, .int .i64 b, .int .i64 c, .string s, .slice ao n cap]] w fun e w' => e = .returned (.bool true) ∧ Q w' := by
  have hk1 : (kd == 1) = false := beq_eq_false_iff_ne.mpr (by omega)
  have hk2 : (kd == 2) = false := beq_eq_false_iff_ne.mpr (by omega)
  have hk19 : (kd == 19) = false := beq_eq_false_iff_ne.mpr (by omega)
  obtain ⟨g, cv, hv, hog, hgl⟩ := h.row.block hps
  have c0 : w.cell? ⟨pb, 0, none⟩ = some vps := h.blk.cell 0
  rw [hv] at c0
  have hpl := h.blk.lt
  obtain ⟨m, hm⟩ : ∃ m, m = ps.length := ⟨_, rfl⟩
  obtain ⟨j, hj⟩ : ∃ j, j = pickN a m := ⟨_, rfl⟩
  have hjm : j < m := by rw [hj]; exact pickN_lt a (by omega)
  have HPK : Hid (∀ W, Calls Tryz.prog 13 #[.int .i64 a, .int .i64 m] W fun e w' => e = .returned (.int .i64 (j : Int)) ∧ W = w') := fun W => by rw [hj]; exact rpick W a m ha0 ha1 (by omega) (by omega)
  have hjp : j < ps.length := by omega
  obtain ⟨p, hp⟩ : ∃ p, p = ps[j] := ⟨_, rfl⟩
  have hget : ps[j]? = some p := by rw [hp]; exact List.getElem?_eq_getElem hjp
  have q0 := h.row.cell hog (j * 2) _ (by have := pair_at ps j hjp 0 (by omega); rw [Nat.add_zero] at this; rw [this]; rfl)
  have q1 := h.row.cell hog (j * 2 + 1) _ (by rw [pair_at ps j hjp 1 (by omega)]; rfl)
  rw [← hp] at q0 q1
  rw [← hm] at c0
  have hmz : ((m : Int) == 0) = false := beq_eq_false_iff_ne.mpr (by omega)
  have HRD : Hid (∀ W, Kept (fun _ => False) w W → Calls Tryz.prog 16 #[.pointer (some ⟨pb, 0, none⟩), .agg #[.pointer (some ⟨p.xb, 0, none⟩), .pointer (some ⟨p.cb, 0, none⟩)], .agg #[.int .i64 kd, .int .i64 a, .int .i64 b, .int .i64 c, .string s, .slice ao n cap]] W fun e w' => e = .returned (.bool true) ∧ Hid (Q w')) :=
    fun W hk => hrd W j p hget hk
  have hm1 : m ≤ 4611686018427387904 := by omega
  have hm0 : 0 < m := by omega
  generalize p.xb = xb at *
  generalize p.cb = cb at *
  clear hrd h hv hog hj hp hget hm hps hpm hjp
  go_enter Tryz.func9, Tryz.ntmps9
  go_wp2_with fail
  go_cut [5] (fun pp wx => pp = .pointer (some ⟨w.heap.size + 1, 0, none⟩) ∧ Hid (Kept (fun _ => False) w wx ∧ Blk wx w.heap.size 37 #[.int .i64 kd, .int .i64 a, .int .i64 b, .int .i64 c, .string s, .slice ao n cap] ∧ Blk wx (w.heap.size + 1) 44 #[.pointer (some ⟨xb, 0, none⟩), .pointer (some ⟨cb, 0, none⟩)]))
  case first =>
    go_region_held3 (fun w' => w'.cell? ⟨pb, 0, none⟩ = some (.slice (some ⟨g, 0, none⟩) m cv) ∧ w'.cell? ⟨w.heap.size, 1, none⟩ = some (.int .i64 a) ∧ w'.cell? ⟨g, j * 2, none⟩ = some (.pointer (some ⟨xb, 0, none⟩)) ∧ w'.cell? ⟨g, j * 2 + 1, none⟩ = some (.pointer (some ⟨cb, 0, none⟩))) (go_keep) ((go_at_call 13; refine (HPK.out _).mono ?_; rintro e w' ⟨rfl, rfl⟩))
    all_goals
      go_wp2
      go_meet
      case rel => exact ⟨rfl, ((Kept.alloc w _ (fun _ => False)).allocNew _).drew, boxes_two w _ _ _ _ _ rfl⟩
  case rest =>
    obtain ⟨rfl, HC⟩ := hcut
    have d0 : wc.cell? ⟨w.heap.size, 0, none⟩ = some (.int .i64 kd) := HC.out.2.1.cell 0
    have d1 : wc.cell? ⟨w.heap.size, 1, none⟩ = some (.int .i64 a) := HC.out.2.1.cell 1
    have d2 : wc.cell? ⟨w.heap.size, 2, none⟩ = some (.int .i64 b) := HC.out.2.1.cell 2
    have d3 : wc.cell? ⟨w.heap.size, 3, none⟩ = some (.int .i64 c) := HC.out.2.1.cell 3
    have d4 : wc.cell? ⟨w.heap.size, 4, none⟩ = some (.string s) := HC.out.2.1.cell 4
    have d5 : wc.cell? ⟨w.heap.size, 5, none⟩ = some (.slice ao n cap) := HC.out.2.1.cell 5
    have e0 : wc.cell? ⟨w.heap.size + 1, 0, none⟩ = some (.pointer (some ⟨xb, 0, none⟩)) := HC.out.2.2.cell 0
    have e1 : wc.cell? ⟨w.heap.size + 1, 1, none⟩ = some (.pointer (some ⟨cb, 0, none⟩)) := HC.out.2.2.cell 1
    have hk7 : decide (kd ≤ 7) = false := decide_eq_false (by omega)
    clear c0 q0 q1
    go_wp2_with (go_at_call 16; refine (HRD.out _ HC.out.1).mono ?_; rintro e w1 ⟨rfl, hs⟩)
    go_ret
    exact ⟨rfl, hs.out⟩

end Go.Proofs.YtpfcacedpkaihaaGreat

/- The law Reads (package almanaclaw): what holds between two steps. -/
namespace Go.Proofs.YtpfcacedpkaihaaGreat
open Go.RowKit

theorem PutsPost.from {w W w' : World} {pb : Nat} {vps bv b1 b2 : Value} {commits most : Int} {bn : Nat} {vals : List Value} {m : Nat} (h : PutsPost W pb vps bv b1 b2 commits most bn vals m w') (k : Kept (fun _ => False) w W) : PutsPost w pb vps bv b1 b2 commits most bn vals m w' := by
  obtain ⟨N, ad, cp, v, hN, hs, hm, hr, hb, hk, hv⟩ := h
  have s1 := k.size
  refine ⟨N, ad, cp, v, hN, by omega, fun q hq t ht => ?_, hr, hb, k.trans hk (fun _ => False.elim) (fun _ _ h => h), fun q hq => (hv q hq).imp id (fun h => by omega)⟩
  obtain ⟨g, e1, o1, m1⟩ := hm q hq t ht
  exact ⟨g, e1, by omega, m1⟩

/-- one list more in the book. -/
theorem Inv.note {B : Nat} {w0 w w' : World} {pb : Nat} {ps : List PairE} {vps bv b1 b2 : Value} {commits most : Int} {notes : List NoteE} {m : Nat} (h : Inv B (bookX bv notes) w0 w pb ps vps bv b1 b2 commits most) (hok : BookOk w bv notes) (hx : ∀ k, bookX bv notes k → B ≤ k) (hm : m ≤ 1000)
    (hp : PutsPost w pb vps bv b1 b2 commits most notes.length (notes.map noteV) m w') :
    ∃ v notes', Inv B (bookX v notes') w0 w' pb ps vps v b1 b2 commits most ∧ BookOk w' v notes' ∧ (∀ k, bookX v notes' k → B ≤ k) ∧ notes'.length = notes.length + 1 := by
  obtain ⟨N, ad, cp, v, hN, hs, hmk, hr, hb, hk, hv⟩ := hp
  have hBw : B ≤ w.heap.size := Nat.le_trans h.bsz h.below.size
  have hX' : ∀ k, bookX v (notes ++ [⟨N, m, ad, cp⟩]) k → bookX bv notes k ∨ w.heap.size ≤ k := by
    rintro k (h1 | ⟨e, he, h1⟩)
    · exact (hv k h1).imp .inl id
    · rw [List.mem_append] at he
      rcases he with he | he
      · exact .inl (.inr ⟨e, he, h1⟩)
      · simp at he
        subst he
        rcases h1 with rfl | ⟨q, hq, h0, e1⟩
        · exact .inr hs
        · obtain ⟨g, e2, o2, _⟩ := hmk q hq 0 h0
          have e1' : ad q = some ⟨k, 0, none⟩ := e1
          rw [e1'] at e2
          injection e2 with e2
          injection e2 with e2 _ _
          subst e2
          exact .inr o2
  have hF : ∀ k, (k = pb ∨ bv.ownBlock = some k) → B ≤ k := by
    rintro k (rfl | h1)
    · exact h.pB.1
    · exact hx k (.inl h1)
  have hok' : BookOk w' v (notes ++ [⟨N, m, ad, cp⟩]) := by
    refine ⟨by rw [List.length_append, List.map_append]; exact hr, fun i hi => ?_⟩
    by_cases hlt : i < notes.length
    · rw [List.getElem_append_left hlt]
      refine (hok.each i hlt).same fun b hb' => ?_
      have hXb : bookX bv notes b := .inr ⟨_, List.getElem_mem hlt, hb'⟩
      refine hk.block b (hok.lt b hXb) ?_
      rintro (rfl | h1)
      · exact h.pB.2 hXb
      · rcases hb' with rfl | ⟨q, hq, h0, e1⟩
        · exact hok.row.ne_block (hok.each i hlt).blk (by decide) h1
        · obtain ⟨g, e2, c, hbc, _⟩ := (hok.each i hlt).mark q hq 0 h0
          rw [e1] at e2
          injection e2 with e2
          injection e2 with e2 _ _
          subst e2
          exact hok.row.ne_block hbc (by decide) h1
    · have hii : i = notes.length := by simp at hi; omega
      subst hii
      rw [List.getElem_append_right (Nat.le_refl _)]
      simp only [Nat.sub_self, List.getElem_cons_zero]
      refine ⟨hN, fun q hq t ht => ?_, hm⟩
      obtain ⟨g, e1, _, m1⟩ := hmk q hq t ht
      exact ⟨g, e1, m1⟩
  refine ⟨v, notes ++ [⟨N, m, ad, cp⟩], ⟨below_kept h.below hk h.bsz hF, hb, h.row.kept hk ?_, fun p hp => (h.each p hp).kept hk ?_, h.sep, fun p hp k hpk => ?_, ⟨h.pB.1, fun hX => ?_⟩, fun k hvk => ⟨(h.vB k hvk).1, fun hX => ?_⟩, hok'.lt, h.bsz⟩, hok', fun k hX => ?_, by simp⟩
  · rintro k hvk (rfl | h1)
    · exact h.row.ne_block h.blk (by decide) hvk
    · exact (h.vB k hvk).2 (.inl h1)
  · rintro k hpk (rfl | h1)
    · exact (h.own p hp _ hpk).2.1 rfl
    · exact (h.own p hp k hpk).2.2.2 (.inl h1)
  · have o := h.own p hp k hpk
    refine ⟨o.1, o.2.1, o.2.2.1, fun hX => ?_⟩
    rcases hX' k hX with h1 | h1
    · exact o.2.2.2 h1
    · have := (h.each p hp).lt k hpk; omega
  · rcases hX' pb hX with h1 | h1
    · exact h.pB.2 h1
    · have := h.blk.lt; omega
  · rcases hX' k hX with h1 | h1
    · exact (h.vB k hvk).2 h1
    · have := h.row.lt k hvk; omega
  · rcases hX' k hX with h1 | h1
    · exact hx k h1
    · omega

/-- what holds between two steps of Reads. -/
def RInv (w0 : World) (most : Int) (k : Nat) (W : World) : Prop :=
  ∃ ps vps commits bv notes, Inv w0.heap.size (bookX bv notes) w0 W w0.heap.size ps vps bv nilV nilV commits most ∧ BookOk W bv notes ∧ (∀ j, bookX bv notes j → w0.heap.size ≤ j) ∧ ps.length ≤ k ∧ 0 ≤ commits ∧ commits ≤ (k : Int) ∧ notes.length ≤ k ∧ ∀ p ∈ ps, p.R.uses.length ≤ k

theorem RInv.of_spost {w0 w w' : World} {most : Int} {k : Nat} {ps : List PairE} {bv : Value} {notes : List NoteE} {commits : Int} {e : Ending} (hok : BookOk w bv notes) (hx : ∀ j, bookX bv notes j → w0.heap.size ≤ j) (r1 : ps.length ≤ k) (r2 : 0 ≤ commits) (r3 : commits ≤ (k : Int)) (r4 : notes.length ≤ k) (r5 : ∀ p ∈ ps, p.R.uses.length ≤ k)
    (hp : SPost w0.heap.size (bookX bv notes) w0 w w0.heap.size ps bv nilV nilV commits most e w') : e = .returned (.bool true) ∧ RInv w0 most (k + 1) w' := by
  obtain ⟨e1, hk, ps', vps', commits', hi', l1, l2, l3⟩ := hp
  exact ⟨e1, ps', vps', commits', bv, notes, hi', hok.same fun b hb => hk.block b (hok.lt b hb) (fun hn => hn hb), hx, by omega, by omega, by omega, by omega, l3 k r5⟩

theorem lstep_reads {w0 W : World} {most : Int} {k : Nat} (hI : RInv w0 most k W) (o : OpE) (ho : OpOk w0.heap.size w0 o) (hkd : o.kd = 1 ∨ o.kd = 2 ∨ o.kd = 3 ∨ o.kd = 5 ∨ o.kd = 6 ∨ o.kd = 7 ∨ o.kd = 8 ∨ o.kd = 9) (hkm : (k + 1) * 24 ≤ 140737488355328) :
    Calls Tryz.prog 9 #[.pointer (some ⟨w0.heap.size, 0, none⟩), .agg #[.int .i64 o.kd, .int .i64 o.a, .int .i64 o.b, .int .i64 o.c, .string o.s, .slice o.ao o.n o.cap]] W fun e w' => e = .returned (.bool true) ∧ RInv w0 most (k + 1) w' := by
  obtain ⟨ps, vps, commits, bv, notes, hi, hok, hx, r1, r2, r3, r4, r5⟩ := hI
  by_cases h16 : o.kd = 1 ∨ o.kd = 2 ∨ o.kd = 3 ∨ o.kd = 4 ∨ o.kd = 5 ∨ o.kd = 6
  · exact (lstep_begins hi o ho h16 (by omega) r2 (by omega) (fun p hp => by have := r5 p hp; omega)).mono fun e w' hp => RInv.of_spost hok hx r1 r2 r3 r4 r5 hp
  · by_cases hps : ps.length = 0
    · exact (lstep_none hi o.kd o.a o.b o.c o.s o.ao o.n o.cap hps (by omega) (by omega)).mono fun e w' hp => RInv.of_spost hok hx r1 r2 r3 r4 r5 hp
    · have hp0 : 0 < ps.length := by omega
      have hpm : ps.length ≤ 4611686018427387904 := by omega
      have h79 : o.kd = 7 ∨ o.kd = 8 ∨ o.kd = 9 := by omega
      rcases h79 with e7 | e8 | e9
      · refine (lstep_reader hi o.kd o.a o.b o.c o.s o.ao o.n o.cap hp0 hpm (by omega) (by omega) ho.a0 ho.a1 fun W xb cb D R hR hp => ?_).mono fun e w' hp => RInv.of_spost hok hx r1 r2 r3 r4 r5 hp
        rw [e7]
        obtain ⟨p, hp', rfl⟩ := hR
        exact lreader_read W w0.heap.size xb cb _ _ _ _ _ _ _ D _ hp (by have := r5 p hp'; omega) ho.str
      · refine (lstep_memory hi o.kd o.a o.b o.c o.s o.ao o.n o.cap hp0 hpm (by omega) (by omega) ho.a0 ho.a1 (fun w' => ∃ m, m ≤ 1000 ∧ PutsPost W w0.heap.size vps bv nilV nilV commits most notes.length (notes.map noteV) m w') fun W1 i p hget hk => ?_).mono fun e w' hp => ?_
        · rw [e8]
          have hpp := (hi.each p (List.mem_of_getElem? hget)).kept hk fun _ _ => id
          refine (lmem_puts W1 w0.heap.size p.xb p.cb _ _ _ _ _ _ _ p.D p.R vps bv nilV nilV commits most notes.length (notes.map noteV) hpp (hi.kept hk).blk (hok.kept hk).row (by omega)).mono fun e w' hp => ?_
          have := hpp.dfit.qmax
          exact ⟨hp.1, p.D.puts.length, by omega, hp.2.out.from hk⟩
        · obtain ⟨e1, m, hm, hpp⟩ := hp
          obtain ⟨v, notes', z1, z2, z3, z4⟩ := hi.note hok hx hm hpp
          exact ⟨e1, ps, vps, commits, v, notes', z1, z2, z3, by omega, r2, by omega, by omega, fun p hp => Nat.le_succ_of_le (r5 p hp)⟩
      · refine (lstep_memory hi o.kd o.a o.b o.c o.s o.ao o.n o.cap hp0 hpm (by omega) (by omega) ho.a0 ho.a1 (fun w' => SPost w0.heap.size (bookX bv notes) w0 W w0.heap.size ps bv nilV nilV commits most (.returned (.bool true)) w') fun W1 i p hget hk => ?_).mono fun e w' hp => ?_
        · rw [e9]
          have hpp := (hi.each p (List.mem_of_getElem? hget)).kept hk fun _ _ => id
          exact (lmem_drop W1 w0.heap.size p.xb p.cb _ _ _ _ _ _ _ p.D p.R hpp).mono fun e w' hp => ⟨hp.1, (SPost.of_turned (hi.kept hk) hget hp.2).from hk⟩
        · obtain ⟨e1, hs⟩ := hp
          exact ⟨e1, (RInv.of_spost hok hx r1 r2 r3 r4 r5 hs).2⟩

theorem bookX_nil (k : Nat) : ¬ bookX nilV [] k := by
  rintro (h | ⟨e, he, _⟩)
  · simp [nilV, Value.ownBlock] at h
  · cases he

theorem reads_plays (w0 : World) (ao : Option Addr) (n cap kb kcap : Nat) (os : List OpE) (hsc : Sc w0 ao n os) (hks : Ks w0 kb [1, 2, 3, 5, 6, 7, 8, 9]) (hn : n * 72 ≤ 140737488351232) (hok : ∀ o ∈ os, OpOk w0.heap.size w0 o) :
    Calls Tryz.prog 8 #[.slice ao n cap, .slice (some ⟨kb, 0, none⟩) 8 kcap, .int .i64 (n : Int)] w0 fun e w' => PlaysPost n (RInv w0 (n : Int)) e w' := by
  have hl := hsc.len
  refine lplays w0 ao n cap kb kcap os [1, 2, 3, 5, 6, 7, 8, 9] (n : Int) (RInv w0 (n : Int)) (fun k W => RInv w0 (n : Int) (k + 1) W) hsc hks (by omega) (by simp) ?_ ?_ ?_ ?_ ?_ ?_
  · rintro k W ⟨ps, vps, commits, bv, notes, hi, _⟩
    exact hi.below
  · exact ⟨[], nilV, 0, nilV, [], inv_start w0 _ _ bookX_nil, ⟨Row.nil _ _ _, fun i hi => by simp at hi⟩, fun j hj => absurd hj (bookX_nil j), by simp, by omega, by simp, by simp, fun p hp => (by cases hp)⟩
  · rintro k W W' ⟨ps, vps, commits, bv, notes, hi, hb, r⟩ hk
    exact ⟨ps, vps, commits, bv, notes, hi.kept hk, hb.kept hk, r⟩
  · rintro k W ⟨ps, vps, commits, bv, notes, hi, hb, hx, r1, r2, r3, r4, r5⟩
    exact ⟨ps, vps, commits, bv, notes, hi, hb, hx, by omega, r2, by omega, by omega, fun p hp => Nat.le_succ_of_le (r5 p hp)⟩
  · intro k W hk hI hany
    have hkd : os[k].kd = 1 ∨ os[k].kd = 2 ∨ os[k].kd = 3 ∨ os[k].kd = 5 ∨ os[k].kd = 6 ∨ os[k].kd = 7 ∨ os[k].kd = 8 ∨ os[k].kd = 9 := by simpa using hany
    exact lstep_reads hI os[k] (hok _ (List.getElem_mem hk)) hkd (by omega)
  · rintro k W hk ⟨ps, vps, commits, bv, notes, hi, hb, hx, r1, r2, r3, r4, r5⟩
    refine (lwhole W w0.heap.size bv notes hb (by omega) (hi.blk.cell 1) (hi.blk.cell 2) (hi.blk.cell 3)).mono fun e w' hp => ?_
    exact ⟨hp.1, ps, vps, commits, bv, notes, hi.kept hp.2, hb.kept hp.2, hx, r1, r2, r3, r4, r5⟩

theorem eight {j : Nat} (h : j < 8) : j = 0 ∨ j = 1 ∨ j = 2 ∨ j = 3 ∨ j = 4 ∨ j = 5 ∨ j = 6 ∨ j = 7 := by omega

set_option maxRecDepth 100000 in
set_option maxHeartbeats 1000000 in
theorem reads_any (w : World) (ao : Option Addr) (n cap : Nat) (os : List OpE) (hsc : Sc w ao n os) (hn : n * 72 ≤ 140737488351232) (hok : ∀ o ∈ os, OpOk w.heap.size w o) :
    Calls Tryz.prog 4 #[.slice ao n cap] w fun e w' => LawPost w e w' := by
  have HPL : Hid (Calls Tryz.prog 8 #[.slice ao n cap, .slice (some ⟨w.heap.size, 0, none⟩) 8 8, .int .i64 (n : Int)] (w.alloc (.cells #[.int .i64 1, .int .i64 2, .int .i64 3, .int .i64 5, .int .i64 6, .int .i64 7, .int .i64 8, .int .i64 9] 3)) fun e w' => e = .returned (.bool true) ∧ Hid (Below w.heap.size w w')) := by
    refine (reads_plays _ ao n cap w.heap.size 8 os (hsc.alloc _) ⟨by simp, fun j hj => ?_⟩ hn (fun o ho => (hok o ho).alloc _)).mono fun e w' hp => ?_
    · have hj8 : j < 8 := hj
      rcases eight hj8 with rfl | rfl | rfl | rfl | rfl | rfl | rfl | rfl <;> simp
    · obtain ⟨e1, ps, vps, commits, bv, notes, hi, _⟩ := hp
      exact ⟨e1, below_alloc hi.below⟩
  clear hsc hok
  go_enter Tryz.func4, Tryz.ntmps4
  go_wp2_with (go_at_call 8; refine HPL.out.mono ?_; rintro e w1 ⟨rfl, hb⟩)
  go_ret
  exact ⟨rfl, hb.out⟩

end Go.Proofs.YtpfcacedpkaihaaGreat
