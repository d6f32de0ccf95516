import Derived.Test.YtkednbbjofeecaaGreatDkSmSeLg
import Derived.Test.YtkednbbjofeecaaGreatDo
import Derived.Test.YtkednbbjofeecaaGreatHg
import Derived.Test.YtkednbbjofeecaaGreatRcRe
/- A world of the program's beside one of the document's: Read and Drop at both. -/
namespace Go.Proofs.YtkednbbjofeecaaGreat
open Go.RowKit

theorem lies_kept {w w' : World} {g : Nat} {ts : List (Nat × Nat)} (h : Lies w g ts) (hb : Below w.heap.size w w') : Lies w' g ts := h.below hb

/-- the document's own reader of queries, at a query that it takes. -/
theorem taken_of (q : ByteArray) (W : World) (ts : List (Nat × Nat)) (hr : Q.readL q.data.toList = (0, ts)) (h8 : ts.length ≤ 8) (hks : ∀ t ∈ ts, t.1 ≤ 3 ∧ t.2 ≤ 7) :
    Calls Tryz.prog 71 #[.string q] W fun e w' => ∃ l, e = .returned (.tuple #[l, .int .i64 0]) ∧ Below W.heap.size W w' ∧ Taken w' l (keysL ts) (fun p => evalL p.st ts) := by
  refine (rread_good q W ts hr).mono fun e w' hp => ?_
  obtain ⟨g, cap, e1, _, hl, hb⟩ := hp
  refine ⟨.slice (some ⟨g, 0, none⟩) ts.length cap, e1, hb, ⟨_, _, _, rfl⟩, fun V hV => ?_, fun p hp V hV => ?_⟩
  · refine (keysOf_any g cap ts V (hl.below hV) h8 hks).mono fun e2 w2 h2 => ?_
    obtain ⟨e3, rfl⟩ := h2
    exact ⟨e3, Below.refl _ _⟩
  · exact work_any g cap ts p.st V (hl.below hV) h8 hks hp

theorem readL_size {l : List UInt8} {ts : List (Nat × Nat)} (h : Q.readL l = (0, ts)) : l.length ≤ 40 := by
  by_cases hh : 40 < l.length
  · simp [Q.readL, hh] at h
  · omega

/-- no open reader has this number. -/
theorem gone_of {b top : Nat} {s : Nat → SeatE} {l : List RdrE} (h : SimR b s l top) {m : Int} (hall : ∀ i, i < 6 → (s i).reads = true → (s i).num ≠ m) : goneB l m = true := by
  by_cases h0 : m < 0
  · simp [goneB, h0]
  · by_cases h1 : (l.length : Int) ≤ m
    · simp [goneB, h1]
    · obtain ⟨j, rfl⟩ : ∃ j : Nat, m = j := ⟨m.toNat, by omega⟩
      have hlt : j < l.length := by omega
      have he : l[j].ended = true := by
        cases hh : l[j].ended with
        | true => rfl
        | false =>
          obtain ⟨i, hi, hr, hn⟩ := h.back j l[j] (List.getElem?_eq_getElem hlt) hh
          exact absurd hn (hall i hi hr)
      simp only [goneB, h0, h1, decide_false, Bool.false_or, Int.toNat_natCast, List.getElem?_eq_getElem hlt]
      exact he

theorem pair_read {w : World} {xb cb : Nat} {D : DevS} {R : RefS} (h : Pair w xb cb D R) (m : Int) (q : ByteArray) (hq : q.size ≤ maxLen) :
    ∃ x z : Int, Calls Tryz.prog 38 #[.pointer (some ⟨xb, 0, none⟩), .int .i64 m, .string q] w fun e w1 => e = .returned (.tuple #[.int .i32 x, .bool false, .int .i64 z]) ∧
      Then 39 #[.pointer (some ⟨cb, 0, none⟩), .int .i64 m, .string q] w w1 xb cb D R (.tuple #[.int .i32 x, .bool false, .int .i64 z]) := by
  by_cases hall : ∀ i, i < 6 → (D.seats i).reads = true → (D.seats i).num ≠ m
  · have hg := gone_of h.sim.rdr hall
    refine ⟨0, 8, (dread_gone w xb D m q h.dev hall).mono fun e w1 hp => ?_⟩
    obtain ⟨e1, k1⟩ := hp
    refine ⟨e1, k1.mono (fun _ => False.elim), fun w2 k2 => (wread_gone w2 cb R m q (h.ref_after (k1.mono (fun _ => False.elim)) k2) h.rfit hg).mono fun e w3 hq => ?_⟩
    exact ⟨hq.1, h.stays k1 k2 (Kept.of_below hq.2 _), Kept.of_below hq.2 _⟩
  · obtain ⟨j, hj, hr, hn⟩ : ∃ j, j < 6 ∧ (D.seats j).reads = true ∧ (D.seats j).num = m := by
      false_or_by_contra
      rename_i hn
      exact hall fun i hi hr e => hn ⟨i, hi, hr, e⟩
    obtain ⟨r, x, hnr, hx, he, hlo, hhi⟩ := h.sim.rdr.seat j hj hr
    have hm : m = r := by rw [← hn, hnr]
    have hg : goneB R.rdrs m = false := by rw [hm]; exact goneB_open hx he
    rcases Q.readL_cases q.data.toList with hrd | hrd | ⟨ts, hrd, hne, h8, hks⟩
    · refine ⟨0, 3, (dread_bad w xb D m q 3 j h.dev hj hr hn hq (by decide) hrd).mono fun e w1 hp => ?_⟩
      obtain ⟨e1, k1⟩ := hp
      refine ⟨e1, k1.mono (fun _ => False.elim), fun w2 k2 => (wread_bad w2 cb R m q 3 (h.ref_after (k1.mono (fun _ => False.elim)) k2) h.rfit hg (by decide) ((rread_bad q w2 3 hq hrd).mono fun e w3 h3 => ⟨⟨_, h3.1⟩, h3.2.2⟩)).mono fun e w3 hq => ?_⟩
      exact ⟨hq.1, h.stays k1 k2 (Kept.of_below hq.2 _), Kept.of_below hq.2 _⟩
    · refine ⟨0, 4, (dread_bad w xb D m q 4 j h.dev hj hr hn hq (by decide) hrd).mono fun e w1 hp => ?_⟩
      obtain ⟨e1, k1⟩ := hp
      refine ⟨e1, k1.mono (fun _ => False.elim), fun w2 k2 => (wread_bad w2 cb R m q 4 (h.ref_after (k1.mono (fun _ => False.elim)) k2) h.rfit hg (by decide) ((rread_bad q w2 4 hq hrd).mono fun e w3 h3 => ⟨⟨_, h3.1⟩, h3.2.2⟩)).mono fun e w3 hq => ?_⟩
      exact ⟨hq.1, h.stays k1 k2 (Kept.of_below hq.2 _), Kept.of_below hq.2 _⟩
    · have hsp := h.sim.rdr.span x (List.mem_of_getElem? hx)
      have hlen := h.sim.len
      have hsh : (D.seats j).hi ≤ D.past.length := by rw [← hhi]; exact hsp.2
      have hone : ∀ i, i < 6 → (D.seats i).reads = true → (D.seats i).num = m → i = j := fun i hi hri hni => h.sim.rdr.one i j hi hj hri hr (by rw [hni, hn])
      obtain ⟨p, hp⟩ : ∃ p, R.past[x.hi]? = some p := ⟨_, List.getElem?_eq_getElem (by omega)⟩
      obtain ⟨hst, hbd⟩ := at_st h.sim hp
      have hen : answerE D q ts (D.seats j).hi = rightE R.past q (keysL ts) ((fun p : PastE => evalL p.st ts) p) x.hi := by
        rw [← hhi, h.sim.past]
        show rightE _ q _ (evalL (stAt D.past x.hi) ts) _ = _
        rw [hst]
      obtain ⟨en, hEn⟩ : ∃ en, en = answerE D q ts (D.seats j).hi := ⟨_, rfl⟩
      have hfr : en.fr ≤ x.hi := by rw [hEn, hen]; exact fromN_le _ _ _
      have hnp := h.rfit.npos
      obtain ⟨nd, hnd⟩ : ∃ nd, R.nodes[sumB q.data.toList % R.nodes.length]? = some nd := ⟨_, List.getElem?_eq_getElem (Nat.mod_lt _ hnp)⟩
      have hcalm := h.sim.calm nd (List.mem_of_getElem? hnd)
      have hps := h.sim.puts
      have hqm := h.dfit.qmax
      refine ⟨en.val, 0, (dread_good w xb D m q ts j h.dev h.dfit hj hr hn hone hsh hrd).mono fun e w1 hd => ?_⟩
      rw [← hEn] at hd
      obtain ⟨e1, v, hd1, k1, f1⟩ := hd
      refine ⟨e1, k1, fun w2 k2 => ?_⟩
      have hq40 : q.size ≤ 40 := by have := readL_size hrd; rw [Array.length_toList] at this; exact this
      have hwr := wread_store w2 cb R r q x p nd (keysL ts) (fun p => evalL p.st ts) (h.ref_after k1 k2) h.rfit hx he hp hq40 hnd hcalm.2.1 (by rw [hps]; exact hqm) hbd (taken_of q w2 ts hrd h8 hks)
      rw [← hen, ← hEn] at hwr
      rw [hm]
      refine hwr.mono fun e w3 hr3 => ?_
      obtain ⟨e2, v', hr3, k3, f3⟩ := hr3
      refine ⟨e2, h.turned hd1 k1 f1 k2 hr3 k3 f3 ⟨h.sim.past, h.sim.clock, ?_, ?_, h.sim.calm, h.sim.bd⟩ ⟨h.dfit.pmax, h.dfit.clk0, h.dfit.clk1, h.dfit.bmax, ?_⟩ ⟨h.rfit.pos, h.rfit.pmax, h.rfit.clk0, h.rfit.clk1, ?_, h.rfit.npos, h.rfit.nmax, h.rfit.fmax⟩, k3⟩
      · exact h.sim.rdr.narrowS hj hr hnr hx hfr hlo hhi he
      · show (if R.puts.length < 10 then R.puts ++ [en] else R.puts) = (if D.puts.length < 10 then D.puts ++ [en] else D.puts)
        rw [hps]
      · show (if D.puts.length < 10 then D.puts ++ [en] else D.puts).length ≤ 10
        split
        · rw [List.length_append, List.length_singleton]; omega
        · exact hqm
      · show (R.rdrs.set r _).length ≤ 200
        rw [List.length_set]; exact h.rfit.rmax

theorem pair_drop {w : World} {xb cb : Nat} {D : DevS} {R : RefS} (h : Pair w xb cb D R) (i : Int) :
    ∃ r : Int, Calls Tryz.prog 43 #[.pointer (some ⟨xb, 0, none⟩), .int .i64 i] w fun e w1 => e = .returned (.int .i64 r) ∧
      Then 44 #[.pointer (some ⟨cb, 0, none⟩), .int .i64 i] w w1 xb cb D R (.int .i64 r) := by
  have hps := h.sim.puts
  have hqm := h.dfit.qmax
  have hpl : R.puts.length ≤ 10 := by rw [hps]; exact hqm
  by_cases hi : i < 0 ∨ (D.puts.length : Int) ≤ i
  · refine ⟨10, (ddrop w xb D i h.dev h.dfit).mono fun e w1 hp => ?_⟩
    rcases hp with ⟨_, e1, k1⟩ | ⟨a, c, _⟩
    · refine ⟨e1, k1.mono (fun _ => False.elim), fun w2 k2 => (rdrop w2 cb R i (h.ref_after (k1.mono (fun _ => False.elim)) k2) hpl).mono fun e w3 hq => ?_⟩
      rcases hq with ⟨_, e2, rfl⟩ | ⟨a, c, _⟩
      · exact ⟨e2, h.stays k1 k2 (Kept.refl _ _), Kept.refl _ _⟩
      · rw [hps] at c; omega
    · omega
  · refine ⟨0, (ddrop w xb D i h.dev h.dfit).mono fun e w1 hp => ?_⟩
    rcases hp with ⟨a, _⟩ | ⟨_, _, e1, v, hd, k1, f1⟩
    · exact absurd a hi
    · refine ⟨e1, k1, fun w2 k2 => (rdrop w2 cb R i (h.ref_after k1 k2) hpl).mono fun e w3 hq => ?_⟩
      rcases hq with ⟨a, _⟩ | ⟨_, _, e2, v', hr3, k3, f3⟩
      · rw [hps] at a; exact absurd a hi
      · refine ⟨e2, h.turned hd k1 f1 k2 hr3 k3 f3 ⟨h.sim.past, h.sim.clock, h.sim.rdr, ?_, h.sim.calm, h.sim.bd⟩ ⟨h.dfit.pmax, h.dfit.clk0, h.dfit.clk1, h.dfit.bmax, ?_⟩ ⟨h.rfit.pos, h.rfit.pmax, h.rfit.clk0, h.rfit.clk1, h.rfit.rmax, h.rfit.npos, h.rfit.nmax, h.rfit.fmax⟩, k3⟩
        · show R.puts.eraseIdx i.toNat = D.puts.eraseIdx i.toNat
          rw [hps]
        · show (D.puts.eraseIdx i.toNat).length ≤ 10
          exact Nat.le_trans (List.length_eraseIdx_le ..) hqm

end Go.Proofs.YtkednbbjofeecaaGreat

/- The law's reader at Read and memory at Drop (package almanaclaw), walked. -/
namespace Go.Proofs.YtkednbbjofeecaaGreat
open Go.RowKit

theorem boxed_s {w w1 : World} {xb cb : Nat} {kd a b c : Int} {s : ByteArray} {l : Value} {F : Nat → Prop} (k : Kept F (boxed w xb cb kd a b c s l) w1) (hF : ∀ i, F i → i < w.heap.size) : w1.cell? ⟨w.heap.size + 1, 4, none⟩ = some (.string s) :=
  k.keep (fun hf => by have := hF _ hf; simp at this; omega) (by simp [boxed])

set_option maxRecDepth 100000 in
set_option maxHeartbeats 1000000 in
theorem lreader_read (w : World) (pb xb cb : Nat) (a b c : Int) (s : ByteArray) (ao : Option Addr) (n cap : Nat) (D : DevS) (R : RefS) (h : Pair w xb cb D R) (hs : s.size ≤ maxLen) :
    Calls Tryz.prog 15 #[.pointer (some ⟨pb, 0, none⟩), .agg #[.pointer (some ⟨xb, 0, none⟩), .pointer (some ⟨cb, 0, none⟩)], .agg #[.int .i64 7, .int .i64 a, .int .i64 b, .int .i64 c, .string s, .slice ao n cap]] w fun e w' => StepPost w xb cb D R e w' := by
  have hk := boxed_kept w xb cb 7 a b c s (.slice ao n cap)
  obtain ⟨x, z, hr⟩ := pair_read (h.kept hk fun _ _ => id) b s hs
  have H0 : Hid (Calls Tryz.prog 38 #[.pointer (some ⟨xb, 0, none⟩), .int .i64 b, .string s] (boxed w xb cb 7 a b c s (.slice ao n cap)) fun e w1 => e = .returned (.tuple #[.int .i32 x, .bool false, .int .i64 z]) ∧ Hid (Then 39 #[.pointer (some ⟨cb, 0, none⟩), .int .i64 b, .string s] (boxed w xb cb 7 a b c s (.slice ao n cap)) w1 xb cb D R (.tuple #[.int .i32 x, .bool false, .int .i64 z]))) := hr
  have HK : Hid (Kept (fun _ => False) w (boxed w xb cb 7 a b c s (.slice ao n cap))) := hk
  have HL : Hid (∀ i, D.fp xb i → i < w.heap.size) := h.dev.lt
  clear hr hk h hs
  go_enter Tryz.func15, Tryz.ntmps15
  go_wp2_with first
    | (go_at_call 38; refine H0.out.mono ?_; rintro e w1 ⟨rfl, ht⟩; have q1 := boxed_c ht.out.1 HL.out; have q2 := boxed_b ht.out.1 HL.out; have q4 := boxed_s ht.out.1 HL.out)
    | (go_at_call 39; refine (ht.out.2 _ (Kept.refl _ _)).mono ?_; rintro e w3 ⟨rfl, hz, _⟩; have HZ : Hid (Turned (boxed w xb cb 7 a b c s (.slice ao n cap)) w3 xb cb D R) := hz; clear hz)
  go_ret
  exact ⟨rt_bool (by simp), HZ.out.from HK.out⟩

set_option maxRecDepth 100000 in
set_option maxHeartbeats 1000000 in
theorem lmem_drop (w : World) (pb xb cb : Nat) (a b c : Int) (s : ByteArray) (ao : Option Addr) (n cap : Nat) (D : DevS) (R : RefS) (h : Pair w xb cb D R) :
    Calls Tryz.prog 16 #[.pointer (some ⟨pb, 0, none⟩), .agg #[.pointer (some ⟨xb, 0, none⟩), .pointer (some ⟨cb, 0, none⟩)], .agg #[.int .i64 9, .int .i64 a, .int .i64 b, .int .i64 c, .string s, .slice ao n cap]] w fun e w' => StepPost w xb cb D R e w' := by
  have hk := boxed_kept w xb cb 9 a b c s (.slice ao n cap)
  obtain ⟨r, hr⟩ := pair_drop (h.kept hk fun _ _ => id) b
  have H0 : Hid (Calls Tryz.prog 43 #[.pointer (some ⟨xb, 0, none⟩), .int .i64 b] (boxed w xb cb 9 a b c s (.slice ao n cap)) fun e w1 => e = .returned (.int .i64 r) ∧ Hid (Then 44 #[.pointer (some ⟨cb, 0, none⟩), .int .i64 b] (boxed w xb cb 9 a b c s (.slice ao n cap)) w1 xb cb D R (.int .i64 r))) := hr
  have HK : Hid (Kept (fun _ => False) w (boxed w xb cb 9 a b c s (.slice ao n cap))) := hk
  have HL : Hid (∀ i, D.fp xb i → i < w.heap.size) := h.dev.lt
  clear hr hk h
  go_enter Tryz.func16, Tryz.ntmps16
  go_wp2_with first
    | (go_at_call 43; refine H0.out.mono ?_; rintro e w1 ⟨rfl, ht⟩; have q1 := boxed_c ht.out.1 HL.out; have q2 := boxed_b ht.out.1 HL.out)
    | (go_at_call 44; refine (ht.out.2 _ (Kept.refl _ _)).mono ?_; rintro e w3 ⟨rfl, hz, _⟩; have HZ : Hid (Turned (boxed w xb cb 9 a b c s (.slice ao n cap)) w3 xb cb D R) := hz; clear hz)
  go_ret
  exact ⟨rt_bool (by simp), HZ.out.from HK.out⟩

end Go.Proofs.YtkednbbjofeecaaGreat
