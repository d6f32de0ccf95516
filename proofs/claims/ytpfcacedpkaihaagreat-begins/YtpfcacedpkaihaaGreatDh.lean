/- The program's calls (package almanac): New, Commit, Tick, Now, Begin, End, walked. -/
import Derived.Test.YtpfcacedpkaihaaGreatDdDe
import Derived.Test.YtpfcacedpkaihaaGreatDfDg
namespace Go.Proofs.YtpfcacedpkaihaaGreat
open Go.RowKit

set_option maxHeartbeats 400000 in
theorem dnew_nodes (n r : Int) (w : World) (h : n < 1 ∨ 3 < n) :
    Calls Tryz.prog 23 #[.int .i64 n, .int .i64 r] w fun e w' => e = .returned (.tuple #[.pointer none, .int .i64 1]) ∧ w = w' := by
  by_cases h0 : n < 1
  · have hd : decide (n < 1) = true := by simpa using h0
    go_enter Tryz.func23, Tryz.ntmps23
    go_wp2
    go_ret2
    exact ⟨rfl, rfl⟩
  · have hd : decide (n < 1) = false := by simpa using h0
    have h1 : 3 < n := by omega
    go_enter Tryz.func23, Tryz.ntmps23
    go_wp2
    go_ret2
    exact ⟨rfl, rfl⟩

set_option maxHeartbeats 400000 in
theorem dnew_room (n r : Int) (w : World) (h1 : 1 ≤ n) (h2 : n ≤ 3) (h : r < 1 ∨ 6 < r) :
    Calls Tryz.prog 23 #[.int .i64 n, .int .i64 r] w fun e w' => e = .returned (.tuple #[.pointer none, .int .i64 2]) ∧ w = w' := by
  have hd0 : decide (n < 1) = false := by simp; omega
  by_cases h0 : r < 1
  · have hd : decide (r < 1) = true := by simpa using h0
    go_enter Tryz.func23, Tryz.ntmps23
    go_wp2
    go_ret2
    exact ⟨rfl, rfl⟩
  · have hd : decide (r < 1) = false := by simpa using h0
    have h3 : 6 < r := by omega
    go_enter Tryz.func23, Tryz.ntmps23
    go_wp2
    go_ret2
    exact ⟨rfl, rfl⟩

set_option maxHeartbeats 400000 in
theorem dtick (w : World) (b : Nat) (D : DevS) (h : Dev w b D) (hf : D.Fit) :
    Calls Tryz.prog 31 #[.pointer (some ⟨b, 0, none⟩)] w fun e w' => DTickPost w b D e w' := by
  have H0 : Hid (Calls Tryz.prog 79 #[.pointer (some ⟨b, 0, none⟩)] w fun e w' => DTickPost w b D e w') := dtick0 w b D h hf
  by_cases hc : D.clock < 100000
  · have H1 : Hid (Calls Tryz.prog 79 #[.pointer (some ⟨b, 0, none⟩)] w fun e w' => e = .returned (.int .i64 0) ∧ Hid (Dev w' b { D with clock := D.clock + 1 } ∧ Kept (D.fp b) w w')) := H0.out.mono fun e w' hp => by
      rcases hp with ⟨a, _⟩ | ⟨_, e2, r⟩
      · omega
      · exact ⟨e2, r⟩
    clear H0 h hf
    go_enter Tryz.func31, Tryz.ntmps31
    go_wp2_with (go_at_call 79; refine H1.out.mono ?_; rintro e w1 ⟨rfl, hr⟩)
    go_ret
    exact .inr ⟨hc, rfl, hr.out⟩
  · have H1 : Hid (Calls Tryz.prog 79 #[.pointer (some ⟨b, 0, none⟩)] w fun e w' => e = .returned (.int .i64 6) ∧ w = w') := H0.out.mono fun e w' hp => by
      rcases hp with ⟨_, e2, r⟩ | ⟨a, _⟩
      · exact ⟨e2, r⟩
      · omega
    have hc1 := hf.clk1
    clear H0 h hf
    go_enter Tryz.func31, Tryz.ntmps31
    go_wp2_with (go_at_call 79; refine H1.out.mono ?_; rintro e w1 ⟨rfl, rfl⟩)
    go_ret
    exact .inl ⟨by omega, rfl, rfl⟩

set_option maxHeartbeats 400000 in
theorem dnow (w : World) (b : Nat) (D : DevS) (h : Dev w b D) (hf : D.Fit) :
    Calls Tryz.prog 33 #[.pointer (some ⟨b, 0, none⟩)] w fun e w' => e = .returned (.tuple #[.int .u64 (D.past.length : Int), .int .i64 D.clock]) ∧ w = w' := by
  have H0 : Hid (Calls Tryz.prog 80 #[.pointer (some ⟨b, 0, none⟩)] w fun e w' => e = .returned (.int .u64 (D.past.length : Int)) ∧ w = w') := dnewest w b D h hf
  have H1 : Hid (Calls Tryz.prog 81 #[.pointer (some ⟨b, 0, none⟩)] w fun e w' => e = .returned (.int .i64 D.clock) ∧ w = w') := dclock_c w b D.clock h.c0
  clear h hf
  go_enter Tryz.func33, Tryz.ntmps33
  go_wp2_with first
    | (go_at_call 80; refine H0.out.mono ?_; rintro e w1 ⟨rfl, rfl⟩)
    | (go_at_call 81; refine H1.out.mono ?_; rintro e w1 ⟨rfl, rfl⟩)
  go_ret2
  exact ⟨rfl, rfl⟩

/-- what Commit leaves. -/
def DCPost (w : World) (b : Nat) (D : DevS) (n : Nat) (ws : List (Int × Int)) (e : Ending) (w' : World) : Prop :=
  (8 < n ∧ e = .returned (.tuple #[.int .u64 0, .int .i64 3]) ∧ w = w') ∨ (n ≤ 8 ∧ DCommitPost w b D ws e w')
theorem DCPost.form {w w' : World} {b n : Nat} {D : DevS} {ws : List (Int × Int)} {e : Ending} (h : DCPost w b D n ws e w') : ∃ x y : Int, e = .returned (.tuple #[.int .u64 x, .int .i64 y]) := by
  rcases h with ⟨_, e1, _⟩ | ⟨_, ⟨_, e1, _⟩ | ⟨_, _, e1, _⟩ | ⟨_, _, e1, _⟩⟩ <;> exact ⟨_, _, e1⟩
theorem dcommit1 (w : World) (b : Nat) (D : DevS) (ao : Option Addr) (n cap : Nat) (ws : List (Int × Int)) (h : Dev w b D) (hf : D.Fit) (hw : Wr w ao n ws) (hm : n ≤ maxLen) :
    Calls Tryz.prog 74 #[.pointer (some ⟨b, 0, none⟩), .slice ao n cap] w fun e w' => DCPost w b D n ws e w' := by
  by_cases hn : n ≤ 8
  · exact (dcommit0 w b D ao n cap ws h hf hw hn).mono fun e w' hp => .inr ⟨hn, hp⟩
  · exact (dcommit_long w b ao n cap (by omega) hm).mono fun e w' hp => .inl ⟨by omega, hp⟩

/-- what Begin leaves, with a limit that may be. -/
def DBegPost (w : World) (b : Nat) (D : DevS) (limit : Int) (e : Ending) (w' : World) : Prop := ∃ lo, First D.past (D.clock - limit) lo ∧ DBeginPost w b D lo D.past.length e w'

theorem DBeginPost.form {w w' : World} {b lo hi : Nat} {D : DevS} {e : Ending} (h : DBeginPost w b D lo hi e w') : ∃ x y : Int, e = .returned (.tuple #[.int .i64 x, .int .i64 y]) := by
  rcases h with ⟨_, e1, _⟩ | ⟨_, _, _, _, e1, _⟩ | ⟨_, _, _, _, e1, _⟩
  · exact ⟨_, _, e1⟩
  · exact ⟨_, _, e1⟩
  · exact ⟨_, _, e1⟩
theorem DBeginPost.from {w w1 w' : World} {b lo hi : Nat} {D : DevS} {e : Ending} (h : DBeginPost w1 b D lo hi e w') (k : Kept (fun _ => False) w w1) : DBeginPost w b D lo hi e w' := by
  rcases h with ⟨a, e1, r⟩ | ⟨j, hj, hr, hb, e1, r⟩ | ⟨j, hj, hr, hb, e1, r1, r2⟩
  · exact .inl ⟨a, e1, k.trans r (fun _ => id) (fun _ _ => id)⟩
  · exact .inr (.inl ⟨j, hj, hr, hb, e1, k.trans r (fun _ => id) (fun _ _ => id)⟩)
  · exact .inr (.inr ⟨j, hj, hr, hb, e1, r1, k.trans r2 (fun _ => False.elim) (fun _ _ => id)⟩)

set_option maxHeartbeats 400000 in
theorem dbegin_bad (w : World) (b : Nat) (limit : Int) (hl : limit < 0 ∨ 100000 < limit) :
    Calls Tryz.prog 34 #[.pointer (some ⟨b, 0, none⟩), .int .i64 limit] w fun e w' => e = .returned (.tuple #[.int .i64 0, .int .i64 10]) ∧ w = w' := by
  by_cases h0 : limit < 0
  · have hd : decide (limit < 0) = true := by simpa using h0
    go_enter Tryz.func34, Tryz.ntmps34
    go_wp2
    go_ret2
    exact ⟨rfl, rfl⟩
  · have hd : decide (limit < 0) = false := by simpa using h0
    have h1 : 100000 < limit := by omega
    go_enter Tryz.func34, Tryz.ntmps34
    go_wp2
    go_ret2
    exact ⟨rfl, rfl⟩

set_option maxHeartbeats 1000000 in
theorem dbegin (w : World) (b : Nat) (D : DevS) (limit : Int) (h : Dev w b D) (hf : D.Fit) (hl0 : 0 ≤ limit) (hl1 : limit ≤ 100000) :
    Calls Tryz.prog 34 #[.pointer (some ⟨b, 0, none⟩), .int .i64 limit] w fun e w' => DBegPost w b D limit e w' := by
  have hc0 := hf.clk0
  have hc1 := hf.clk1
  have hd : decide (limit < 0) = false := by simp; omega
  have H0 : Hid (∀ w1, Dev w1 b D → Calls Tryz.prog 80 #[.pointer (some ⟨b, 0, none⟩)] w1 fun e w' => e = .returned (.int .u64 (D.past.length : Int)) ∧ w1 = w') := fun w1 h1 => dnewest w1 b D h1 hf
  have H1 : Hid (Calls Tryz.prog 81 #[.pointer (some ⟨b, 0, none⟩)] w fun e w' => e = .returned (.int .i64 D.clock) ∧ w = w') := dclock_c w b D.clock h.c0
  have H2 : Hid (Calls Tryz.prog 82 #[.pointer (some ⟨b, 0, none⟩), .int .i64 (D.clock - limit)] w fun e w' => ∃ j : Nat, e = .returned (.int .u64 (j : Int)) ∧ Hid (First D.past (D.clock - limit) j) ∧ Hid (Kept (fun _ => False) w w' ∧ Dev w' b D)) := (dsince w b D (D.clock - limit) h hf).mono fun e w' hp => by
    obtain ⟨j, h1, h2, h3⟩ := hp
    exact ⟨j, h2, h1, h3, h.kept h3 (fun _ _ => id)⟩
  have H3 : Hid (∀ w1 (lo : Nat), Dev w1 b D → Calls Tryz.prog 83 #[.pointer (some ⟨b, 2, none⟩), .agg #[.int .u64 (lo : Int), .int .u64 (D.past.length : Int)]] w1 fun e w' => ∃ x y : Int, e = .returned (.tuple #[.int .i64 x, .int .i64 y]) ∧ Hid (DBeginPost w1 b D lo D.past.length (.returned (.tuple #[.int .i64 x, .int .i64 y])) w')) := fun w1 lo h1 => (dbegin0 w1 b D lo D.past.length h1 hf).mono fun e w' hp => by
    obtain ⟨x, y, rfl⟩ := hp.form
    exact ⟨x, y, rfl, hp⟩
  clear h hf
  go_enter Tryz.func34, Tryz.ntmps34
  go_wp2_with first
    | (go_at_call 80; refine (H0.out _ hz.out.2).mono ?_; rintro e w2 ⟨rfl, rfl⟩)
    | (go_at_call 81; refine H1.out.mono ?_; rintro e w2 ⟨rfl, rfl⟩)
    | (go_at_call 82; refine H2.out.mono ?_; rintro e w1 ⟨j, rfl, hj, hz⟩)
    | (go_at_call 83; refine (H3.out _ _ hz.out.2).mono ?_; rintro e w3 ⟨x, y, rfl, hr⟩)
  go_ret2
  exact ⟨j, hj.out, hr.out.from hz.out.1⟩

theorem DEndPost.form {w w' : World} {b : Nat} {D : DevS} {m : Int} {e : Ending} (h : DEndPost w b D m e w') : ∃ x y z : Int, e = .returned (.tuple #[.agg #[.int .u64 x, .int .u64 y], .int .i64 z]) := by
  rcases h with ⟨_, e1, _⟩ | ⟨_, _, _, _, e1, _⟩
  · exact ⟨_, _, _, e1⟩
  · exact ⟨_, _, _, e1⟩
theorem DEndPost.from {w w1 w' w2 : World} {b : Nat} {D : DevS} {m : Int} {e : Ending} (h : DEndPost w1 b D m e w') (hD : ∀ i, D.fp b i → i < w.heap.size) (k : Kept (fun _ => False) w w1) {F : Nat → Prop} (k2 : Kept F w' w2) (hF : ∀ i, F i → w.heap.size ≤ i) : DEndPost w b D m e w2 := by
  rcases h with ⟨a, e1, r⟩ | ⟨j, hj, hr, hb, e1, r1, r2⟩
  · exact .inl ⟨a, e1, (k.trans r (fun _ => id) (fun _ _ => id)).trans k2 (fun _ => id) (fun i hi hf => by have := hF i hf; omega)⟩
  · exact .inr ⟨j, hj, hr, hb, e1, Dev.besides ⟨r1, k.trans r2 (fun _ => False.elim) (fun _ _ => id)⟩ k2 hF hD⟩

set_option maxHeartbeats 1000000 in
theorem dend (w : World) (b : Nat) (D : DevS) (m : Int) (h : Dev w b D) :
    Calls Tryz.prog 36 #[.pointer (some ⟨b, 0, none⟩), .int .i64 m] w fun e w' => DEndPost w b D m e w' := by
  have HLT : Hid (∀ i, D.fp b i → i < w.heap.size) := h.lt
  have H3 : Hid (∀ o, Calls Tryz.prog 85 #[.pointer (some ⟨b, 2, none⟩), .int .i64 m] (w.alloc o) fun e w' => ∃ x y z : Int, e = .returned (.tuple #[.agg #[.int .u64 x, .int .u64 y], .int .i64 z]) ∧ Hid (DEndPost (w.alloc o) b D m (.returned (.tuple #[.agg #[.int .u64 x, .int .u64 y], .int .i64 z])) w') ∧ w'.heap[w.heap.size]? = (w.alloc o).heap[w.heap.size]?) := fun o => (dend0 (w.alloc o) b D m (h.kept (Kept.alloc w o (fun _ => False)) (fun _ _ => id))).mono fun e w' hp => by
    obtain ⟨x, y, z, rfl⟩ := hp.form
    refine ⟨x, y, z, rfl, hp, ?_⟩
    rcases hp with ⟨_, _, r⟩ | ⟨_, _, _, _, _, _, r⟩
    · exact r.block _ (by simp) id
    · exact r.block _ (by simp) fun hh => by have := h.lt _ hh; omega
  clear h
  go_enter Tryz.func36, Tryz.ntmps36
  go_wp2_with (go_at_call 85; refine (H3.out _).mono ?_; rintro e w1 ⟨x, y, z, rfl, hr, hb1⟩; have p0 : w1.cell? ⟨w.heap.size, 0, none⟩ = some (.int .u64 0) := (World.cell?_of_block (a := ⟨w.heap.size, 0, none⟩) hb1).trans (by simp); have p1 : w1.cell? ⟨w.heap.size, 1, none⟩ = some (.int .u64 0) := (World.cell?_of_block (a := ⟨w.heap.size, 1, none⟩) hb1).trans (by simp); have g0 : w1.frozen? ⟨w.heap.size, 0, none⟩ = false := (World.frozen?_of_block (a := ⟨w.heap.size, 0, none⟩) hb1).trans (by simp); have g1 : w1.frozen? ⟨w.heap.size, 1, none⟩ = false := (World.frozen?_of_block (a := ⟨w.heap.size, 1, none⟩) hb1).trans (by simp))
  refine bodyPost_ret (v := .tuple #[.agg #[.int .u64 x, .int .u64 y], .int .i64 z]) (by simp [results, Tryz.results36, go_sem, *]) rfl ?_
  exact hr.out.from HLT.out (Kept.alloc _ _ _) ((Kept.setCell _ ⟨w.heap.size, 0, none⟩ (.int .u64 x)).trans (Kept.setCell _ ⟨w.heap.size, 1, none⟩ (.int .u64 y)) (H := fun k => k = w.heap.size) (fun _ => id) (fun _ _ => id)) (fun i hi => Nat.le_of_eq hi.symm)

end Go.Proofs.YtpfcacedpkaihaaGreat
