/- The law's opened (package almanaclaw), walked. -/
import Derived.Test.YtkednbbjofeecaaGreatLi
namespace Go.Proofs.YtkednbbjofeecaaGreat
open Go.RowKit

theorem Tryz.infoPair : (Tryz.prog.info? 44).map (fun i => (i.zero, i.size, i.bytes)) = some (some (.agg #[.pointer none, .pointer none]), 2, 16) := by kernel_rfl

theorem sim_new (r : Int) (n : Nat) (vp vn : Value) : Sim zeroD (newR r n vp vn) := by
  refine ⟨rfl, rfl, ⟨rfl, ?_, ?_, ?_, rfl, ?_⟩, rfl, ?_⟩
  · intro i _ h; cases h
  · intro j x h; simp [newR] at h
  · intro i k _ _ h; cases h
  · intro x h; simp [newR] at h
  · intro nd h
    have : nd = upN := List.eq_of_mem_replicate h
    subst this
    exact ⟨rfl, rfl, rfl⟩
theorem fit_new (r : Int) (n : Nat) (vp vn : Value) (h1 : 1 ≤ n) (h3 : n ≤ 3) : (newR r n vp vn).Fit := by
  refine ⟨by simp [newR], by simp [newR], by simp [newR], by simp [newR], by simp [newR], ?_, ?_, ?_⟩
  · show 0 < (List.replicate n upN).length; rw [List.length_replicate]; omega
  · show (List.replicate n upN).length ≤ 3; rw [List.length_replicate]; omega
  · intro nd h
    have : nd = upN := List.eq_of_mem_replicate h
    subst this
    exact ⟨by simp [upN, zeroN], by simp [upN, zeroN], by simp [upN, zeroN]⟩

theorem pair_new {w w1 w2 : World} {r : Int} {n : Nat} {xb : Nat} {vp vn : Value} (h1 : 1 ≤ n) (h3 : n ≤ 3) (hd : Dev w1 xb zeroD) (hx : w.heap.size ≤ xb) (hL : NewL w1 w2 r n vp vn) :
    Pair w2 xb w1.heap.size zeroD (newR r n vp vn) ∧ ∀ k, pfp xb w1.heap.size zeroD (newR r n vp vn) k → w.heap.size ≤ k ∧ k < w2.heap.size := by
  have hxl := hd.blk.lt
  have hp : Pair w2 xb w1.heap.size zeroD (newR r n vp vn) := ⟨hd.kept hL.kept (fun _ _ => id), hL.ref, sim_new r n vp vn, zeroD_fit, fit_new r n vp vn h1 h3, fun k hk hr => by
    have := zeroD_fp _ _ hk
    have := hL.new k hr
    omega⟩
  refine ⟨hp, fun k hk => ⟨?_, hp.lt k hk⟩⟩
  rcases hk with hk | hk
  · rw [zeroD_fp _ _ hk]; exact hx
  · have := hL.new k hk; omega

/-- what opened leaves: nothing new, or one pair more. -/
def OpenPost (w : World) (pb : Nat) (vps b0 b1 b2 : Value) (commits most : Int) (m : Nat) (xs : List Value) (e : Ending) (w' : World) : Prop :=
  e = .returned (.bool true) ∧ (Kept (fun _ => False) w w' ∨ ∃ (xb cb : Nat) (D : DevS) (R : RefS) (v : Value), Pair w' xb cb D R ∧ Row w' 44 2 v (m + 1) (xs ++ [.pointer (some ⟨xb, 0, none⟩), .pointer (some ⟨cb, 0, none⟩)]) ∧
    Blk w' pb 34 (playC v b0 b1 b2 commits most) ∧ Kept (fun k => k = pb ∨ vps.ownBlock = some k) w w' ∧ (∀ k, pfp xb cb D R k → w.heap.size ≤ k) ∧
    (∀ k, v.ownBlock = some k → vps.ownBlock = some k ∨ w.heap.size ≤ k) ∧ (∀ k, pfp xb cb D R k → v.ownBlock ≠ some k))

theorem open_done {w w2 w3 : World} {pb xb cb : Nat} {D : DevS} {R : RefS} {vps b0 b1 b2 v : Value} {commits most : Int} {m : Nat} {xs : List Value} {o : Obj} (hblk : Blk w pb 34 (playC vps b0 b1 b2 commits most)) (hrow : Row w 44 2 vps m xs)
    (k2 : Kept (fun _ => False) w w2) (hp : Pair w2 xb cb D R) (hf : ∀ k, pfp xb cb D R k → w.heap.size ≤ k ∧ k < w2.heap.size)
    (hA : Appended (w2.alloc o) w3 44 2 vps v m 1 xs [.pointer (some ⟨xb, 0, none⟩), .pointer (some ⟨cb, 0, none⟩)]) :
    OpenPost w pb vps b0 b1 b2 commits most m xs (.returned (.bool true)) (w3.setCell ⟨pb, 0, none⟩ v) := by
  have hA := hA.of_alloc
  have hvlt := hrow.lt
  have hpl := hblk.lt
  have k3 : Kept (fun k => vps.ownBlock = some k) w w3 := k2.trans hA.kept (fun _ => False.elim) (fun _ _ => id)
  have blk3 : Blk w3 pb 34 (playC vps b0 b1 b2 commits most) := hblk.kept k3 fun he => hrow.ne_block hblk (by decide) he
  have kS := Kept.setCell w3 ⟨pb, 0, none⟩ v
  have hp3 : Pair w3 xb cb D R := hp.kept hA.kept fun j hj he => by have := (hf j hj).1; have := hvlt j he; omega
  refine ⟨rfl, .inr ⟨xb, cb, D, R, v, hp3.kept kS fun j hj he => ?_, hA.row.kept kS fun j hj he => ?_, blk3.set 0 v, k3.trans kS (fun _ => .inr) (fun _ _ => .inl), fun k hk => (hf k hk).1, fun k hk => ?_, fun k hk he => ?_⟩⟩
  · have := (hf j hj).1; simp at he; omega
  · subst he
    exact Row.ne_block hA.row blk3 (by decide) hj
  · rcases hA.own with h | h
    · left; rw [← h]; exact hk
    · right; have := h k hk; have := k2.size; omega
  · obtain ⟨a, c⟩ := hf k hk
    rcases hA.own with h | h
    · rw [h] at he; have := hvlt k he; omega
    · have := h k he; omega

theorem oneCell_ptrs (a b : Option Addr) : ∀ u ∈ [Value.pointer a, Value.pointer b], u.oneCell' = true := by
  intro u hu; simp at hu; rcases hu with rfl | rfl <;> rfl
theorem cell_two_new (w : World) (a b : Value) (t : TypeId) : ∀ j u, [a, b][j]? = some u → (w.alloc (.cells #[a, b] t)).cell? ((⟨w.heap.size, 0, none⟩ : Addr).add j) = some u := by
  intro j u hj
  match j, hj with
  | 0, hj => simp at hj; subst hj; simp [Addr.add]
  | 1, hj => simp at hj; subst hj; simp [Addr.add]
  | j + 2, hj => simp at hj

theorem opened_mid {w w1 w2 : World} {o : Obj} {pb q : Nat} {c : Int} {vps b0 b1 b2 : Value} {commits most : Int} {m : Nat} {xs : List Value} (h1 : 1 ≤ q) (h2 : q ≤ 3) (hblk : Blk w pb 34 (playC vps b0 b1 b2 commits most)) (hrow : Row w 44 2 vps m xs)
    (hd : Dev w1 (w.alloc o).heap.size zeroD ∧ Kept (fun _ => False) (w.alloc o) w1) (hL : ∃ vp vn, NewL w1 w2 c q vp vn) :
    w2.cell? ⟨pb, 0, none⟩ = some vps ∧ pb < w2.heap.size ∧ Hid (∀ o, Row (w2.alloc o) 44 2 vps m xs) ∧
      Hid (∀ (o : Obj) (w3 : World) (v : Value), Appended (w2.alloc o) w3 44 2 vps v m 1 xs [.pointer (some ⟨w.heap.size + 1, 0, none⟩), .pointer (some ⟨w1.heap.size, 0, none⟩)] →
        w3.cell? ⟨pb, 0, none⟩ = some vps ∧ w3.frozen? ⟨pb, 0, none⟩ = false ∧ OpenPost w pb vps b0 b1 b2 commits most m xs (.returned (.bool true)) (w3.setCell ⟨pb, 0, none⟩ v)) := by
  obtain ⟨vp, vn, hL⟩ := hL
  have hsz : (w.alloc o).heap.size = w.heap.size + 1 := by simp
  rw [hsz] at hd
  have k1 : Kept (fun _ => False) w w1 := (Kept.alloc w o (fun _ => False)).trans hd.2 (fun _ => id) (fun _ _ => id)
  have k2 : Kept (fun _ => False) w w2 := k1.trans hL.kept (fun _ => id) (fun _ _ => id)
  have blk2 := hblk.kept k2 id
  have hp := pair_new (w := w) h1 h2 hd.1 (Nat.le_succ _) hL
  refine ⟨blk2.cell 0, blk2.lt, fun o => (hrow.kept k2 fun _ _ => id).kept (Kept.alloc w2 o (fun _ => False)) (fun _ _ => id), fun o w3 v hA => ?_⟩
  have blk3 : Blk w3 pb 34 (playC vps b0 b1 b2 commits most) := blk2.kept hA.of_alloc.kept fun he => (hrow.kept k2 fun _ _ => id).ne_block blk2 (by decide) he
  exact ⟨blk3.cell 0, blk3.free 0, open_done hblk hrow k2 hp.1 hp.2 hA⟩

/-- both refuse: a new world there is none. -/
theorem opened_bad (w : World) (pb : Nat) (kd a b c : Int) (s : ByteArray) (ao : Option Addr) (n cap : Nat) (vps b0 b1 b2 : Value) (commits most : Int) (m : Nat) (xs : List Value) (r : Int)
    (h0 : ∀ W, Calls Tryz.prog 23 #[.int .i64 b, .int .i64 c] W fun e w' => e = .returned (.tuple #[.pointer none, .int .i64 r]) ∧ W = w')
    (h1 : ∀ W, Calls Tryz.prog 24 #[.int .i64 b, .int .i64 c] W fun e w' => e = .returned (.tuple #[.pointer none, .int .i64 r]) ∧ W = w') :
    Calls Tryz.prog 11 #[.pointer (some ⟨pb, 0, none⟩), .agg #[.int .i64 kd, .int .i64 a, .int .i64 b, .int .i64 c, .string s, .slice ao n cap]] w fun e w' => OpenPost w pb vps b0 b1 b2 commits most m xs e w' := by
  have H0 : Hid (∀ W, Calls Tryz.prog 23 #[.int .i64 b, .int .i64 c] W fun e w' => e = .returned (.tuple #[.pointer none, .int .i64 r]) ∧ W = w') := h0
  have H1 : Hid (∀ W, Calls Tryz.prog 24 #[.int .i64 b, .int .i64 c] W fun e w' => e = .returned (.tuple #[.pointer none, .int .i64 r]) ∧ W = w') := h1
  clear h0 h1
  go_enter Tryz.func11, Tryz.ntmps11
  go_wp2_with first
    | (go_at_call 23; refine (H0.out _).mono ?_; rintro e w1 ⟨rfl, rfl⟩)
    | (go_at_call 24; refine (H1.out _).mono ?_; rintro e w1 ⟨rfl, rfl⟩)
  go_ret
  exact ⟨rfl, .inl (Kept.alloc _ _ _)⟩

set_option maxRecDepth 100000 in
set_option maxHeartbeats 1000000 in
theorem opened_good (w : World) (pb : Nat) (kd a c : Int) (q : Nat) (s : ByteArray) (ao : Option Addr) (n cap : Nat) (vps b0 b1 b2 : Value) (commits most : Int) (m : Nat) (xs : List Value) (h1 : 1 ≤ q) (h2 : q ≤ 3) (h3 : 1 ≤ c) (h4 : c ≤ 6)
    (hblk : Blk w pb 34 (playC vps b0 b1 b2 commits most)) (hrow : Row w 44 2 vps m xs) (hm : (m + 1) * 16 ≤ 140737488355328) :
    Calls Tryz.prog 11 #[.pointer (some ⟨pb, 0, none⟩), .agg #[.int .i64 kd, .int .i64 a, .int .i64 (q : Int), .int .i64 c, .string s, .slice ao n cap]] w fun e w' => OpenPost w pb vps b0 b1 b2 commits most m xs e w' := by
  obtain ⟨i0, hi, hz0, hz1, hz2⟩ := info_parts Tryz.infoPair
  have HI : Hid (Tryz.prog.info? 44 = some i0 ∧ i0.zero = some (.agg #[.pointer none, .pointer none]) ∧ i0.size = 2 ∧ i0.bytes = 16) := ⟨hi, hz0, hz1, hz2⟩
  clear hi hz0 hz1 hz2
  obtain ⟨av, cv, hv, _⟩ := hrow.form
  have HR : Hid (Row w 44 2 (.slice av m cv) m xs) := by rw [← hv]; exact hrow
  have HB : Hid (Blk w pb 34 (playC (.slice av m cv) b0 b1 b2 commits most)) := by rw [← hv]; exact hblk
  have hpl := hblk.lt
  subst hv
  have HN0 : Hid (∀ W, Calls Tryz.prog 23 #[.int .i64 (q : Int), .int .i64 c] W fun e w' => e = .returned (.tuple #[.pointer (some ⟨W.heap.size, 0, none⟩), .int .i64 0]) ∧ Hid (Dev w' W.heap.size zeroD ∧ Kept (fun _ => False) W w')) := fun W => dnew q c W (by omega) (by omega) h3 h4
  have HN1 : Hid (∀ W, Calls Tryz.prog 24 #[.int .i64 (q : Int), .int .i64 c] W fun e w' => e = .returned (.tuple #[.pointer (some ⟨W.heap.size, 0, none⟩), .int .i64 0]) ∧ Hid (∃ vp vn, NewL W w' c q vp vn)) := fun W => rnew q c W h1 h2 h3 h4
  have b1' : m + 1 ≤ maxLen := by unfold maxLen; omega
  have HA0 : Hid (∀ w1, Kept (fun _ => False) (w.alloc (.cells #[.int .i64 kd, .int .i64 a, .int .i64 (q : Int), .int .i64 c, .string s, .slice ao n cap] 37)) w1 → w1.cell? ⟨w.heap.size, 2, none⟩ = some (.int .i64 (q : Int)) ∧ w1.cell? ⟨w.heap.size, 3, none⟩ = some (.int .i64 c)) := fun w1 k => ⟨k.keep id (by simp), k.keep id (by simp)⟩
  clear hblk hrow
  go_enter Tryz.func11, Tryz.ntmps11
  go_wp2_with first
    | (go_at_call 23; refine (HN0.out _).mono ?_; rintro e w1 ⟨rfl, hd⟩; obtain ⟨y2, y3⟩ := HA0.out _ hd.out.2)
    | (go_at_call 24; refine (HN1.out _).mono ?_; rintro e w2 ⟨rfl, hL⟩; obtain ⟨p0, hp2, HROW, HAFT⟩ := opened_mid h1 h2 HB.out HR.out hd.out hL.out)
    | (at_builtin; go_must (refine wpList_append_mine _ rfl (.tmp 41) (.tmp 45) 27 rfl 44 i0 (.agg #[.pointer none, .pointer none]) 2 16 Tryz.underlying27 HI.out.1 HI.out.2.1 HI.out.2.2.1 HI.out.2.2.2 rfl (by decide) (.slice av m cv) m xs rfl (HROW.out _) ⟨w2.heap.size, 0, none⟩ 1 1 [.pointer (some ⟨w.heap.size + 1, 0, none⟩), .pointer (some ⟨w1.heap.size, 0, none⟩)] rfl rfl (cell_two_new w2 _ _ _) (oneCell_ptrs _ _) b1' hm ?_); intro v' w3 hA; obtain ⟨r0, r1, r2⟩ := HAFT.out _ _ _ hA; have HDONE : Hid (OpenPost w pb (.slice av m cv) b0 b1 b2 commits most m xs (.returned (.bool true)) (w3.setCell ⟨pb, 0, none⟩ v')) := r2; clear r2; obtain ⟨ao', cap', hv', _⟩ := hA.row.form; clear hA; subst hv')
  go_ret
  exact HDONE.out

theorem lopened (w : World) (pb : Nat) (kd a b c : Int) (s : ByteArray) (ao : Option Addr) (n cap : Nat) (vps b0 b1 b2 : Value) (commits most : Int) (m : Nat) (xs : List Value)
    (hblk : Blk w pb 34 (playC vps b0 b1 b2 commits most)) (hrow : Row w 44 2 vps m xs) (hm : (m + 1) * 16 ≤ 140737488355328) :
    Calls Tryz.prog 11 #[.pointer (some ⟨pb, 0, none⟩), .agg #[.int .i64 kd, .int .i64 a, .int .i64 b, .int .i64 c, .string s, .slice ao n cap]] w fun e w' => OpenPost w pb vps b0 b1 b2 commits most m xs e w' := by
  by_cases hb : b < 1 ∨ 3 < b
  · exact opened_bad w pb kd a b c s ao n cap vps b0 b1 b2 commits most m xs 1 (fun W => dnew_nodes b c W hb) (fun W => rnew_nodes b c W hb)
  · by_cases hc : c < 1 ∨ 6 < c
    · exact opened_bad w pb kd a b c s ao n cap vps b0 b1 b2 commits most m xs 2 (fun W => dnew_room b c W (by omega) (by omega) hc) (fun W => rnew_room b c W (by omega) (by omega) hc)
    · obtain ⟨q, rfl⟩ : ∃ q : Nat, b = q := ⟨b.toNat, by omega⟩
      exact opened_good w pb kd a c q s ao n cap vps b0 b1 b2 commits most m xs (by omega) (by omega) (by omega) (by omega) hblk hrow hm

end Go.Proofs.YtkednbbjofeecaaGreat
