import Derived.Test.YtpfcacedpkaihaaGreatHp
import Derived.Test.YtpfcacedpkaihaaGreatLmOs
/- The law's own whole and numbers (package almanaclaw) over a book without lists, walked. -/
namespace Go.Proofs.YtpfcacedpkaihaaGreat
open Go.RowKit

set_option maxHeartbeats 1000000 in
theorem numbers_empty (w : World) (pb o : Nat) (hc : w.cell? ⟨pb, o + 2, none⟩ = some (.slice none 0 0)) :
    Calls Tryz.prog 22 #[.pointer (some ⟨pb, o, none⟩)] w fun e w' => e = .returned (.bool true) ∧ w = w' := by
  go_enter Tryz.func22, Tryz.ntmps22
  go_wp2
  refine wp_loop_rounds 1 ?_
  rw [rounds_succ]
  go_wp2
  go_loop [5, 6, 7] (fun d _ _ => ∃ k : Int, -1 ≤ k ∧ k ≤ 3 ∧ d = .int .i64 k) (fun d _ _ => (intOf d + 1).toNat)
  case atStart => exact ⟨3, by omega, by omega, rfl⟩
  case round =>
    obtain ⟨k, hk0, hk1, rfl⟩ := hrel
    by_cases hlt : 0 ≤ k
    · go_wp2
      refine wp_loop_rounds 1 ?_
      rw [rounds_succ]
      go_wp2
      refine wp_loop_rounds 1 ?_
      rw [rounds_succ]
      go_wp2
      go_round
      case rel => exact ⟨k - 1, by omega, by omega, rfl⟩
      case measure => simp [intOf]; omega
    · go_wp2
      go_ret
      exact ⟨rfl, rfl⟩

set_option maxHeartbeats 1000000 in
theorem whole_empty (w : World) (pb o : Nat) (h0 : w.cell? ⟨pb, o, none⟩ = some (.slice none 0 0)) (h1 : w.cell? ⟨pb, o + 1, none⟩ = some (.slice none 0 0)) (h2 : w.cell? ⟨pb, o + 2, none⟩ = some (.slice none 0 0)) :
    Calls Tryz.prog 10 #[.pointer (some ⟨pb, o, none⟩)] w fun e w' => e = .returned (.bool true) ∧ w = w' := by
  have HN : Hid (Calls Tryz.prog 22 #[.pointer (some ⟨pb, o, none⟩)] w fun e w' => e = .returned (.bool true) ∧ w = w') := numbers_empty w pb o h2
  go_enter Tryz.func10, Tryz.ntmps10
  go_wp2
  refine wp_loop_rounds 1 ?_
  rw [rounds_succ]
  go_wp2
  refine wp_loop_rounds 1 ?_
  rw [rounds_succ]
  go_wp2_with (go_at_call 22; refine HN.out.mono ?_; rintro e w' ⟨rfl, rfl⟩)
  go_ret
  exact ⟨rfl, rfl⟩

end Go.Proofs.YtpfcacedpkaihaaGreat

/- The law Begins (package almanaclaw), walked at every script. -/
namespace Go.Proofs.YtpfcacedpkaihaaGreat
open Go.RowKit

theorem Sc.alloc {w : World} {ao : Option Addr} {n : Nat} {os : List OpE} (h : Sc w ao n os) (o : Obj) : Sc (w.alloc o) ao n os := by
  refine ⟨h.len, fun j hj => ?_⟩
  obtain ⟨bl, off, e, hb, hc⟩ := h.cell j hj
  exact ⟨bl, off, e, by simp; omega, fun f hf => (World.cell?_alloc_past o bl _ hb).trans (hc f hf)⟩
theorem OpOk.alloc {w : World} {o : OpE} (h : OpOk w.heap.size w o) (x : Obj) : OpOk (w.alloc x).heap.size (w.alloc x) o :=
  ⟨h.wr.kept (Kept.alloc w x (fun _ => False)) (fun _ _ => id), h.reach, h.nil, fun h0 a ha => by have := h.low h0 a ha; simp; omega, h.vals, h.str, h.a0, h.a1⟩

theorem inv_start (w0 : World) (most : Int) (X : Nat → Prop) (hX : ∀ k, ¬ X k) : Inv w0.heap.size X w0 (w0.alloc (.cells (playC nilV nilV nilV nilV 0 most) 34)) w0.heap.size [] nilV nilV nilV nilV 0 most :=
  ⟨(Below.refl _ _).alloc (Nat.le_refl _) _, Blk.new _ _ _, Row.nil _ _ _, fun p hp => (by cases hp), fun i j a c ha => (by simp at ha), fun p hp => (by cases hp), ⟨Nat.le_refl _, hX _⟩, fun k hk => (by simp [nilV, Value.ownBlock] at hk), fun k hk => absurd hk (hX k), Nat.le_refl _⟩

/-- what holds between two steps of Begins. -/
def BInv (w0 : World) (most : Int) (k : Nat) (W : World) : Prop :=
  ∃ ps vps commits, Inv w0.heap.size (fun _ => False) w0 W w0.heap.size ps vps nilV nilV nilV commits most ∧ ps.length ≤ k ∧ 0 ≤ commits ∧ commits ≤ (k : Int) ∧ ∀ p ∈ ps, p.R.uses.length ≤ k

theorem below_alloc {w w' : World} {o : Obj} (h : Below (w.alloc o).heap.size (w.alloc o) w') : Below w.heap.size w w' :=
  ⟨h.os, h.tape, h.output, by have := h.size; simp at this; omega, fun k hk => (h.block k (by simp; omega)).trans (Below.heap_alloc _ _ _ hk)⟩

theorem begins_plays (w0 : World) (ao : Option Addr) (n cap kb kcap : Nat) (os : List OpE) (hsc : Sc w0 ao n os) (hks : Ks w0 kb [1, 2, 3, 4, 5, 6]) (hn : n * 72 ≤ 140737488351232) (hok : ∀ o ∈ os, OpOk w0.heap.size w0 o) :
    Calls Tryz.prog 8 #[.slice ao n cap, .slice (some ⟨kb, 0, none⟩) 6 kcap, .int .i64 (n : Int)] w0 fun e w' => PlaysPost n (BInv w0 (n : Int)) e w' := by
  have hl := hsc.len
  refine lplays w0 ao n cap kb kcap os [1, 2, 3, 4, 5, 6] (n : Int) (BInv w0 (n : Int)) (fun k W => BInv w0 (n : Int) (k + 1) W) hsc hks (by omega) (by simp) ?_ ?_ ?_ ?_ ?_ ?_
  · rintro k W ⟨ps, vps, commits, hi, _⟩
    exact hi.below
  · exact ⟨[], nilV, 0, inv_start w0 _ _ (fun _ => id), by simp, by omega, by simp, fun p hp => (by cases hp)⟩
  · rintro k W W' ⟨ps, vps, commits, hi, r⟩ hk
    exact ⟨ps, vps, commits, hi.kept hk, r⟩
  · rintro k W ⟨ps, vps, commits, hi, r1, r2, r3, r4⟩
    exact ⟨ps, vps, commits, hi, by omega, r2, by omega, fun p hp => Nat.le_succ_of_le (r4 p hp)⟩
  · rintro k W hk ⟨ps, vps, commits, hi, r1, r2, r3, r4⟩ hany
    have hkd : os[k].kd = 1 ∨ os[k].kd = 2 ∨ os[k].kd = 3 ∨ os[k].kd = 4 ∨ os[k].kd = 5 ∨ os[k].kd = 6 := by simpa using hany
    refine (lstep_begins hi os[k] (hok _ (List.getElem_mem hk)) hkd (by omega) r2 (by omega) (fun p hp => by have := r4 p hp; omega)).mono fun e w' hp => ?_
    obtain ⟨e1, _, ps', vps', commits', hi', l1, l2, l3⟩ := hp
    exact ⟨e1, ps', vps', commits', hi', by omega, by omega, by omega, l3 k r4⟩
  · rintro k W hk ⟨ps, vps, commits, hi, r1, r2, r3, r4⟩
    refine (whole_empty W w0.heap.size 1 (hi.blk.cell 1) (hi.blk.cell 2) (hi.blk.cell 3)).mono fun e w' hp => ?_
    obtain ⟨e1, rfl⟩ := hp
    exact ⟨e1, ps, vps, commits, hi, r1, r2, r3, r4⟩

def LawPost (w : World) (e : Ending) (w' : World) : Prop := e = .returned (.bool true) ∧ Below w.heap.size w w'

set_option maxRecDepth 100000 in
set_option maxHeartbeats 1000000 in
theorem begins_any (w : World) (ao : Option Addr) (n cap : Nat) (os : List OpE) (hsc : Sc w ao n os) (hn : n * 72 ≤ 140737488351232) (hok : ∀ o ∈ os, OpOk w.heap.size w o) :
    Calls Tryz.prog 3 #[.slice ao n cap] w fun e w' => LawPost w e w' := by
  have HPL : Hid (Calls Tryz.prog 8 #[.slice ao n cap, .slice (some ⟨w.heap.size, 0, none⟩) 6 6, .int .i64 (n : Int)] (w.alloc (.cells #[.int .i64 1, .int .i64 2, .int .i64 3, .int .i64 4, .int .i64 5, .int .i64 6] 3)) fun e w' => e = .returned (.bool true) ∧ Hid (Below w.heap.size w w')) := by
    refine (begins_plays _ ao n cap w.heap.size 6 os (hsc.alloc _) ⟨by simp, fun j hj => ?_⟩ hn (fun o ho => (hok o ho).alloc _)).mono fun e w' hp => ?_
    · have hj6 : j < 6 := hj
      rcases six hj6 with rfl | rfl | rfl | rfl | rfl | rfl <;> simp
    · obtain ⟨e1, ps, vps, commits, hi, _⟩ := hp
      exact ⟨e1, below_alloc hi.below⟩
  clear hsc hok
  go_enter Tryz.func3, Tryz.ntmps3
  go_wp2_with (go_at_call 8; refine HPL.out.mono ?_; rintro e w1 ⟨rfl, hb⟩)
  go_ret
  exact ⟨rfl, hb.out⟩

end Go.Proofs.YtpfcacedpkaihaaGreat
