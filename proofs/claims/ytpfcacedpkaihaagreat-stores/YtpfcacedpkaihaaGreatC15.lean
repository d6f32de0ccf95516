import Derived.Test.YtpfcacedpkaihaaGreatC14
import Derived.Test.YtpfcacedpkaihaaGreatC11
import Derived.Test.YtpfcacedpkaihaaGreatC5
namespace Go.Proofs.YtpfcacedpkaihaaGreat
open Go.RowKit
set_option maxRecDepth 100000
set_option maxHeartbeats 16000000
theorem sameI_none {p : NodeP} {e : EntE} (h : ∀ (t : Nat) (y : HeldE), p.ents[t]? = some y → ¬ sameE y.e e) : p.sameI e = none := by
 unfold NodeP.sameI
 rw [List.findIdx?_eq_none_iff]
 intro x hx
 obtain ⟨t, ht⟩ := List.getElem?_of_mem hx
 simpa using h t x ht
theorem sameI_some {p : NodeP} {e : EntE} {j : Nat} {x : HeldE} (hx : p.ents[j]? = some x) (hs : sameE x.e e) (h : ∀ (t : Nat) (y : HeldE), t < j → p.ents[t]? = some y → ¬ sameE y.e e) : p.sameI e = some j := by
 unfold NodeP.sameI
 obtain ⟨hj, hx'⟩ := List.getElem?_eq_some_iff.mp hx
 rw [List.findIdx?_eq_some_iff_getElem]
 refine ⟨hj, by rw [hx']; simpa using hs, fun t ht => ?_⟩
 have := h t p.ents[t] ht (List.getElem?_eq_getElem (by omega))
 simpa using this
theorem set6_new {w W : World} {e y : EntE} (hk : Kept (fun _ => False) w W) (hb : Blk W w.heap.size 55 #[.string e.q, .int .i32 e.val, .int .u64 (e.fr : Int), .int .u64 (e.till : Int), .bool e.op, .int .u64 (e.kn : Int)]) :
  Kept (fun _ => False) w ((((((W.setCell ⟨w.heap.size, 0, none⟩ (.string y.q)).setCell ⟨w.heap.size, 1, none⟩ (.int .i32 y.val)).setCell ⟨w.heap.size, 2, none⟩ (.int .u64 (y.fr : Int))).setCell ⟨w.heap.size, 3, none⟩ (.int .u64 (y.till : Int))).setCell ⟨w.heap.size, 4, none⟩ (.bool y.op)).setCell ⟨w.heap.size, 5, none⟩ (.int .u64 (y.kn : Int))) ∧
  Blk ((((((W.setCell ⟨w.heap.size, 0, none⟩ (.string y.q)).setCell ⟨w.heap.size, 1, none⟩ (.int .i32 y.val)).setCell ⟨w.heap.size, 2, none⟩ (.int .u64 (y.fr : Int))).setCell ⟨w.heap.size, 3, none⟩ (.int .u64 (y.till : Int))).setCell ⟨w.heap.size, 4, none⟩ (.bool y.op)).setCell ⟨w.heap.size, 5, none⟩ (.int .u64 (y.kn : Int))) w.heap.size 55 #[.string y.q, .int .i32 y.val, .int .u64 (y.fr : Int), .int .u64 (y.till : Int), .bool y.op, .int .u64 (y.kn : Int)] :=
 ⟨(((((hk.setNew _ 0 _ (Nat.le_refl _)).setNew _ 1 _ (Nat.le_refl _)).setNew _ 2 _ (Nat.le_refl _)).setNew _ 3 _ (Nat.le_refl _)).setNew _ 4 _ (Nat.le_refl _)).setNew _ 5 _ (Nat.le_refl _), (((((hb.set 0 (.string y.q)).set 1 (.int .i32 y.val)).set 2 (.int .u64 (y.fr : Int))).set 3 (.int .u64 (y.till : Int))).set 4 (.bool y.op)).set 5 (.int .u64 (y.kn : Int))⟩
theorem dNStore (w : World) (b k g : Nat) (D : DevS) (nd : DNodeE) (e : EntE) (h : Dev w b D) (hnd : D.nodes[k]? = some nd) (ho : D.vn.ownBlock = some g) (hok : nd.p.Ok 900000) (hl : nd.p.ents.length ≤ 900) (hr1 : 1 ≤ nd.p.room) (hr2 : nd.p.room ≤ 1000) (hu : nd.p.uses < 9223372036854775807) (hq : e.q.size ≤ maxLen) :
  Calls Tryz.prog 101 #[.pointer (some ⟨g, k * 8, none⟩), .agg #[.string e.q, .int .i32 e.val, .int .u64 (e.fr : Int), .int .u64 (e.till : Int), .bool e.op, .int .u64 (e.kn : Int)]] w fun e' w' => e' = .returned (.bool (nd.p.store e).2) ∧ Hid (Turns w b D k (nd.p.store e).1 w') := by
 have c0 : w.cell? ⟨g, k * 8, none⟩ = some (.bool nd.p.up) := h.nodeC hnd ho 0 (by omega) _ rfl
 have c2 : w.cell? ⟨g, k * 8 + 2, none⟩ = some (.int .u64 (nd.p.horizon : Int)) := h.nodeC hnd ho 2 (by omega) _ rfl
 have c3 : w.cell? ⟨g, k * 8 + 3, none⟩ = some nd.hs := h.nodeC hnd ho 3 (by omega) _ rfl
 have hgl : g < w.heap.size := World.block_lt_of_cell? w _ c0
 have hg0 : g ≠ w.heap.size := Nat.ne_of_lt hgl
 have HDA : Hid (∀ W, Kept (fun _ => False) w W → Dev W b D) := fun W hW => h.kept hW (fun _ _ => id)
 have HSAME : Hid (∀ W, Kept (fun _ => False) w W → Turns w b D k nd.p W) := fun W hW => Turns.of_kept h hnd hW
 have HCA : Hid (∀ W, Kept (fun _ => False) w W → Calls Tryz.prog 142 #[.pointer (some ⟨g, k * 8, none⟩), .agg #[.string e.q, .int .i32 e.val, .int .u64 (e.fr : Int), .int .u64 (e.till : Int), .bool e.op, .int .u64 (e.kn : Int)]] W fun e' w' => e' = .returned (caughtV (nd.p.caught e)) ∧ Kept (fun _ => False) W w') := fun W hW => dcaught W g (k * 8) nd.p nd.hs e (hW.hold c2) (hW.hold c3) ((h.hists nd (List.mem_of_getElem? hnd)).kept hW (fun _ _ => id)) (by have := hok.hl; omega) (by have := hok.hz; omega) hq
 have HB : Hid (∀ o w1, Kept (fun _ => False) (w.alloc (.cells #[.string e.q, .int .i32 e.val, .int .u64 (e.fr : Int), .int .u64 (e.till : Int), .bool e.op, .int .u64 (e.kn : Int)] o)) w1 → Blk w1 w.heap.size o #[.string e.q, .int .i32 e.val, .int .u64 (e.fr : Int), .int .u64 (e.till : Int), .bool e.op, .int .u64 (e.kn : Int)]) := fun o w1 hk => (Blk.new w o _).kept hk id
 cases hup : nd.p.up with
 | false =>
  have HE : Hid (nd.p.store e = (nd.p, false)) := by show _ = _; rw [NodeP.store, if_pos hup]
  rw [hup] at c0
  clear h hnd ho hok hup HCA c2 c3
  go_enter Tryz.func101, Tryz.ntmps101
  go_wp2
  go_ret
  exact ⟨by rw [HE.out]; rfl, by rw [HE.out]; exact HSAME.out _ (Kept.alloc _ _ _)⟩
 | true =>
  rw [hup] at c0
  cases hca : nd.p.caught e with
  | none =>
   have HE : Hid (nd.p.store e = (nd.p, false)) := by show _ = _; rw [NodeP.store, if_neg (by rw [hup]; simp), hca]
   have HC2 : Hid (∀ W, Kept (fun _ => False) w W → Calls Tryz.prog 142 #[.pointer (some ⟨g, k * 8, none⟩), .agg #[.string e.q, .int .i32 e.val, .int .u64 (e.fr : Int), .int .u64 (e.till : Int), .bool e.op, .int .u64 (e.kn : Int)]] W fun e' w' => e' = .returned (.tuple #[.agg #[.string ⟨#[]⟩, .int .i32 0, .int .u64 0, .int .u64 0, .bool false, .int .u64 0], .bool false]) ∧ Kept (fun _ => False) W w') := fun W hW => by have := HCA.out W hW; rw [hca] at this; exact this
   clear h hnd ho hok hup hca HCA c2 c3
   go_enter Tryz.func101, Tryz.ntmps101
   go_wp2_with (go_at_call 142; refine (HC2.out _ (Kept.alloc _ _ _)).mono ?_; rintro e' w1 ⟨rfl, hk1⟩; have hb1 := HB.out _ _ hk1; have z0 : w1.cell? ⟨w.heap.size, 0, none⟩ = some (.string e.q) := hb1.cell 0; have z1 : w1.cell? ⟨w.heap.size, 1, none⟩ = some (.int .i32 e.val) := hb1.cell 1; have z2 : w1.cell? ⟨w.heap.size, 2, none⟩ = some (.int .u64 (e.fr : Int)) := hb1.cell 2; have z3 : w1.cell? ⟨w.heap.size, 3, none⟩ = some (.int .u64 (e.till : Int)) := hb1.cell 3; have z4 : w1.cell? ⟨w.heap.size, 4, none⟩ = some (.bool e.op) := hb1.cell 4; have z5 : w1.cell? ⟨w.heap.size, 5, none⟩ = some (.int .u64 (e.kn : Int)) := hb1.cell 5; have zf : ∀ i, w1.frozen? ⟨w.heap.size, i, none⟩ = false := fun i => hb1.free i; have HK1 : Hid (Kept (fun _ => False) w w1) := (Kept.alloc _ _ _).trans hk1 (fun _ => id) (fun _ _ => id); clear hb1 hk1)
   go_ret
   refine ⟨by rw [HE.out]; rfl, ?_⟩
   rw [HE.out]
   refine HSAME.out _ ?_
   exact (((((HK1.out.setNew _ 0 _ (Nat.le_refl _)).setNew _ 1 _ (Nat.le_refl _)).setNew _ 2 _ (Nat.le_refl _)).setNew _ 3 _ (Nat.le_refl _)).setNew _ 4 _ (Nat.le_refl _)).setNew _ 5 _ (Nat.le_refl _)
  | some y =>
   have HC2 : Hid (∀ W, Kept (fun _ => False) w W → Calls Tryz.prog 142 #[.pointer (some ⟨g, k * 8, none⟩), .agg #[.string e.q, .int .i32 e.val, .int .u64 (e.fr : Int), .int .u64 (e.till : Int), .bool e.op, .int .u64 (e.kn : Int)]] W fun e' w' => e' = .returned (.tuple #[.agg #[.string y.q, .int .i32 y.val, .int .u64 (y.fr : Int), .int .u64 (y.till : Int), .bool y.op, .int .u64 (y.kn : Int)], .bool true]) ∧ Kept (fun _ => False) W w') := fun W hW => by have := HCA.out W hW; rw [hca] at this; exact this
   have HSM : Hid (∀ W, Kept (fun _ => False) w W → Calls Tryz.prog 143 #[.pointer (some ⟨g, k * 8, none⟩), .agg #[.string y.q, .int .i32 y.val, .int .u64 (y.fr : Int), .int .u64 (y.till : Int), .bool y.op, .int .u64 (y.kn : Int)]] W fun e' w' => DSamePost W nd y e' w') := fun W hW => dsame W b k g D nd y (HDA.out W hW) hnd ho (by omega)
   have HBY : Hid (∀ W c, Kept (fun _ => False) w W → Blk W w.heap.size 55 c → c = #[.string y.q, .int .i32 y.val, .int .u64 (y.fr : Int), .int .u64 (y.till : Int), .bool y.op, .int .u64 (y.kn : Int)] → W.cell? ⟨w.heap.size, 0, none⟩ = some (.string y.q) ∧ W.cell? ⟨w.heap.size, 1, none⟩ = some (.int .i32 y.val) ∧ W.cell? ⟨w.heap.size, 2, none⟩ = some (.int .u64 (y.fr : Int)) ∧ W.cell? ⟨w.heap.size, 3, none⟩ = some (.int .u64 (y.till : Int)) ∧ W.cell? ⟨w.heap.size, 4, none⟩ = some (.bool y.op) ∧ W.cell? ⟨w.heap.size, 5, none⟩ = some (.int .u64 (y.kn : Int))) := fun W c _ hb hc => by subst hc; exact ⟨hb.cell 0, hb.cell 1, hb.cell 2, hb.cell 3, hb.cell 4, hb.cell 5⟩
   cases hsi : nd.p.sameI y with
   | none =>
    have HE : Hid (nd.p.store e = (nd.p.lay y, true)) := by show _ = _; rw [NodeP.store, if_neg (by rw [hup]; simp), hca]; simp only [hsi]
    have HSM2 : Hid (∀ W, Kept (fun _ => False) w W → Calls Tryz.prog 143 #[.pointer (some ⟨g, k * 8, none⟩), .agg #[.string y.q, .int .i32 y.val, .int .u64 (y.fr : Int), .int .u64 (y.till : Int), .bool y.op, .int .u64 (y.kn : Int)]] W fun e' w' => e' = .returned (.pointer none) ∧ Kept (fun _ => False) W w') := fun W hW => (HSM.out W hW).mono fun e' w' hp => by
     rcases hp.2 with ⟨_, e1⟩ | ⟨j, x, ge, hx, _, hs, hall, _⟩
     · exact ⟨e1, hp.1⟩
     · rw [sameI_some hx hs hall] at hsi; cases hsi
    have HLY : Hid (∀ W, Kept (fun _ => False) w W → Calls Tryz.prog 145 #[.pointer (some ⟨g, k * 8, none⟩), .agg #[.string y.q, .int .i32 y.val, .int .u64 (y.fr : Int), .int .u64 (y.till : Int), .bool y.op, .int .u64 (y.kn : Int)]] W fun e' w' => e' = .returned (.tuple #[]) ∧ Hid (Turns W b D k (nd.p.lay y) w')) := fun W hW => dlay W b k g D nd y (HDA.out W hW) hnd ho hl hr1 hr2 (by omega)
    clear h hnd ho hok hup hca HCA c2 c3 hsi HSM
    go_enter Tryz.func101, Tryz.ntmps101
    go_wp2_with first
     | (go_at_call 142; refine (HC2.out _ (Kept.alloc _ _ _)).mono ?_; rintro e' w1 ⟨rfl, hk1⟩; have hb1 := HB.out _ _ hk1; have z0 : w1.cell? ⟨w.heap.size, 0, none⟩ = some (.string e.q) := hb1.cell 0; have z1 : w1.cell? ⟨w.heap.size, 1, none⟩ = some (.int .i32 e.val) := hb1.cell 1; have z2 : w1.cell? ⟨w.heap.size, 2, none⟩ = some (.int .u64 (e.fr : Int)) := hb1.cell 2; have z3 : w1.cell? ⟨w.heap.size, 3, none⟩ = some (.int .u64 (e.till : Int)) := hb1.cell 3; have z4 : w1.cell? ⟨w.heap.size, 4, none⟩ = some (.bool e.op) := hb1.cell 4; have z5 : w1.cell? ⟨w.heap.size, 5, none⟩ = some (.int .u64 (e.kn : Int)) := hb1.cell 5; have zf : ∀ i, w1.frozen? ⟨w.heap.size, i, none⟩ = false := fun i => hb1.free i; have HK1 : Hid (Kept (fun _ => False) w w1) := (Kept.alloc _ _ _).trans hk1 (fun _ => id) (fun _ _ => id); have HS6 := set6_new (y := y) HK1.out hb1; have HS6' : Hid (Kept (fun _ => False) w ((((((w1.setCell ⟨w.heap.size, 0, none⟩ (.string y.q)).setCell ⟨w.heap.size, 1, none⟩ (.int .i32 y.val)).setCell ⟨w.heap.size, 2, none⟩ (.int .u64 (y.fr : Int))).setCell ⟨w.heap.size, 3, none⟩ (.int .u64 (y.till : Int))).setCell ⟨w.heap.size, 4, none⟩ (.bool y.op)).setCell ⟨w.heap.size, 5, none⟩ (.int .u64 (y.kn : Int))) ∧ Blk ((((((w1.setCell ⟨w.heap.size, 0, none⟩ (.string y.q)).setCell ⟨w.heap.size, 1, none⟩ (.int .i32 y.val)).setCell ⟨w.heap.size, 2, none⟩ (.int .u64 (y.fr : Int))).setCell ⟨w.heap.size, 3, none⟩ (.int .u64 (y.till : Int))).setCell ⟨w.heap.size, 4, none⟩ (.bool y.op)).setCell ⟨w.heap.size, 5, none⟩ (.int .u64 (y.kn : Int))) w.heap.size 55 #[.string y.q, .int .i32 y.val, .int .u64 (y.fr : Int), .int .u64 (y.till : Int), .bool y.op, .int .u64 (y.kn : Int)]) := HS6; clear hb1 hk1 HS6)
     | (go_at_call 143; refine (HSM2.out _ HS6'.out.1).mono ?_; rintro e' w2 ⟨rfl, hk2⟩; have HK2 : Hid (Kept (fun _ => False) w w2) := HS6'.out.1.trans hk2 (fun _ => id) (fun _ _ => id); obtain ⟨t0, t1, t2, t3, t4, t5⟩ := HBY.out w2 _ HK2.out (HS6'.out.2.kept hk2 id) rfl; clear hk2)
     | (go_at_call 145; refine (HLY.out _ HK2.out).mono ?_; rintro e' w3 ⟨rfl, hT3⟩; have HT3 : Hid (Turns w b D k (nd.p.lay y) w3) := Turns.from HK2.out hT3.out; clear hT3)
    go_ret
    exact ⟨by rw [HE.out]; rfl, by rw [HE.out]; exact HT3.out⟩
   | some j =>
    have hsi' : ∃ x ge, nd.p.ents[j]? = some x ∧ nd.en.ownBlock = some ge := by
     unfold NodeP.sameI at hsi
     rw [List.findIdx?_eq_some_iff_getElem] at hsi
     obtain ⟨hj, _⟩ := hsi
     obtain ⟨ge, ce, hve, hown⟩ := h.block_of hnd hj
     exact ⟨_, ge, List.getElem?_eq_getElem hj, hown⟩
    obtain ⟨x, ge, hx, hown⟩ := hsi'
    have HE : Hid (nd.p.store e = ((nd.p.merge j x y).use j ⟨mergedE x.e y, x.used⟩, true)) := by show _ = _; rw [NodeP.store, if_neg (by rw [hup]; simp), hca]; simp only [hsi, hx]
    have HSM2 : Hid (∀ W, Kept (fun _ => False) w W → Calls Tryz.prog 143 #[.pointer (some ⟨g, k * 8, none⟩), .agg #[.string y.q, .int .i32 y.val, .int .u64 (y.fr : Int), .int .u64 (y.till : Int), .bool y.op, .int .u64 (y.kn : Int)]] W fun e' w' => e' = .returned (.pointer (some ⟨ge, j * 7, none⟩)) ∧ Kept (fun _ => False) W w') := fun W hW => (HSM.out W hW).mono fun e' w' hp => by
     rcases hp.2 with ⟨hall, _⟩ | ⟨j', x', ge', hx', hown', hs, hall, e1⟩
     · rw [sameI_none hall] at hsi; cases hsi
     · rw [sameI_some hx' hs hall] at hsi
      injection hsi with hsi
      subst hsi
      rw [hown] at hown'
      injection hown' with hown'
      subst hown'
      exact ⟨e1, hp.1⟩
    have HMG : Hid (∀ W, Kept (fun _ => False) w W → Calls Tryz.prog 144 #[.pointer (some ⟨ge, j * 7, none⟩), .agg #[.string y.q, .int .i32 y.val, .int .u64 (y.fr : Int), .int .u64 (y.till : Int), .bool y.op, .int .u64 (y.kn : Int)]] W fun e' w' => e' = .returned (.tuple #[]) ∧ Hid (Calls Tryz.prog 136 #[.pointer (some ⟨g, k * 8, none⟩), .pointer (some ⟨ge, j * 7, none⟩)] w' fun e' w'' => e' = .returned (.tuple #[]) ∧ Hid (Turns w b D k ((nd.p.merge j x y).use j ⟨mergedE x.e y, x.used⟩) w''))) := fun W hW =>
     (dmerge W b k ge j D nd x y (HDA.out W hW) hnd hown hx).mono fun e' w' hp => by
      obtain ⟨n4, e4, e5, hb4⟩ := hp.2.out
      have hn4 := putN_at n4 hnd
      refine ⟨hp.1, ?_⟩
      have hx4 : n4.p.ents[j]? = some ⟨mergedE x.e y, x.used⟩ := by rw [e4]; exact List.getElem?_set_self (List.getElem?_eq_some_iff.mp hx).1
      refine (duse w' b k g ge j _ n4 ⟨mergedE x.e y, x.used⟩ hb4.1 hn4 ho (by rw [e5]; exact hown) hx4 (by rw [e4]; show nd.p.uses < _; omega)).mono fun e' w'' hp2 => ⟨hp2.1, ?_⟩
      obtain ⟨n6, e6, _, hb6⟩ := hp2.2.out
      refine Turns.from hW ⟨n6, by rw [e6, e4], ?_⟩
      have := hb4.trans hb6
      rwa [putN_putN] at this
    clear h hnd ho hok hup hca HCA c2 c3 hsi HSM hx hown
    go_enter Tryz.func101, Tryz.ntmps101
    go_wp2_with first
     | (go_at_call 142; refine (HC2.out _ (Kept.alloc _ _ _)).mono ?_; rintro e' w1 ⟨rfl, hk1⟩; have hb1 := HB.out _ _ hk1; have z0 : w1.cell? ⟨w.heap.size, 0, none⟩ = some (.string e.q) := hb1.cell 0; have z1 : w1.cell? ⟨w.heap.size, 1, none⟩ = some (.int .i32 e.val) := hb1.cell 1; have z2 : w1.cell? ⟨w.heap.size, 2, none⟩ = some (.int .u64 (e.fr : Int)) := hb1.cell 2; have z3 : w1.cell? ⟨w.heap.size, 3, none⟩ = some (.int .u64 (e.till : Int)) := hb1.cell 3; have z4 : w1.cell? ⟨w.heap.size, 4, none⟩ = some (.bool e.op) := hb1.cell 4; have z5 : w1.cell? ⟨w.heap.size, 5, none⟩ = some (.int .u64 (e.kn : Int)) := hb1.cell 5; have zf : ∀ i, w1.frozen? ⟨w.heap.size, i, none⟩ = false := fun i => hb1.free i; have HK1 : Hid (Kept (fun _ => False) w w1) := (Kept.alloc _ _ _).trans hk1 (fun _ => id) (fun _ _ => id); have HS6 := set6_new (y := y) HK1.out hb1; have HS6' : Hid (Kept (fun _ => False) w ((((((w1.setCell ⟨w.heap.size, 0, none⟩ (.string y.q)).setCell ⟨w.heap.size, 1, none⟩ (.int .i32 y.val)).setCell ⟨w.heap.size, 2, none⟩ (.int .u64 (y.fr : Int))).setCell ⟨w.heap.size, 3, none⟩ (.int .u64 (y.till : Int))).setCell ⟨w.heap.size, 4, none⟩ (.bool y.op)).setCell ⟨w.heap.size, 5, none⟩ (.int .u64 (y.kn : Int))) ∧ Blk ((((((w1.setCell ⟨w.heap.size, 0, none⟩ (.string y.q)).setCell ⟨w.heap.size, 1, none⟩ (.int .i32 y.val)).setCell ⟨w.heap.size, 2, none⟩ (.int .u64 (y.fr : Int))).setCell ⟨w.heap.size, 3, none⟩ (.int .u64 (y.till : Int))).setCell ⟨w.heap.size, 4, none⟩ (.bool y.op)).setCell ⟨w.heap.size, 5, none⟩ (.int .u64 (y.kn : Int))) w.heap.size 55 #[.string y.q, .int .i32 y.val, .int .u64 (y.fr : Int), .int .u64 (y.till : Int), .bool y.op, .int .u64 (y.kn : Int)]) := HS6; clear hb1 hk1 HS6)
     | (go_at_call 143; refine (HSM2.out _ HS6'.out.1).mono ?_; rintro e' w2 ⟨rfl, hk2⟩; have HK2 : Hid (Kept (fun _ => False) w w2) := HS6'.out.1.trans hk2 (fun _ => id) (fun _ _ => id); obtain ⟨t0, t1, t2, t3, t4, t5⟩ := HBY.out w2 _ HK2.out (HS6'.out.2.kept hk2 id) rfl; clear hk2)
     | (go_at_call 144; refine (HMG.out _ HK2.out).mono ?_; rintro e' w3 ⟨rfl, HU3⟩)
     | (go_at_call 136; refine HU3.out.mono ?_; rintro e' w4 ⟨rfl, HT4⟩)
    go_ret
    exact ⟨by rw [HE.out]; rfl, by rw [HE.out]; exact HT4.out⟩
def DNEvictPost (w : World) (b : Nat) (D : DevS) (k : Nat) (p : NodeP) (i : Int) (e : Ending) (w' : World) : Prop :=
 ((i < 0 ∨ (p.ents.length : Int) ≤ i) ∧ e = .returned (.int .i64 10) ∧ w = w') ∨
 (∃ j : Nat, i = (j : Int) ∧ j < p.ents.length ∧ e = .returned (.int .i64 0) ∧ Hid (Turns w b D k (p.remove j) w'))
theorem dNEvict (w : World) (b k g : Nat) (D : DevS) (nd : DNodeE) (i : Int) (h : Dev w b D) (hnd : D.nodes[k]? = some nd) (ho : D.vn.ownBlock = some g) (hl : nd.p.ents.length ≤ 1000) :
  Calls Tryz.prog 107 #[.pointer (some ⟨g, k * 8, none⟩), .int .i64 i] w fun e w' => DNEvictPost w b D k nd.p i e w' := by
 obtain ⟨ae, ce, hve, _⟩ := (h.ents nd (List.mem_of_getElem? hnd)).form
 have c5 : w.cell? ⟨g, k * 8 + 5, none⟩ = some (.slice ae nd.p.ents.length ce) := by rw [← hve]; exact h.nodeC hnd ho 5 (by omega) _ rfl
 by_cases h0 : i < 0
 · have hd : decide (i < 0) = true := by simpa using h0
  clear h hnd ho hve
  go_enter Tryz.func107, Tryz.ntmps107
  go_wp2
  go_ret
  exact .inl ⟨.inl h0, rfl, rfl⟩
 · have hd : decide (i < 0) = false := by simpa using h0
  by_cases h1 : (nd.p.ents.length : Int) ≤ i
  · clear h hnd ho hve
   go_enter Tryz.func107, Tryz.ntmps107
   go_wp2
   go_ret
   exact .inl ⟨.inr h1, rfl, rfl⟩
  · obtain ⟨j, rfl⟩ : ∃ j : Nat, i = j := ⟨i.toNat, by omega⟩
   have hd2 : decide (nd.p.ents.length ≤ j) = false := by simp; omega
   have hjl : j < nd.p.ents.length := by omega
   have HR : Hid (Calls Tryz.prog 149 #[.pointer (some ⟨g, k * 8, none⟩), .int .i64 (j : Int)] w fun e w' => e = .returned (.tuple #[]) ∧ Hid (Turns w b D k (nd.p.remove j) w')) := dremove w b k g D nd j h hnd ho hl
   clear h hnd ho hve
   go_enter Tryz.func107, Tryz.ntmps107
   go_wp2_with (go_at_call 149; refine HR.out.mono ?_; rintro e w1 ⟨rfl, hT⟩)
   go_ret
   exact .inr ⟨j, rfl, hjl, rfl, hT⟩
theorem dsfall (w : World) (b k g : Nat) (D : DevS) (nd : DNodeE) (h : Dev w b D) (hnd : D.nodes[k]? = some nd) (ho : D.vn.ownBlock = some g) :
  Calls Tryz.prog 122 #[.pointer (some ⟨g, k * 8, none⟩)] w fun e w' => e = .returned (.tuple #[]) ∧ Hid (Turns w b D k nd.p.fall.clear w') := by
 have HF : Hid (Calls Tryz.prog 155 #[.pointer (some ⟨g, k * 8, none⟩)] w fun e w' => e = .returned (.tuple #[]) ∧ Hid (Calls Tryz.prog 156 #[.pointer (some ⟨g, k * 8 + 7, none⟩)] w' fun e w'' => e = .returned (.tuple #[]) ∧ Hid (Turns w b D k nd.p.fall.clear w''))) :=
  (dfall w b k g D nd h hnd ho).mono fun e w' hp => by
   obtain ⟨n1, e1, hb1⟩ := hp.2.out
   refine ⟨hp.1, (dclear w' b k g _ n1 hb1.1 (putN_at n1 hnd) ho).mono fun e w'' hp2 => ⟨hp2.1, ?_⟩⟩
   obtain ⟨n2, e2, hb2⟩ := hp2.2.out
   exact ⟨n2, by rw [e2, e1], by have := hb1.trans hb2; rwa [putN_putN] at this⟩
 clear h hnd ho
 go_enter Tryz.func122, Tryz.ntmps122
 go_wp2_with first
  | (go_at_call 155; refine HF.out.mono ?_; rintro e w1 ⟨rfl, HC⟩)
  | (go_at_call 156; refine HC.out.mono ?_; rintro e w2 ⟨rfl, HT⟩)
 go_end0
 exact ⟨rfl, HT⟩
theorem age_len (p : NodeP) (t : Nat) : (p.age t).flight.length ≤ p.flight.length := List.length_filter_le _ _
theorem dtell (w : World) (b k g : Nat) (D : DevS) (nd : DNodeE) (t : Nat) (K : Int) (h : Dev w b D) (hnd : D.nodes[k]? = some nd) (ho : D.vn.ownBlock = some g) (hl : nd.p.flight.length ≤ 1000) (hs : ∀ c ∈ nd.p.flight, c.1 ≤ 1000000) (hz : nd.p.horizon ≤ 1000000) :
  Calls Tryz.prog 76 #[.pointer (some ⟨g, k * 8, none⟩), .int .u64 t, .int .u8 K] w fun e w' => e = .returned (.tuple #[]) ∧ Hid (Turns w b D k (nd.p.tell t K) w') := by
 have HA : Hid (Calls Tryz.prog 129 #[.pointer (some ⟨g, k * 8 + 7, none⟩), .int .u64 t] w fun e w' => e = .returned (.tuple #[]) ∧ Hid (Turns w b D k (nd.p.age t) w')) := dage w b k g D nd t h hnd ho hl hs
 have HLG : Hid (∀ W, Turns w b D k (nd.p.age t) W → Calls Tryz.prog 130 #[.pointer (some ⟨g, k * 8, none⟩), .int .u64 t] W fun e w' => e = .returned (.bool ((nd.p.age t).lags t)) ∧ W = w') := fun W hT => by
  obtain ⟨n1, e1, hb1⟩ := hT
  have hn1 := putN_at n1 hnd
  rw [← e1]
  exact dlags W g (k * 8) n1.p t (hb1.1.nodeC hn1 ho 0 (by omega) _ rfl) (hb1.1.nodeC hn1 ho 2 (by omega) _ rfl) (by rw [e1]; exact hz)
 have HFA : Hid (∀ W, Turns w b D k (nd.p.age t) W → Calls Tryz.prog 122 #[.pointer (some ⟨g, k * 8, none⟩)] W fun e w' => e = .returned (.tuple #[]) ∧ Hid (Turns w b D k (nd.p.age t).fall.clear w')) := fun W hT => by
  obtain ⟨n1, e1, hb1⟩ := hT
  refine (dsfall W b k g _ n1 hb1.1 (putN_at n1 hnd) ho).mono fun e w' hp => ⟨hp.1, ?_⟩
  obtain ⟨n2, e2, hb2⟩ := hp.2.out
  exact ⟨n2, by rw [e2, e1], by have := hb1.trans hb2; rwa [putN_putN] at this⟩
 have HSE : Hid (∀ W p1, p1.flight.length ≤ 1000 → Turns w b D k p1 W → Calls Tryz.prog 131 #[.pointer (some ⟨g, k * 8 + 7, none⟩), .agg #[.int .u64 (t : Int), .int .u8 K]] W fun e w' => e = .returned (.tuple #[]) ∧ Hid (Turns w b D k (p1.send (t, K)) w')) := fun W p1 hl1 hT => by
  obtain ⟨n1, e1, hb1⟩ := hT
  subst e1
  refine (dsend W b k g _ n1 (t, K) hb1.1 (putN_at n1 hnd) ho hl1).mono fun e w' hp => ⟨hp.1, ?_⟩
  obtain ⟨n2, e2, hb2⟩ := hp.2.out
  exact ⟨n2, e2, by have := hb1.trans hb2; rwa [putN_putN] at this⟩
 have HL2 : Hid ((nd.p.age t).flight.length ≤ 1000) := Nat.le_trans (age_len _ _) hl
 cases hlg : (nd.p.age t).lags t with
 | true =>
  rw [hlg] at HLG
  have HE : Hid (nd.p.tell t K = (nd.p.age t).fall.clear.send (t, K)) := by show _ = _; rw [NodeP.tell, hlg]; rfl
  clear h hnd ho hl hs hz hlg
  go_enter Tryz.func76, Tryz.ntmps76
  go_wp2_with first
   | (go_at_call 129; refine HA.out.mono ?_; rintro e w1 ⟨rfl, HT1⟩)
   | (go_at_call 130; refine (HLG.out _ HT1.out).mono ?_; rintro e w2 ⟨rfl, rfl⟩)
   | (go_at_call 122; refine (HFA.out _ HT1.out).mono ?_; rintro e w2 ⟨rfl, HT2⟩)
   | (go_at_call 131; refine (HSE.out _ _ (by show ([] : List (Nat × Int)).length ≤ 1000; simp) HT2.out).mono ?_; rintro e w3 ⟨rfl, HT3⟩)
  go_end0
  exact ⟨rfl, by rw [HE.out]; exact HT3⟩
 | false =>
  rw [hlg] at HLG
  have HE : Hid (nd.p.tell t K = (nd.p.age t).send (t, K)) := by show _ = _; rw [NodeP.tell, hlg]; rfl
  clear h hnd ho hl hs hz hlg
  go_enter Tryz.func76, Tryz.ntmps76
  go_wp2_with first
   | (go_at_call 129; refine HA.out.mono ?_; rintro e w1 ⟨rfl, HT1⟩)
   | (go_at_call 130; refine (HLG.out _ HT1.out).mono ?_; rintro e w2 ⟨rfl, rfl⟩)
   | (go_at_call 131; refine (HSE.out _ _ HL2.out HT1.out).mono ?_; rintro e w3 ⟨rfl, HT3⟩)
  go_end0
  exact ⟨rfl, by rw [HE.out]; exact HT3⟩
theorem dwrote0 (w : World) (b : Nat) (D : DevS) (t : Nat) (p : PastE) (h : Dev w b D) (hf : D.Fit) (hp : D.past[t]? = some p) :
  Calls Tryz.prog 75 #[.pointer (some ⟨b, 0, none⟩), .int .u64 ((t : Int) + 1)] w fun e w' => e = .returned (.int .u8 p.keys) ∧ w = w' := by
 have hm := hf.pmax
 obtain ⟨hlt, hp'⟩ := List.getElem?_eq_some_iff.mp hp
 obtain ⟨g, cap, hv, ho, _⟩ := h.past.block (by omega)
 have c1 := h.c1
 rw [hv] at c1
 have hc8 : w.cell? ⟨g, t * 10 + 8, none⟩ = some (.int .u8 p.keys) := h.past.cell ho _ _ (by rw [past_at D.past t hlt 8 (by omega), hp']; rfl)
 have HN : Hid (Calls Tryz.prog 80 #[.pointer (some ⟨b, 0, none⟩)] w fun e w' => e = .returned (.int .u64 (D.past.length : Int)) ∧ w = w') := dnewest w b D h hf
 have hb : ((t : Int) + 1 == 0) = false := beq_eq_false_iff_ne.mpr (by omega)
 have hd : ¬ (D.past.length : Int) < (t : Int) + 1 := by omega
 have ht0 : (0 : Int) ≤ (t : Int) := by omega
 have ht1 : (t : Int) < (D.past.length : Int) := by omega
 clear h hf hv ho hp hp'
 go_enter Tryz.func75, Tryz.ntmps75
 go_wp2_with (go_at_call 80; refine HN.out.mono ?_; rintro e w1 ⟨rfl, rfl⟩)
 go_ret
 exact ⟨rfl, rfl⟩
theorem dsite_bad (w : World) (b : Nat) (D : DevS) (i : Int) (h : Dev w b D) (hi : i < 0 ∨ (D.nodes.length : Int) ≤ i) :
  Calls Tryz.prog 106 #[.pointer (some ⟨b, 0, none⟩), .int .i64 i] w fun e w' => e = .returned (.tuple #[.pointer none, .int .i64 9]) ∧ w = w' := by
 obtain ⟨av, cv, hv, _⟩ := h.nodes.form
 have c28 := h.c28
 rw [hv] at c28
 by_cases h0 : i < 0
 · have hd : decide (i < 0) = true := by simpa using h0
  clear h hv hi
  go_enter Tryz.func106, Tryz.ntmps106
  go_wp2
  go_ret2
  exact ⟨rfl, rfl⟩
 · have hd : decide (i < 0) = false := by simpa using h0
  have h1 : (D.nodes.length : Int) ≤ i := by omega
  clear h hv hi
  go_enter Tryz.func106, Tryz.ntmps106
  go_wp2
  go_ret2
  exact ⟨rfl, rfl⟩
theorem dsite (w : World) (b k g : Nat) (D : DevS) (h : Dev w b D) (hk : k < D.nodes.length) (ho : D.vn.ownBlock = some g) :
  Calls Tryz.prog 106 #[.pointer (some ⟨b, 0, none⟩), .int .i64 (k : Int)] w fun e w' => e = .returned (.tuple #[.pointer (some ⟨g, k * 8, none⟩), .int .i64 0]) ∧ w = w' := by
 obtain ⟨g', cv, hv, ho', _⟩ := h.nodes.block (by omega)
 rw [ho] at ho'
 injection ho' with ho'
 subst ho'
 have c28 := h.c28
 rw [hv] at c28
 have hd : decide ((k : Int) < 0) = false := by simp
 have hd2 : ¬ D.nodes.length ≤ k := by omega
 have hk0 : (0 : Int) ≤ (k : Int) := by omega
 have hk1 : (k : Int) < (D.nodes.length : Int) := by omega
 clear h hv ho
 go_enter Tryz.func106, Tryz.ntmps106
 go_wp2
 go_ret2
 exact ⟨rfl, rfl⟩
theorem Turns.goes {w w' : World} {b k : Nat} {D : DevS} {p : NodeP} (h : Turns w b D k p w') : Goes w b D (D.pu.put (k : Int) p) w' := by
 obtain ⟨nd, e, hb⟩ := h
 exact ⟨_, by rw [DevS.pu_put, e], hb⟩
theorem dEvict (w : World) (b : Nat) (D : DevS) (k i : Int) (h : Dev w b D) (hw : D.Walk) :
  Calls Tryz.prog 47 #[.pointer (some ⟨b, 0, none⟩), .int .i64 k, .int .i64 i] w fun e w' => e = .returned (.int .i64 (D.pu.evict k i).1) ∧ Goes w b D (D.pu.evict k i).2 w' := by
 by_cases hk : k < 0 ∨ (D.nodes.length : Int) ≤ k
 · have HS : Hid (Calls Tryz.prog 106 #[.pointer (some ⟨b, 0, none⟩), .int .i64 k] w fun e w' => e = .returned (.tuple #[.pointer none, .int .i64 9]) ∧ w = w') := dsite_bad w b D k h hk
  have HE : Hid (D.pu.evict k i = (9, D.pu)) := by show _ = _; rw [DP.evict, DevS.pu_none hk]
  have HG : Hid (Goes w b D D.pu w) := Goes.of_kept h (Kept.refl _ _)
  clear h hw hk
  go_enter Tryz.func47, Tryz.ntmps47
  go_wp2_with (go_at_call 106; refine HS.out.mono ?_; rintro e w1 ⟨rfl, rfl⟩)
  go_ret
  exact ⟨by rw [HE.out]; rfl, by rw [HE.out]; exact HG.out⟩
 · obtain ⟨k, rfl⟩ : ∃ j : Nat, k = j := ⟨k.toNat, by omega⟩
  have hkl : k < D.nodes.length := by omega
  obtain ⟨nd, hnd⟩ : ∃ nd, D.nodes[k]? = some nd := ⟨_, List.getElem?_eq_getElem hkl⟩
  have hW := hw.nodes nd (List.mem_of_getElem? hnd)
  obtain ⟨g, _, _, ho, _⟩ := h.nodes.block hw.n1
  have HS : Hid (Calls Tryz.prog 106 #[.pointer (some ⟨b, 0, none⟩), .int .i64 (k : Int)] w fun e w' => e = .returned (.tuple #[.pointer (some ⟨g, k * 8, none⟩), .int .i64 0]) ∧ w = w') := dsite w b k g D h hkl ho
  have hsite := D.pu_site hnd
  have HT : Hid (∀ p w', Turns w b D k p w' → Goes w b D (D.pu.put (k : Int) p) w') := fun p w' hT => hT.goes
  have HC : Hid (Calls Tryz.prog 107 #[.pointer (some ⟨g, k * 8, none⟩), .int .i64 i] w fun e w' => ∃ er : Int, e = .returned (.int .i64 er) ∧ Hid ((D.pu.evict k i).1 = er ∧ Goes w b D (D.pu.evict k i).2 w')) := (dNEvict w b k g D nd i h hnd ho (by have := hW.el; omega)).mono fun e w' hp => by
   rcases hp with ⟨hb, e1, rfl⟩ | ⟨j, rfl, hj, e1, hT⟩
   · refine ⟨10, e1, ?_⟩
    rw [DP.evict, hsite]
    dsimp only
    rw [if_pos hb]
    exact ⟨rfl, Goes.of_kept h (Kept.refl _ _)⟩
   · refine ⟨0, e1, ?_⟩
    rw [DP.evict, hsite]
    dsimp only
    rw [if_neg (by omega)]
    exact ⟨rfl, HT.out _ _ hT.out⟩
  clear h hw hk hnd ho hW hsite
  go_enter Tryz.func47, Tryz.ntmps47
  go_wp2_with first
   | (go_at_call 106; refine HS.out.mono ?_; rintro e w1 ⟨rfl, rfl⟩)
   | (go_at_call 107; refine HC.out.mono ?_; rintro e w2 ⟨er, rfl, hr⟩)
  go_ret
  exact ⟨by rw [hr.out.1]; rfl, hr.out.2⟩
end Go.Proofs.YtpfcacedpkaihaaGreat
