/- The program's nodes (package memory): Answer, Store, Evict, walked. -/
import Derived.Test.YtpfcacedpkaihaaGreatEb
import Derived.Test.YtpfcacedpkaihaaGreatEd
import Derived.Test.YtpfcacedpkaihaaGreatEcEe
import Derived.Deep.RegionWith
namespace Go.Proofs.YtpfcacedpkaihaaGreat
open Go.RowKit

def DAnswerPost (w : World) (b : Nat) (D : DevS) (k : Nat) (p : NodeP) (q : ByteArray) (lo hi : Nat) (e : Ending) (w' : World) : Prop :=
  (p.ans q lo hi p.ents.length < 0 ∧ e = .returned (.tuple #[.int .i32 0, .agg #[.int .u64 0, .int .u64 0], .bool false]) ∧ Kept (fun _ => False) w w') ∨
  (∃ (j : Nat) (x : HeldE), p.ans q lo hi p.ents.length = j ∧ p.ents[j]? = some x ∧ e = .returned (.tuple #[.int .i32 x.e.val, .agg #[.int .u64 (x.e.fr : Int), .int .u64 (lastE x.e p.horizon : Int)], .bool true]) ∧ Hid (Turns w b D k (p.use j x) w'))

theorem Turns.late' {w W W1 W2 : World} {b k : Nat} {D : DevS} {p : NodeP} (hW : Kept (fun _ => False) w W) (h : Turns W b D k p W1) (hD : ∀ j, D.fp b j → j < w.heap.size) (F : Nat → Prop) (hF : ∀ r, F r → w.heap.size ≤ r ∧ (r < W.heap.size ∨ W1.heap.size ≤ r)) (hk : Kept F W1 W2) : Turns w b D k p W2 := by
  obtain ⟨nd, e, hb⟩ := h
  refine ⟨nd, e, hb.1.kept hk (fun j hj he => ?_), (hW.trans hb.2.1 (fun _ => False.elim) (fun _ _ => id)).trans hk (fun _ => id) (fun i hi he => by have := (hF i he).1; omega), fun x hx => (hb.2.2 x hx).imp id fun hh => Nat.le_trans hW.size hh⟩
  have h3 := hb.1.lt j hj
  have h4 := hF j he
  rcases hb.2.2 j hj with h1 | h1
  · have := hD j h1; omega
  · omega

set_option maxRecDepth 100000 in
set_option maxHeartbeats 2000000 in
theorem dAnswer (w : World) (b k g : Nat) (D : DevS) (nd : DNodeE) (q : ByteArray) (lo hi : Nat) (h : Dev w b D) (hnd : D.nodes[k]? = some nd) (ho : D.vn.ownBlock = some g) (hn : nd.p.ents.length ≤ 1000) (hfit : ∀ x ∈ nd.p.ents, x.e.Fit ∧ x.e.fr ≤ lastE x.e nd.p.horizon) (hlo : lo ≤ hi) (hu : nd.p.uses < 9223372036854775808) :
    Calls Tryz.prog 89 #[.pointer (some ⟨g, k * 8, none⟩), .string q, .agg #[.int .u64 (lo : Int), .int .u64 (hi : Int)]] w fun e w' => DAnswerPost w b D k nd.p q lo hi e w' := by
  have HLT : Hid (∀ j, D.fp b j → j < w.heap.size) := h.lt
  have HDA : Hid (∀ W, Kept (fun _ => False) w W → Dev W b D) := fun W hW => h.kept hW (fun _ _ => id)
  by_cases hneg : nd.p.ans q lo hi nd.p.ents.length < 0
  · have HL : Hid (∀ W, Kept (fun _ => False) w W → Calls Tryz.prog 135 #[.pointer (some ⟨g, k * 8, none⟩), .string q, .agg #[.int .u64 (lo : Int), .int .u64 (hi : Int)]] W fun e w' => e = .returned (.pointer none) ∧ Kept (fun _ => False) W w') := fun W hW => (dlatest W b k g D nd q lo hi (HDA.out W hW) hnd ho hn hfit hlo).mono fun e w' hp => by
      rcases hp.2 with ⟨_, e1⟩ | ⟨j, _, _, e1, _⟩
      · exact ⟨e1, hp.1⟩
      · omega
    have HB : Hid (∀ o o' w1, Kept (fun _ => False) ((w.alloc o).alloc (.cells #[.int .u64 0, .int .u64 0] o')) w1 → Blk w1 (w.heap.size + 1) o' #[.int .u64 0, .int .u64 0]) := fun o o' w1 hk => by
      have := (Blk.new (w.alloc o) o' #[.int .u64 0, .int .u64 0]).kept hk id
      simpa using this
    clear h hnd ho hn hfit hlo
    go_enter Tryz.func89, Tryz.ntmps89
    go_wp2_with (go_at_call 135; refine (HL.out _ ((Kept.alloc _ _ _).allocNew _)).mono ?_; rintro e w1 ⟨rfl, hk1⟩; have hb1 := HB.out _ _ _ hk1; have z0 : w1.cell? ⟨w.heap.size + 1, 0, none⟩ = some (.int .u64 0) := hb1.cell 0; have z1 : w1.cell? ⟨w.heap.size + 1, 1, none⟩ = some (.int .u64 0) := hb1.cell 1; have zf : ∀ i, w1.frozen? ⟨w.heap.size + 1, i, none⟩ = false := fun i => hb1.free i; have HK1 : Hid (Kept (fun _ => False) w w1) := ((Kept.alloc _ _ _).allocNew _).trans hk1 (fun _ => id) (fun _ _ => id); clear hb1 hk1)
    refine bodyPost_ret (v := .tuple #[.int .i32 0, .agg #[.int .u64 0, .int .u64 0], .bool false]) (by simp [results, Tryz.results89, go_sem, *]) rfl (.inl ⟨hneg, rfl, ?_⟩)
    exact (HK1.out.setNew _ 0 _ (by omega)).setNew _ 1 _ (by omega)
  · have hex : ∃ (j : Nat), nd.p.ans q lo hi nd.p.ents.length = (j : Int) ∧ j < nd.p.ents.length := by
      have h1 := (ansN_lt true nd.p.horizon q lo hi (nd.p.ents.map (·.e)) nd.p.ents.length).2
      have h2 : nd.p.ans q lo hi nd.p.ents.length < (nd.p.ents.length : Int) := h1
      exact ⟨(nd.p.ans q lo hi nd.p.ents.length).toNat, by omega, by omega⟩
    obtain ⟨j, hans, hjl⟩ := hex
    obtain ⟨x, hx⟩ : ∃ x, nd.p.ents[j]? = some x := ⟨_, List.getElem?_eq_getElem hjl⟩
    obtain ⟨ge, ce, hve, hown⟩ := h.block_of hnd hjl
    have hxf := (hfit x (List.mem_of_getElem? hx)).1
    have HL : Hid (∀ W, Kept (fun _ => False) w W → Calls Tryz.prog 135 #[.pointer (some ⟨g, k * 8, none⟩), .string q, .agg #[.int .u64 (lo : Int), .int .u64 (hi : Int)]] W fun e w' => e = .returned (.pointer (some ⟨ge, j * 7, none⟩)) ∧ Kept (fun _ => False) W w') := fun W hW => (dlatest W b k g D nd q lo hi (HDA.out W hW) hnd ho hn hfit hlo).mono fun e w' hp => by
      rcases hp.2 with ⟨h1, _⟩ | ⟨i, _, ge', h1, _, h3, e1⟩
      · omega
      · have : i = j := by omega
        subst this
        rw [hown] at h3
        injection h3 with h3
        subst h3
        exact ⟨e1, hp.1⟩
    obtain ⟨L, hL⟩ : ∃ L, L = lastE x.e nd.p.horizon := ⟨_, rfl⟩
    have HU : Hid (∀ W, Kept (fun _ => False) w W → Calls Tryz.prog 136 #[.pointer (some ⟨g, k * 8, none⟩), .pointer (some ⟨ge, j * 7, none⟩)] W fun e w' => e = .returned (.tuple #[]) ∧ Hid (Turns W b D k (nd.p.use j x) w') ∧ w'.cell? ⟨ge, j * 7, none⟩ = some (.string x.e.q) ∧ w'.cell? ⟨ge, j * 7 + 1, none⟩ = some (.int .i32 x.e.val) ∧ w'.cell? ⟨ge, j * 7 + 2, none⟩ = some (.int .u64 (x.e.fr : Int)) ∧ w'.cell? ⟨ge, j * 7 + 3, none⟩ = some (.int .u64 (x.e.till : Int)) ∧ w'.cell? ⟨ge, j * 7 + 4, none⟩ = some (.bool x.e.op) ∧ w'.cell? ⟨ge, j * 7 + 5, none⟩ = some (.int .u64 (x.e.kn : Int)) ∧ w'.cell? ⟨g, k * 8 + 2, none⟩ = some (.int .u64 (nd.p.horizon : Int))) := fun W hW =>
      (duse W b k g ge j D nd x (HDA.out W hW) hnd ho hown hx hu).mono fun e w' hp => by
        obtain ⟨n2, e2, e3, hb2⟩ := hp.2.out
        have hn2 := putN_at n2 hnd
        have hx2 : n2.p.ents[j]? = some { x with used := nd.p.uses + 1 } := by rw [e2]; exact List.getElem?_set_self hjl
        have hown2 : n2.en.ownBlock = some ge := by rw [e3]; exact hown
        have cc := fun f hf u hu => hb2.1.heldC hn2 hown2 hx2 f hf u hu
        refine ⟨hp.1, hp.2.out.turns, cc 0 (by omega) _ rfl, cc 1 (by omega) _ rfl, cc 2 (by omega) _ rfl, cc 3 (by omega) _ rfl, cc 4 (by omega) _ rfl, cc 5 (by omega) _ rfl, ?_⟩
        have := hb2.1.nodeC hn2 ho 2 (by omega) _ rfl
        rw [e2] at this
        exact this
    have HCO : Hid (∀ W, W.cell? ⟨g, k * 8 + 2, none⟩ = some (.int .u64 (nd.p.horizon : Int)) → Calls Tryz.prog 137 #[.pointer (some ⟨g, k * 8, none⟩), .agg #[.string x.e.q, .int .i32 x.e.val, .int .u64 (x.e.fr : Int), .int .u64 (x.e.till : Int), .bool x.e.op, .int .u64 (x.e.kn : Int)]] W fun e w' => e = .returned (.agg #[.int .u64 (x.e.fr : Int), .int .u64 (L : Int)]) ∧ Kept (fun _ => False) W w') := fun W hc => by rw [hL]; exact dcover W g (k * 8) x.e nd.p.horizon hxf hc
    have HB : Hid (∀ o o' w1, Kept (fun _ => False) ((w.alloc o).alloc (.cells #[.int .u64 0, .int .u64 0] o')) w1 → Blk w1 (w.heap.size + 1) o' #[.int .u64 0, .int .u64 0]) := fun o o' w1 hk => by
      have := (Blk.new (w.alloc o) o' #[.int .u64 0, .int .u64 0]).kept hk id
      simpa using this
    have HPO : Hid (∀ W W1 W2, Kept (fun _ => False) w W → w.heap.size + 1 < W.heap.size → Turns W b D k (nd.p.use j x) W1 → Kept (fun i => i = w.heap.size + 1 ∨ W1.heap.size ≤ i) W1 W2 → DAnswerPost w b D k nd.p q lo hi (.returned (.tuple #[.int .i32 x.e.val, .agg #[.int .u64 (x.e.fr : Int), .int .u64 (L : Int)], .bool true])) W2) := fun W W1 W2 hW hs hT hk => by
      refine .inr ⟨j, x, hans, hx, by rw [hL], Turns.late' hW hT HLT.out _ (fun r hr => ?_) hk⟩
      rcases hr with rfl | hr
      · exact ⟨by omega, .inl hs⟩
      · have : W.heap.size ≤ W1.heap.size := by obtain ⟨_, _, hb⟩ := hT; exact hb.2.1.size
        exact ⟨by omega, .inr hr⟩
    have hgl : ge < w.heap.size := (h.ents nd (List.mem_of_getElem? hnd)).lt ge hown
    clear h hnd ho hn hfit hlo hans hx hve hown hL hxf
    go_enter Tryz.func89, Tryz.ntmps89
    go_wp2_with first
      | (go_at_call 135; refine (HL.out _ ((Kept.alloc _ _ _).allocNew _)).mono ?_; rintro e w1 ⟨rfl, hk1⟩; have HB1 : Hid (Blk w1 (w.heap.size + 1) 88 #[.int .u64 0, .int .u64 0]) := HB.out _ _ _ hk1; have HK1 : Hid (Kept (fun _ => False) w w1) := ((Kept.alloc _ _ _).allocNew _).trans hk1 (fun _ => id) (fun _ _ => id); clear hk1)
      | (go_at_call 136; refine (HU.out _ HK1.out).mono ?_; rintro e w2 ⟨rfl, HT2, x0, x1, x2, x3, x4, x5, d2⟩; have HB2 : Hid (Blk w2 (w.heap.size + 1) 88 #[.int .u64 0, .int .u64 0]) := (by obtain ⟨_, _, hb⟩ := HT2.out; exact HB1.out.kept hb.2.1 (fun hh => by have := HLT.out _ hh; omega)))
    have z0 : w2.cell? ⟨w.heap.size + 1, 0, none⟩ = some (.int .u64 0) := HB2.out.cell 0
    have z1 : w2.cell? ⟨w.heap.size + 1, 1, none⟩ = some (.int .u64 0) := HB2.out.cell 1
    have hsz : w.heap.size + 1 < w1.heap.size := HB1.out.lt
    have hge : ge ≠ w.heap.size + 1 := by omega
    have hge' := Ne.symm hge
    have HCO1 : Hid (∀ W, W.cell? ⟨g, k * 8 + 2, none⟩ = some (.int .u64 (nd.p.horizon : Int)) → Calls Tryz.prog 137 #[.pointer (some ⟨g, k * 8, none⟩), .agg #[.string x.e.q, .int .i32 x.e.val, .int .u64 (x.e.fr : Int), .int .u64 (x.e.till : Int), .bool x.e.op, .int .u64 (x.e.kn : Int)]] W fun e w' => e = .returned (.agg #[.int .u64 (x.e.fr : Int), .int .u64 (L : Int)]) ∧ Kept (fun _ => False) W w') := HCO.out
    have b0 := drew_cell0 x0
    have b1 := drew_cell0 x1
    have b2 := drew_cell0 x2
    have b3 := drew_cell0 x3
    have b4 := drew_cell0 x4
    have b5 := drew_cell0 x5
    have b6 := drew_cell0 d2
    have HBD : Hid (Blk w2.drew (w.heap.size + 1) 88 #[.int .u64 0, .int .u64 0]) := HB2.out
    go_region_held3 (fun w' => w'.cell? ⟨ge, j * 7, none⟩ = some (.string x.e.q) ∧ w'.cell? ⟨ge, j * 7 + 1, none⟩ = some (.int .i32 x.e.val) ∧ w'.cell? ⟨ge, j * 7 + 2, none⟩ = some (.int .u64 (x.e.fr : Int)) ∧ w'.cell? ⟨ge, j * 7 + 3, none⟩ = some (.int .u64 (x.e.till : Int)) ∧ w'.cell? ⟨ge, j * 7 + 4, none⟩ = some (.bool x.e.op) ∧ w'.cell? ⟨ge, j * 7 + 5, none⟩ = some (.int .u64 (x.e.kn : Int))) (first | with_reducible exact ⟨s0, s1, s2, s3, s4, s5⟩ | with_reducible exact ⟨b0, b1, b2, b3, b4, b5⟩ | exact ⟨hold_set_ne hge (hold_set_ne hge s0), hold_set_ne hge (hold_set_ne hge s1), hold_set_ne hge (hold_set_ne hge s2), hold_set_ne hge (hold_set_ne hge s3), hold_set_ne hge (hold_set_ne hge s4), hold_set_ne hge (hold_set_ne hge s5)⟩ | fail) ((go_at_call 137; refine (HCO1.out _ b6).mono ?_; rintro e w4 ⟨rfl, hk4⟩; have HK4 : Hid (Kept (fun _ => False) w2 w4) := kdrew1 hk4; have s0 := hk4.hold b0; have s1 := hk4.hold b1; have s2 := hk4.hold b2; have s3 := hk4.hold b3; have s4 := hk4.hold b4; have s5 := hk4.hold b5; have HB4 : Hid (Blk w4 (w.heap.size + 1) 88 #[.int .u64 0, .int .u64 0]) := HBD.out.kept hk4 id; have y0 : w4.cell? ⟨w.heap.size + 1, 0, none⟩ = some (.int .u64 0) := HB4.out.cell 0; have y1 : w4.cell? ⟨w.heap.size + 1, 1, none⟩ = some (.int .u64 0) := HB4.out.cell 1; have yf0 := HB4.out.free 0; have yf1 := HB4.out.free 1))
    all_goals
      go_wp2
      refine bodyPost_ret (v := .tuple #[.int .i32 x.e.val, .agg #[.int .u64 (x.e.fr : Int), .int .u64 (L : Int)], .bool true]) (by simp [results, Tryz.results89, go_sem, *]) rfl (HPO.out _ _ _ HK1.out hsz HT2.out ?_)
      exact (HK4.out.trans (Kept.setCell _ ⟨w.heap.size + 1, 0, none⟩ _) (H := fun i => i = w.heap.size + 1 ∨ w2.heap.size ≤ i) (fun _ => False.elim) (fun _ _ h => .inl h)).trans (Kept.setCell _ ⟨w.heap.size + 1, 1, none⟩ _) (fun _ => id) (fun _ _ h => .inl h)

end Go.Proofs.YtpfcacedpkaihaaGreat
