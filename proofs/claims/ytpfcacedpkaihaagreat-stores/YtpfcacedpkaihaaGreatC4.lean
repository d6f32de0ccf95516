import Derived.Deep.DeepCutAuto
import Derived.Test.YtpfcacedpkaihaaGreatC3
import Derived.Test.YtpfcacedpkaihaaGreatC1
import Derived.Test.YtpfcacedpkaihaaGreatRows
import Derived.WalkKit
import Derived.WalkSpells
import Derived.WalkLawsBesides
namespace Go.Proofs.YtpfcacedpkaihaaGreat
open Go.RowKit
set_option maxRecDepth 100000
set_option maxHeartbeats 16000000
theorem uncons {l : List Value} {n : Nat} (h : l.length = n + 1) : ∃ x t, l = x :: t ∧ t.length = n := by
 match l, h with
 | x :: t, h => exact ⟨x, t, rfl, by simpa using h⟩
theorem array63 {cs : Array Value} (h : cs.size = 63) : ∃ x0 x1 x2 x3 x4 x5 x6 x7 x8 x9 x10 x11 x12 x13 x14 x15 x16 x17 x18 x19 x20 x21 x22 x23 x24 x25 x26 x27 x28 x29 x30 x31 x32 x33 x34 x35 x36 x37 x38 x39 x40 x41 x42 x43 x44 x45 x46 x47 x48 x49 x50 x51 x52 x53 x54 x55 x56 x57 x58 x59 x60 x61 x62, cs = #[x0, x1, x2, x3, x4, x5, x6, x7, x8, x9, x10, x11, x12, x13, x14, x15, x16, x17, x18, x19, x20, x21, x22, x23, x24, x25, x26, x27, x28, x29, x30, x31, x32, x33, x34, x35, x36, x37, x38, x39, x40, x41, x42, x43, x44, x45, x46, x47, x48, x49, x50, x51, x52, x53, x54, x55, x56, x57, x58, x59, x60, x61, x62] := by
 rcases cs with ⟨l0⟩
 have h0 : l0.length = 63 := h
 obtain ⟨x0, l1, e0, h1⟩ := uncons h0
 obtain ⟨x1, l2, e1, h2⟩ := uncons h1
 obtain ⟨x2, l3, e2, h3⟩ := uncons h2
 obtain ⟨x3, l4, e3, h4⟩ := uncons h3
 obtain ⟨x4, l5, e4, h5⟩ := uncons h4
 obtain ⟨x5, l6, e5, h6⟩ := uncons h5
 obtain ⟨x6, l7, e6, h7⟩ := uncons h6
 obtain ⟨x7, l8, e7, h8⟩ := uncons h7
 obtain ⟨x8, l9, e8, h9⟩ := uncons h8
 obtain ⟨x9, l10, e9, h10⟩ := uncons h9
 obtain ⟨x10, l11, e10, h11⟩ := uncons h10
 obtain ⟨x11, l12, e11, h12⟩ := uncons h11
 obtain ⟨x12, l13, e12, h13⟩ := uncons h12
 obtain ⟨x13, l14, e13, h14⟩ := uncons h13
 obtain ⟨x14, l15, e14, h15⟩ := uncons h14
 obtain ⟨x15, l16, e15, h16⟩ := uncons h15
 obtain ⟨x16, l17, e16, h17⟩ := uncons h16
 obtain ⟨x17, l18, e17, h18⟩ := uncons h17
 obtain ⟨x18, l19, e18, h19⟩ := uncons h18
 obtain ⟨x19, l20, e19, h20⟩ := uncons h19
 obtain ⟨x20, l21, e20, h21⟩ := uncons h20
 obtain ⟨x21, l22, e21, h22⟩ := uncons h21
 obtain ⟨x22, l23, e22, h23⟩ := uncons h22
 obtain ⟨x23, l24, e23, h24⟩ := uncons h23
 obtain ⟨x24, l25, e24, h25⟩ := uncons h24
 obtain ⟨x25, l26, e25, h26⟩ := uncons h25
 obtain ⟨x26, l27, e26, h27⟩ := uncons h26
 obtain ⟨x27, l28, e27, h28⟩ := uncons h27
 obtain ⟨x28, l29, e28, h29⟩ := uncons h28
 obtain ⟨x29, l30, e29, h30⟩ := uncons h29
 obtain ⟨x30, l31, e30, h31⟩ := uncons h30
 obtain ⟨x31, l32, e31, h32⟩ := uncons h31
 obtain ⟨x32, l33, e32, h33⟩ := uncons h32
 obtain ⟨x33, l34, e33, h34⟩ := uncons h33
 obtain ⟨x34, l35, e34, h35⟩ := uncons h34
 obtain ⟨x35, l36, e35, h36⟩ := uncons h35
 obtain ⟨x36, l37, e36, h37⟩ := uncons h36
 obtain ⟨x37, l38, e37, h38⟩ := uncons h37
 obtain ⟨x38, l39, e38, h39⟩ := uncons h38
 obtain ⟨x39, l40, e39, h40⟩ := uncons h39
 obtain ⟨x40, l41, e40, h41⟩ := uncons h40
 obtain ⟨x41, l42, e41, h42⟩ := uncons h41
 obtain ⟨x42, l43, e42, h43⟩ := uncons h42
 obtain ⟨x43, l44, e43, h44⟩ := uncons h43
 obtain ⟨x44, l45, e44, h45⟩ := uncons h44
 obtain ⟨x45, l46, e45, h46⟩ := uncons h45
 obtain ⟨x46, l47, e46, h47⟩ := uncons h46
 obtain ⟨x47, l48, e47, h48⟩ := uncons h47
 obtain ⟨x48, l49, e48, h49⟩ := uncons h48
 obtain ⟨x49, l50, e49, h50⟩ := uncons h49
 obtain ⟨x50, l51, e50, h51⟩ := uncons h50
 obtain ⟨x51, l52, e51, h52⟩ := uncons h51
 obtain ⟨x52, l53, e52, h53⟩ := uncons h52
 obtain ⟨x53, l54, e53, h54⟩ := uncons h53
 obtain ⟨x54, l55, e54, h55⟩ := uncons h54
 obtain ⟨x55, l56, e55, h56⟩ := uncons h55
 obtain ⟨x56, l57, e56, h57⟩ := uncons h56
 obtain ⟨x57, l58, e57, h58⟩ := uncons h57
 obtain ⟨x58, l59, e58, h59⟩ := uncons h58
 obtain ⟨x59, l60, e59, h60⟩ := uncons h59
 obtain ⟨x60, l61, e60, h61⟩ := uncons h60
 obtain ⟨x61, l62, e61, h62⟩ := uncons h61
 obtain ⟨x62, l63, e62, h63⟩ := uncons h62
 have en : l63 = [] := List.eq_nil_of_length_eq_zero h63
 exact ⟨x0, x1, x2, x3, x4, x5, x6, x7, x8, x9, x10, x11, x12, x13, x14, x15, x16, x17, x18, x19, x20, x21, x22, x23, x24, x25, x26, x27, x28, x29, x30, x31, x32, x33, x34, x35, x36, x37, x38, x39, x40, x41, x42, x43, x44, x45, x46, x47, x48, x49, x50, x51, x52, x53, x54, x55, x56, x57, x58, x59, x60, x61, x62, by rw [e0, e1, e2, e3, e4, e5, e6, e7, e8, e9, e10, e11, e12, e13, e14, e15, e16, e17, e18, e19, e20, e21, e22, e23, e24, e25, e26, e27, e28, e29, e30, e31, e32, e33, e34, e35, e36, e37, e38, e39, e40, e41, e42, e43, e44, e45, e46, e47, e48, e49, e50, e51, e52, e53, e54, e55, e56, e57, e58, e59, e60, e61, e62, en]⟩
theorem deps_lt : ∀ (i : Nat) (o : Oper), opsE[i]? = some o → ∀ e ∈ o.after, e.on < i := by
 have key : ((List.range 18).all fun i => ((opsE[i]?.map fun o => o.after.all fun e => decide (e.on < i)).getD true)) = true := by kernel_rfl
 intro i o ho e he
 have hi : i < 18 := (Array.getElem?_eq_some_iff.mp ho).1
 have h1 := List.all_eq_true.mp key i (List.mem_range.mpr hi)
 rw [ho] at h1
 have h2 : (o.after.all fun e => decide (e.on < i)) = true := by simpa using h1
 obtain ⟨k, hk, rfl⟩ := Array.getElem_of_mem he
 have := Array.all_eq_true.mp h2 k hk
 simpa using this
theorem entries_region {w0 w : World} {lo : Option Addr} {m lc i zb : Nat} {xs : List Value} {a0 : Act} {Q : Exit → Act → World → Prop} (hlt : ∀ k, (Value.slice lo m lc).ownBlock = some k → k < w0.heap.size) (hz : (Value.slice lo m lc).ownBlock ≠ some zb) (hm : m ≤ 1000000)
  (h0 : a0.tmps.size = 63) (hd : a0.defers = []) (h1 : a0.tmps.getD 1 undef = .slice lo m lc) (h4 : a0.tmps.getD 4 undef = .pointer (some ⟨zb, 0, none⟩)) (hS : SE w0 lo m lc i zb xs w)
  (hQ : ∀ (a : Act) (w' : World), a.tmps.size = 63 → a.defers = [] → (∀ k, (k < 14 ∧ k ≠ 5) ∨ 30 < k → a.tmps.getD k undef = a0.tmps.getD k undef) → SE w0 lo m lc i zb xs w' → IsN w0 lo m lc w' (a.tmps.getD 5 undef) → Q .normal a w') :
  wpAny Tryz.prog .any opsE Q opsE.size (Array.replicate opsE.size false) a0 w := by
 refine wpAny_inv (ops := opsE) (RJ 18 63 dstE (fun k => a0.tmps.getD k undef) (SE w0 lo m lc i zb xs) (VE w0 lo m lc i)) (fun _ _ _ h => h.size.trans rfl) (fun listed a w j hJ hj => entries_step hlt hz hm h1 h4 j hJ hj) (fun listed a w hJ hr => ?_) _ _ _ _ ?_ ?_
 · have all := all_listed (ops := opsE) (by rw [hJ.size]; rfl) deps_lt hr
  refine hQ a w hJ.tsz hJ.dfr (fun k hk => hJ.old k fun q hq => ?_) hJ.s (hJ.val 17 (by omega) (all 17 (by decide)))
  unfold dstE
  split <;> omega
 · refine ⟨by simp [opsE], h0, hd, fun k _ => rfl, hS, fun j hj hl => ?_⟩
  exfalso
  have : opsE.size = 18 := rfl
  rw [this] at hl
  simp [Array.getD, hj] at hl
 · have : opsE.size = 18 := rfl
  rw [this]
  simp
def Mk (i : Nat) (W : World) (g j : Nat) : Prop := ∃ c, Blk W g 55 c ∧ ∀ f, f < 6 → c[j * 6 + f]? = (markE i)[f]?
structure Four (W : World) (zb m : Nat) (ad : Nat → Option Addr) (Own : Nat → Prop) : Prop where
 room : ∀ k, k < 4 → 0 < m + k → ∃ g, ad k = some ⟨g, 0, none⟩ ∧ Own g ∧ g ≠ zb ∧ ∃ c, Blk W g 55 c ∧ (m + k) * 6 ≤ c.size
def fourC (m : Nat) (ad : Nat → Option Addr) (cp : Nat → Nat) : Array Value := #[.slice (ad 0) (m + 0) (cp 0), .slice (ad 1) (m + 1) (cp 1), .slice (ad 2) (m + 2) (cp 2), .slice (ad 3) (m + 3) (cp 3)]
theorem four_at (m : Nat) (ad : Nat → Option Addr) (cp : Nat → Nat) (k : Nat) (hk : k < 4) : (fourC m ad cp)[k]? = some (.slice (ad k) (m + k) (cp k)) := by
 have : k = 0 ∨ k = 1 ∨ k = 2 ∨ k = 3 := by omega
 rcases this with rfl | rfl | rfl | rfl <;> rfl
def st6 (W : World) (g o : Nat) (z0 z1 z2 z3 z4 z5 : Value) : World := (((((W.setCell ⟨g, o, none⟩ z0).setCell ⟨g, o + 1, none⟩ z1).setCell ⟨g, o + 2, none⟩ z2).setCell ⟨g, o + 3, none⟩ z3).setCell ⟨g, o + 4, none⟩ z4).setCell ⟨g, o + 5, none⟩ z5
theorem st6_kept (W : World) (g o : Nat) (z0 z1 z2 z3 z4 z5 : Value) : Kept (fun k => k = g) W (st6 W g o z0 z1 z2 z3 z4 z5) := by
 have st : ∀ (a : World) (f : Nat) (v : Value), Kept (fun k => k = g) W a → Kept (fun k => k = g) W (a.setCell ⟨g, f, none⟩ v) := fun a f v ha => ha.trans (Kept.setCell a _ v) (fun _ => id) (fun _ _ hk => hk)
 exact st _ _ _ (st _ _ _ (st _ _ _ (st _ _ _ (st _ _ _ (st _ _ _ (Kept.refl _ _))))))
theorem st6_blk {W : World} {g : Nat} {T : TypeId} {c : Array Value} (h : Blk W g T c) (o : Nat) (z0 z1 z2 z3 z4 z5 : Value) : Blk (st6 W g o z0 z1 z2 z3 z4 z5) g T ((((((c.setIfInBounds o z0).setIfInBounds (o + 1) z1).setIfInBounds (o + 2) z2).setIfInBounds (o + 3) z3).setIfInBounds (o + 4) z4).setIfInBounds (o + 5) z5) :=
 (((((h.set o z0).set (o + 1) z1).set (o + 2) z2).set (o + 3) z3).set (o + 4) z4).set (o + 5) z5
theorem st6_at (c : Array Value) (i : Nat) (h : (i + 1) * 6 ≤ c.size) (z0 z1 z2 z3 z4 z5 : Value) (j f : Nat) (hf : f < 6) :
  ((((((c.setIfInBounds (i * 6) z0).setIfInBounds (i * 6 + 1) z1).setIfInBounds (i * 6 + 2) z2).setIfInBounds (i * 6 + 3) z3).setIfInBounds (i * 6 + 4) z4).setIfInBounds (i * 6 + 5) z5)[j * 6 + f]? = if j = i then (#[z0, z1, z2, z3, z4, z5] : Array Value)[f]? else c[j * 6 + f]? := by
 by_cases e : j = i
 · subst e
  have hc : f = 0 ∨ f = 1 ∨ f = 2 ∨ f = 3 ∨ f = 4 ∨ f = 5 := by omega
  rw [if_pos rfl]
  rcases hc with rfl | rfl | rfl | rfl | rfl | rfl <;> simp [Array.getElem?_setIfInBounds] <;> omega
 · rw [if_neg e]
  rw [Array.getElem?_setIfInBounds_ne (by omega), Array.getElem?_setIfInBounds_ne (by omega), Array.getElem?_setIfInBounds_ne (by omega), Array.getElem?_setIfInBounds_ne (by omega), Array.getElem?_setIfInBounds_ne (by omega), Array.getElem?_setIfInBounds_ne (by omega)]
theorem mk_store {i : Nat} {W : World} {g j : Nat} {c : Array Value} (hb : Blk W g 55 c) (hs : (j + 1) * 6 ≤ c.size) (W' : World) (hW : W' = st6 W g (j * 6) (.string mq) (.int .i32 0) (.int .u64 0) (.int .u64 (i : Int)) (.bool false) (.int .u64 0)) :
  Kept (fun k => k = g) W W' ∧ Mk i W' g j ∧ (∀ g' j', Mk i W g' j' → Mk i W' g' j') ∧ ∃ c', Blk W' g 55 c' ∧ c'.size = c.size := by
 subst hW
 have k := st6_kept W g (j * 6) (.string mq) (.int .i32 0) (.int .u64 0) (.int .u64 (i : Int)) (.bool false) (.int .u64 0)
 have b := st6_blk hb (j * 6) (.string mq) (.int .i32 0) (.int .u64 0) (.int .u64 (i : Int)) (.bool false) (.int .u64 0)
 refine ⟨k, ⟨_, b, fun f hf => by rw [st6_at c j hs _ _ _ _ _ _ j f hf, if_pos rfl]; rfl⟩, ?_, _, b, by simp⟩
 rintro g' j' ⟨c', hb', hc'⟩
 by_cases e : g' = g
 · subst e
  obtain ⟨_, rfl⟩ := hb.type hb'
  refine ⟨_, b, fun f hf => ?_⟩
  rw [st6_at c j hs _ _ _ _ _ _ j' f hf]
  split
  · rfl
  · exact hc' f hf
 · exact ⟨c', hb'.kept k e, hc'⟩
theorem Mk.same {i : Nat} {W W' : World} {g j : Nat} (h : Mk i W g j) (hs : W'.heap[g]? = W.heap[g]?) : Mk i W' g j := by
 obtain ⟨c, hb, hc⟩ := h
 exact ⟨c, hb.same hs, hc⟩
theorem Four.keep {W W' : World} {zb m : Nat} {ad : Nat → Option Addr} {Own : Nat → Prop} (h : Four W zb m ad Own) (hk : ∀ g c, Blk W g 55 c → ∃ c', Blk W' g 55 c' ∧ c.size ≤ c'.size) : Four W' zb m ad Own := by
 refine ⟨fun k hk4 h0 => ?_⟩
 obtain ⟨g, h1, h2, h3, c, hb, hc⟩ := h.room k hk4 h0
 obtain ⟨c', hb', hc'⟩ := hk g c hb
 exact ⟨g, h1, h2, h3, c', hb', by omega⟩
structure SeatE where
 reads : Bool
 num : Int
 lo : Nat
 hi : Nat
structure HeldE where
 e : EntE
 used : Nat
def heldC (h : HeldE) : List Value := [.string h.e.q, .int .i32 h.e.val, .int .u64 (h.e.fr : Int), .int .u64 (h.e.till : Int), .bool h.e.op, .int .u64 (h.e.kn : Int), .int .u64 (h.used : Int)]
structure NodeP where
 up : Bool
 room : Int
 horizon : Nat
 hists : List (Nat × Int)
 waits : List (Nat × Int)
 ents : List HeldE
 uses : Nat
 flight : List (Nat × Int)
structure DNodeE where
 p : NodeP
 hs : Value
 wt : Value
 en : Value
 fl : Value
def dnodeC (n : DNodeE) : List Value := [.bool n.p.up, .int .i64 n.p.room, .int .u64 (n.p.horizon : Int), n.hs, n.wt, n.en, .int .u64 (n.p.uses : Int), n.fl]
def histC (h : Nat × Int) : List Value := [.int .u64 (h.1 : Int), .int .u8 h.2]
def dnodeR (n : DNodeE) : List RowD := [⟨244, 2, n.hs, n.p.hists.length, n.p.hists.flatMap histC⟩, ⟨244, 2, n.wt, n.p.waits.length, n.p.waits.flatMap histC⟩, ⟨227, 7, n.en, n.p.ents.length, n.p.ents.flatMap heldC⟩, ⟨192, 2, n.fl, n.p.flight.length, n.p.flight.flatMap histC⟩]
structure DevS where
 clock : Int
 past : List PastE
 begun : Nat
 seats : Nat → SeatE
 puts : List EntE
 vc : Value
 vq : Value
 nodes : List DNodeE
 vn : Value
def DevS.cells (D : DevS) : Array Value :=
 #[.int .i64 D.clock, D.vc, .int .i64 (D.begun : Int),
  .bool (D.seats 0).reads, .int .i64 (D.seats 0).num, .int .u64 ((D.seats 0).lo : Int), .int .u64 ((D.seats 0).hi : Int),
  .bool (D.seats 1).reads, .int .i64 (D.seats 1).num, .int .u64 ((D.seats 1).lo : Int), .int .u64 ((D.seats 1).hi : Int),
  .bool (D.seats 2).reads, .int .i64 (D.seats 2).num, .int .u64 ((D.seats 2).lo : Int), .int .u64 ((D.seats 2).hi : Int),
  .bool (D.seats 3).reads, .int .i64 (D.seats 3).num, .int .u64 ((D.seats 3).lo : Int), .int .u64 ((D.seats 3).hi : Int),
  .bool (D.seats 4).reads, .int .i64 (D.seats 4).num, .int .u64 ((D.seats 4).lo : Int), .int .u64 ((D.seats 4).hi : Int),
  .bool (D.seats 5).reads, .int .i64 (D.seats 5).num, .int .u64 ((D.seats 5).lo : Int), .int .u64 ((D.seats 5).hi : Int), D.vq, D.vn]
def DevS.rows (D : DevS) : List RowD := ⟨215, 10, D.vc, D.past.length, D.past.flatMap pastC⟩ :: ⟨55, 6, D.vq, D.puts.length, D.puts.flatMap entC⟩ :: ⟨139, 8, D.vn, D.nodes.length, D.nodes.flatMap dnodeC⟩ :: D.nodes.flatMap dnodeR
structure Dev (w : World) (b : Nat) (D : DevS) : Prop where
 blk : Blk w b 129 D.cells
 all : Rows' w D.rows
theorem drows_ne_world {D : DevS} {r : RowD} (h : r ∈ D.rows) : r.T ≠ 129 := by
 simp only [DevS.rows, List.mem_cons, List.mem_flatMap, dnodeR, List.not_mem_nil, or_false] at h
 rcases h with rfl | rfl | rfl | ⟨nd, _, rfl | rfl | rfl | rfl⟩ <;> (dsimp only; decide)
theorem Dev.past {w : World} {b : Nat} {D : DevS} (h : Dev w b D) : Row w 215 10 D.vc D.past.length (D.past.flatMap pastC) := h.all.row _ (List.mem_of_getElem? (i := 0) rfl)
theorem Dev.puts {w : World} {b : Nat} {D : DevS} (h : Dev w b D) : Row w 55 6 D.vq D.puts.length (D.puts.flatMap entC) := h.all.row _ (List.mem_of_getElem? (i := 1) rfl)
theorem Dev.nodes {w : World} {b : Nat} {D : DevS} (h : Dev w b D) : Row w 139 8 D.vn D.nodes.length (D.nodes.flatMap dnodeC) := h.all.row _ (List.mem_of_getElem? (i := 2) rfl)
theorem dnodeR_mem {D : DevS} {nd : DNodeE} {r : RowD} (hn : nd ∈ D.nodes) (hr : r ∈ dnodeR nd) : r ∈ D.rows := by
 simp only [DevS.rows, List.mem_cons, List.mem_flatMap]
 exact .inr (.inr (.inr ⟨nd, hn, hr⟩))
theorem Dev.hists {w : World} {b : Nat} {D : DevS} (h : Dev w b D) : ∀ nd ∈ D.nodes, Row w 244 2 nd.hs nd.p.hists.length (nd.p.hists.flatMap histC) := fun _ hn => h.all.row ⟨_, _, _, _, _⟩ (dnodeR_mem hn (List.mem_of_getElem? (i := 0) rfl))
theorem Dev.waits {w : World} {b : Nat} {D : DevS} (h : Dev w b D) : ∀ nd ∈ D.nodes, Row w 244 2 nd.wt nd.p.waits.length (nd.p.waits.flatMap histC) := fun _ hn => h.all.row ⟨_, _, _, _, _⟩ (dnodeR_mem hn (List.mem_of_getElem? (i := 1) rfl))
theorem Dev.ents {w : World} {b : Nat} {D : DevS} (h : Dev w b D) : ∀ nd ∈ D.nodes, Row w 227 7 nd.en nd.p.ents.length (nd.p.ents.flatMap heldC) := fun _ hn => h.all.row ⟨_, _, _, _, _⟩ (dnodeR_mem hn (List.mem_of_getElem? (i := 2) rfl))
theorem Dev.flight {w : World} {b : Nat} {D : DevS} (h : Dev w b D) : ∀ nd ∈ D.nodes, Row w 192 2 nd.fl nd.p.flight.length (nd.p.flight.flatMap histC) := fun _ hn => h.all.row ⟨_, _, _, _, _⟩ (dnodeR_mem hn (List.mem_of_getElem? (i := 3) rfl))
def DevS.fp (D : DevS) (b : Nat) (k : Nat) : Prop := k = b ∨ ∃ r ∈ D.rows, r.v.ownBlock = some k
structure DevS.Fit (D : DevS) : Prop where
 pmax : D.past.length ≤ 700
 clk0 : 0 ≤ D.clock
 clk1 : D.clock ≤ 100000
 bmax : D.begun ≤ 200
 qmax : D.puts.length ≤ 10
theorem Dev.lt {w : World} {b : Nat} {D : DevS} (h : Dev w b D) : ∀ k, D.fp b k → k < w.heap.size := by
 rintro k (rfl | ⟨r, hr, hk⟩)
 · exact h.blk.lt
 · exact (h.all.row r hr).lt k hk
theorem Dev.ne {w : World} {b : Nat} {D : DevS} (h : Dev w b D) : ∀ r ∈ D.rows, r.v.ownBlock ≠ some b := fun r hr => (h.all.row r hr).ne_block h.blk (drows_ne_world hr)
theorem Dev.same {w w' : World} {b : Nat} {D : DevS} (h : Dev w b D) (hs : ∀ k, D.fp b k → w'.heap[k]? = w.heap[k]?) : Dev w' b D :=
 ⟨h.blk.same (hs b (.inl rfl)), h.all.same fun k hk => hs k (.inr hk)⟩
theorem Dev.kept {w w' : World} {F : Nat → Prop} {b : Nat} {D : DevS} (h : Dev w b D) (k : Kept F w w') (hF : ∀ j, D.fp b j → ¬ F j) : Dev w' b D :=
 h.same fun j hj => k.block j (h.lt j hj) (hF j hj)
theorem Dev.put {w w' : World} {b : Nat} {D D' : DevS} (h : Dev w b D) (i f : Nat) (r r' : RowD) (hi : D.rows[i]? = some r) (k : Kept (fun j => r.v.ownBlock = some j) w w') (hr : r'.Is w')
  (hown : ∀ x, r'.v.ownBlock = some x → r.v.ownBlock = some x ∨ w.heap.size ≤ x) (hrows : D'.rows = D.rows.set i r') (hT : r'.T ≠ 129)
  (hblk : D.cells.setIfInBounds f r'.v = D'.cells) :
  Dev (w'.setCell ⟨b, f, none⟩ r'.v) b D' ∧ Kept (D.fp b) w (w'.setCell ⟨b, f, none⟩ r'.v) ∧ (∀ x, D'.fp b x → D.fp b x ∨ w.heap.size ≤ x) := by
 have hm : r ∈ D.rows := List.mem_of_getElem? hi
 have blk1 := h.blk.kept k fun he => h.ne r hm he
 have all1 := h.all.put i r r' hi k hr hown
 have k2 := Kept.setCell w' ⟨b, f, none⟩ r'.v
 refine ⟨⟨?_, ?_⟩, k.trans k2 (fun x hx => .inr ⟨r, hm, hx⟩) (fun x _ hx => .inl hx), ?_⟩
 · rw [← hblk]; exact blk1.set f _
 · rw [hrows]
  refine all1.kept k2 ?_
  rintro j ⟨a, ha, hj⟩ he
  subst he
  rcases List.mem_or_eq_of_mem_set ha with ha' | rfl
  · exact (all1.row a ha).ne_block blk1 (drows_ne_world ha') hj
  · exact Row.ne_block hr blk1 hT hj
 · rintro x (rfl | ⟨a, ha, hx⟩)
  · exact .inl (.inl rfl)
  · rw [hrows] at ha
   rcases List.mem_or_eq_of_mem_set ha with ha | rfl
   · exact .inl (.inr ⟨a, ha, hx⟩)
   · exact (hown x hx).imp (fun hh => .inr ⟨r, hm, hh⟩) id
theorem Dev.setOwn {w : World} {b : Nat} {D D' : DevS} (h : Dev w b D) (f : Nat) (v : Value) (hrows : D'.rows = D.rows) (hblk : D.cells.setIfInBounds f v = D'.cells) : Dev (w.setCell ⟨b, f, none⟩ v) b D' :=
 ⟨by rw [← hblk]; exact h.blk.set f v, by rw [hrows]; exact h.all.kept (Kept.setCell w ⟨b, f, none⟩ v) (by rintro j ⟨r, hr, hj⟩ he; subst he; exact h.ne r hr hj)⟩
def DevS.putN (D : DevS) (k : Nat) (nd : DNodeE) : DevS := { D with nodes := D.nodes.set k nd }
def DevS.nodeD (D : DevS) : RowD := ⟨139, 8, D.vn, D.nodes.length, D.nodes.flatMap dnodeC⟩
theorem drows_at {D : DevS} {k : Nat} {nd : DNodeE} (hnd : D.nodes[k]? = some nd) (f : Nat) (hf : f < 4) : D.rows[(k * 4 + f) + 3]? = (dnodeR nd)[f]? := by
 obtain ⟨hk, hnd'⟩ := List.getElem?_eq_some_iff.mp hnd
 show (D.nodes.flatMap dnodeR)[k * 4 + f]? = _
 rw [flat_at dnodeR 4 (fun _ => rfl) D.nodes k hk f hf, hnd']
theorem drows_set {D : DevS} {k : Nat} {nd y : DNodeE} (hnd : D.nodes[k]? = some nd) (f : Nat) (hf : f < 4) (r : RowD) (hy : dnodeR y = (dnodeR nd).set f r) :
  (D.putN k y).rows = (D.rows.set ((k * 4 + f) + 3) r).set 2 (D.putN k y).nodeD := by
 obtain ⟨hk, hnd'⟩ := List.getElem?_eq_some_iff.mp hnd
 have e := flat_set dnodeR 4 (fun _ => rfl) D.nodes k hk f hf r y (by rw [hnd']; exact hy)
 show _ :: _ :: _ :: (D.nodes.set k y).flatMap dnodeR = _ :: _ :: _ :: (D.nodes.flatMap dnodeR).set (k * 4 + f) r
 rw [e]; rfl
def DBecame (w : World) (b : Nat) (D : DevS) (w' : World) (D' : DevS) : Prop := Dev w' b D' ∧ Kept (D.fp b) w w' ∧ ∀ x, D'.fp b x → D.fp b x ∨ w.heap.size ≤ x
theorem DBecame.trans {w w1 w2 : World} {b : Nat} {D D1 D2 : DevS} (h : DBecame w b D w1 D1) (h2 : DBecame w1 b D1 w2 D2) : DBecame w b D w2 D2 := by
 have hs := h.2.1.size
 refine ⟨h2.1, h.2.1.trans h2.2.1 (fun _ => id) (fun k hk hf => ?_), fun x hx => ?_⟩
 · rcases h.2.2 k hf with h1 | h1
  · exact h1
  · omega
 · rcases h2.2.2 x hx with h1 | h1
  · exact h.2.2 x h1
  · exact .inr (by omega)
theorem DBecame.of_kept {w w1 : World} {b : Nat} {D : DevS} (h : Dev w b D) (k : Kept (fun _ => False) w w1) : DBecame w b D w1 D := ⟨h.kept k (fun _ _ => id), k.mono (fun _ => False.elim), fun _ hx => .inl hx⟩
theorem Dev.putF {w w1 w' : World} {b k f : Nat} {D : DevS} {nd y : DNodeE} {r r' : RowD} (h : Dev w b D) (hnd : D.nodes[k]? = some nd) (hf : f < 4) (hr : (dnodeR nd)[f]? = some r) (hy : dnodeR y = (dnodeR nd).set f r')
  (k1 : Kept (fun j => r.v.ownBlock = some j) w w1) (hr' : r'.Is w1) (hown : ∀ x, r'.v.ownBlock = some x → r.v.ownBlock = some x ∨ w.heap.size ≤ x)
  (k2 : Kept (fun j => D.vn.ownBlock = some j) w1 w') (hn : Row w' 139 8 D.vn (D.nodes.set k y).length ((D.nodes.set k y).flatMap dnodeC)) :
  DBecame w b D w' (D.putN k y) := by
 have hi : D.rows[(k * 4 + f) + 3]? = some r := (drows_at hnd f hf).trans hr
 have hm : r ∈ D.rows := List.mem_of_getElem? hi
 have hmn : D.nodeD ∈ D.rows := List.mem_of_getElem? (i := 2) rfl
 have all1 := h.all.put ((k * 4 + f) + 3) r r' hi k1 hr' hown
 have h2 : (D.rows.set ((k * 4 + f) + 3) r')[2]? = some D.nodeD := by rw [List.getElem?_set_ne (by omega)]; rfl
 have all2 := all1.put 2 D.nodeD (D.putN k y).nodeD h2 k2 hn (fun x hx => .inl hx)
 have blk1 := h.blk.kept k1 fun he => h.ne r hm he
 have rown : Row w1 139 8 D.vn D.nodes.length (D.nodes.flatMap dnodeC) := all1.row _ (List.mem_of_getElem? h2)
 have blk2 := blk1.kept k2 fun he => rown.ne_block blk1 (by decide) he
 have er := drows_set hnd f hf r' hy
 refine ⟨⟨blk2, by rw [er]; exact all2⟩, k1.trans k2 (fun x hx => .inr ⟨r, hm, hx⟩) (fun x _ hx => .inr ⟨_, hmn, hx⟩), ?_⟩
 rintro x (rfl | ⟨a, ha, hx⟩)
 · exact .inl (.inl rfl)
 · rw [er] at ha
  rcases List.mem_or_eq_of_mem_set ha with ha | rfl
  · rcases List.mem_or_eq_of_mem_set ha with ha | rfl
   · exact .inl (.inr ⟨a, ha, hx⟩)
   · exact (hown x hx).imp (fun hh => .inr ⟨r, hm, hh⟩) id
  · exact .inl (.inr ⟨_, hmn, hx⟩)
theorem dnode_at (l : List DNodeE) (j : Nat) (hj : j < l.length) (f : Nat) (hf : f < 8) : (l.flatMap dnodeC)[j * 8 + f]? = (dnodeC l[j])[f]? := flat_at dnodeC 8 (fun _ => rfl) l j hj f hf
theorem Dev.nodeC {w : World} {b k g : Nat} {D : DevS} {nd : DNodeE} (h : Dev w b D) (hnd : D.nodes[k]? = some nd) (ho : D.vn.ownBlock = some g) (f : Nat) (hf : f < 8) (u : Value) (hu : (dnodeC nd)[f]? = some u) : w.cell? ⟨g, k * 8 + f, none⟩ = some u := by
 obtain ⟨hk, hnd'⟩ := List.getElem?_eq_some_iff.mp hnd
 exact h.nodes.cell ho _ u (by rw [dnode_at D.nodes k hk f hf, hnd']; exact hu)
theorem dnodeR_mem' {D : DevS} {k f : Nat} {nd : DNodeE} {r : RowD} (hnd : D.nodes[k]? = some nd) (hr : (dnodeR nd)[f]? = some r) : r ∈ D.rows := dnodeR_mem (List.mem_of_getElem? hnd) (List.mem_of_getElem? hr)
theorem dnodeR_ne {nd : DNodeE} {r : RowD} (h : r ∈ dnodeR nd) : r.T ≠ 139 := by
 simp only [dnodeR, List.mem_cons, List.not_mem_nil, or_false] at h
 rcases h with rfl | rfl | rfl | rfl <;> (dsimp only; decide)
theorem Dev.rowN {w w1 : World} {b k g : Nat} {D : DevS} {nd y : DNodeE} (h : Dev w b D) (hnd : D.nodes[k]? = some nd) (ho : D.vn.ownBlock = some g) (f c : Nat) (hf : f < 4) (hcc : c < 8) (r r' : RowD) (v : Value) (hr : (dnodeR nd)[f]? = some r) (hy : dnodeR y = (dnodeR nd).set f r') (hc : dnodeC y = (dnodeC nd).set c v)
  (k1 : Kept (fun j => r.v.ownBlock = some j) w w1) (hr' : r'.Is w1) (hown : ∀ x, r'.v.ownBlock = some x → r.v.ownBlock = some x ∨ w.heap.size ≤ x) : DBecame w b D (w1.setCell ⟨g, k * 8 + c, none⟩ v) (D.putN k y) := by
 obtain ⟨hk, hnd'⟩ := List.getElem?_eq_some_iff.mp hnd
 have hm := dnodeR_mem' hnd hr
 have hrn : Row w1 139 8 D.vn D.nodes.length (D.nodes.flatMap dnodeC) := h.nodes.kept k1 fun j hj he => (h.all.row r hm).ne_row h.nodes (dnodeR_ne (List.mem_of_getElem? hr)) j he hj
 refine h.putF hnd hf hr hy k1 hr' hown ((Kept.setCell w1 _ _).mono fun j hj => by rw [ho, hj]) ?_
 have := hrn.set ho (k * 8 + c) v
 rw [flat_set dnodeC 8 (fun _ => rfl) D.nodes k hk c hcc v y (by rw [hnd']; exact hc)] at this
 rw [List.length_set]
 exact this
theorem Dev.cellN {w : World} {b k g : Nat} {D : DevS} {nd y : DNodeE} (h : Dev w b D) (hnd : D.nodes[k]? = some nd) (ho : D.vn.ownBlock = some g) (c : Nat) (hcc : c < 8) (v : Value) (hy : dnodeR y = dnodeR nd) (hc : dnodeC y = (dnodeC nd).set c v) : DBecame w b D (w.setCell ⟨g, k * 8 + c, none⟩ v) (D.putN k y) :=
 h.rowN hnd ho 0 c (by omega) hcc ⟨244, 2, nd.hs, nd.p.hists.length, nd.p.hists.flatMap histC⟩ ⟨244, 2, nd.hs, nd.p.hists.length, nd.p.hists.flatMap histC⟩ v rfl (by rw [hy]; rfl) hc (Kept.refl _ _) (h.hists nd (List.mem_of_getElem? hnd)) (fun x hx => .inl hx)
theorem flat_same {α β : Type} (C : α → List β) (l : List α) (k : Nat) (y : α) (h : ∀ x, l[k]? = some x → C y = C x) : (l.set k y).flatMap C = l.flatMap C := by
 induction l generalizing k with
 | nil => rfl
 | cons a r ih =>
  match k with
  | 0 => simp only [List.set_cons_zero, List.flatMap_cons]; rw [h a rfl]
  | k + 1 => simp only [List.set_cons_succ, List.flatMap_cons]; rw [ih k fun x hx => h x (by simpa using hx)]
theorem Dev.turnEnts {w w1 : World} {b k : Nat} {D : DevS} {nd : DNodeE} (h : Dev w b D) (hnd : D.nodes[k]? = some nd) (l : List HeldE) (k1 : Kept (fun j => nd.en.ownBlock = some j) w w1) (hr : Row w1 227 7 nd.en l.length (l.flatMap heldC)) : DBecame w b D w1 (D.putN k { nd with p := { nd.p with ents := l } }) := by
 have hrn : Row w1 139 8 D.vn D.nodes.length (D.nodes.flatMap dnodeC) := h.nodes.kept k1 fun j hj he => (h.ents nd (List.mem_of_getElem? hnd)).ne_row h.nodes (by decide) j he hj
 refine h.putF hnd (f := 2) (r := ⟨227, 7, nd.en, nd.p.ents.length, nd.p.ents.flatMap heldC⟩) (r' := ⟨227, 7, nd.en, l.length, l.flatMap heldC⟩) (by omega) rfl rfl k1 hr (fun x hx => .inl hx) (Kept.refl _ _) ?_
 rw [List.length_set, flat_same dnodeC D.nodes k _ fun x hx => by rw [hnd] at hx; injection hx with hx; subst hx; rfl]
 exact hrn
theorem held_at (l : List HeldE) (j : Nat) (hj : j < l.length) (f : Nat) (hf : f < 7) : (l.flatMap heldC)[j * 7 + f]? = (heldC l[j])[f]? := flat_at heldC 7 (fun _ => rfl) l j hj f hf
theorem Dev.heldC {w : World} {b k ge j : Nat} {D : DevS} {nd : DNodeE} {x : HeldE} (h : Dev w b D) (hnd : D.nodes[k]? = some nd) (he : nd.en.ownBlock = some ge) (hx : nd.p.ents[j]? = some x) (f : Nat) (hf : f < 7) (u : Value) (hu : (Go.Proofs.YtpfcacedpkaihaaGreat.heldC x)[f]? = some u) : w.cell? ⟨ge, j * 7 + f, none⟩ = some u := by
 obtain ⟨hj, hx'⟩ := List.getElem?_eq_some_iff.mp hx
 exact (h.ents nd (List.mem_of_getElem? hnd)).cell he _ u (by rw [held_at nd.p.ents j hj f hf, hx']; exact hu)
theorem Dev.heldF {w : World} {b k ge : Nat} {D : DevS} {nd : DNodeE} (h : Dev w b D) (hnd : D.nodes[k]? = some nd) (he : nd.en.ownBlock = some ge) (f : Nat) : w.frozen? ⟨ge, f, none⟩ = false := (h.ents nd (List.mem_of_getElem? hnd)).free he f
theorem Dev.nodeF {w : World} {b g : Nat} {D : DevS} (h : Dev w b D) (ho : D.vn.ownBlock = some g) (f : Nat) : w.frozen? ⟨g, f, none⟩ = false := h.nodes.free ho f
theorem ret_intb {k : IntKind} {a c : Int} {b d : Bool} (h : a = c) (g : b = d) : Ending.returned (.tuple #[.int k a, .bool b]) = .returned (.tuple #[.int k c, .bool d]) := by rw [h, g]
theorem keyOf_yes (c : UInt8) (w : World) (h : Q.isLet c = true) :
  Calls Tryz.prog 165 #[.int .u8 c.toNat] w fun e w' => e = .returned (.tuple #[.int .i64 ((c.toNat - 97 : Nat) : Int), .bool true]) ∧ w = w' := by
 have h1 : 97 ≤ (c.toNat : Int) := by simp [Q.isLet] at h; omega
 have h2 : (c.toNat : Int) ≤ 104 := by simp [Q.isLet] at h; omega
 clear h
 go_enter Tryz.func165, Tryz.ntmps165
 go_wp2
 go_ret2
 exact ⟨ret_intb (by omega) rfl, rfl⟩
theorem keyOf_no (c : UInt8) (w : World) (h : Q.isLet c = false) :
  Calls Tryz.prog 165 #[.int .u8 c.toNat] w fun e w' => e = .returned (.tuple #[.int .i64 0, .bool false]) ∧ w = w' := by
 have h1 : (c.toNat : Int) < 97 ∨ (97 ≤ (c.toNat : Int) ∧ 105 ≤ (c.toNat : Int)) := by simp [Q.isLet] at h; omega
 clear h
 rcases h1 with h1 | ⟨h0, h1⟩
 all_goals
  go_enter Tryz.func165, Tryz.ntmps165
  go_wp2
  go_ret2
  exact ⟨rfl, rfl⟩
theorem drop_cons (s : ByteArray) (i : Nat) (h : i < s.size) : s.data.toList.drop i = s[i] :: s.data.toList.drop (i + 1) := by
 rw [List.drop_eq_getElem_cons (by simpa using h)]; rfl
theorem sg_plus (c : UInt8) (r : List UInt8) (h : ((c.toNat : Int) == 43) = true) : Q.sgn (c :: r) = (0, 1) := by
 have : c.toNat = 43 := by simp at h; omega
 simp [Q.sgn, this]
theorem sg_minus (c : UInt8) (r : List UInt8) (h : ((c.toNat : Int) == 45) = true) : Q.sgn (c :: r) = (1, 1) := by
 have : c.toNat = 45 := by simp at h; omega
 simp [Q.sgn, this]
theorem sg_alone (c : UInt8) (h : ((c.toNat : Int) == 43) = false) (h' : ((c.toNat : Int) == 45) = false) : Q.sgn [c] = (0, 0) := by
 have a : ¬ c.toNat = 43 := by simp at h; omega
 have b : ¬ c.toNat = 45 := by simp at h'; omega
 simp [Q.sgn, a, b]
theorem sg_times (c d : UInt8) (r : List UInt8) (h : (c.toNat : Int) = 195) (h' : ((d.toNat : Int) == 151) = true) : Q.sgn (c :: d :: r) = (2, 2) := by
 have a : c.toNat = 195 := by omega
 have b : d.toNat = 151 := by simp at h'; omega
 simp [Q.sgn, a, b]
theorem sg_over (c d : UInt8) (r : List UInt8) (h : (c.toNat : Int) = 195) (h' : ((d.toNat : Int) == 183) = true) : Q.sgn (c :: d :: r) = (3, 2) := by
 have a : c.toNat = 195 := by omega
 have b : d.toNat = 183 := by simp at h'; omega
 simp [Q.sgn, a, b]
theorem sg_none (c d : UInt8) (r : List UInt8) (h : (c.toNat : Int) = 195) (h' : ((d.toNat : Int) == 151) = false) (h2 : ((d.toNat : Int) == 183) = false) : Q.sgn (c :: d :: r) = (0, 0) := by
 have a : c.toNat = 195 := by omega
 have b : ¬ d.toNat = 151 := by simp at h'; omega
 have b' : ¬ d.toNat = 183 := by simp at h2; omega
 simp [Q.sgn, a, b, b']
theorem sg_other (c : UInt8) (r : List UInt8) (h : ((c.toNat : Int) == 43) = false) (h' : ((c.toNat : Int) == 45) = false) (h2 : ¬ (c.toNat : Int) = 195) : Q.sgn (c :: r) = (0, 0) := by
 have a : ¬ c.toNat = 43 := by simp at h; omega
 have b : ¬ c.toNat = 45 := by simp at h'; omega
 have b' : ¬ c.toNat = 195 := by omega
 simp [Q.sgn, a, b, b']
theorem ret_sgn {p : Nat × Nat} {a b : Int} {m n : Nat} (h : p = (m, n)) (ha : a = m) (hb : b = n) : Ending.returned (.tuple #[.int .i64 a, .int .i64 b]) = .returned (.tuple #[.int .i64 (p.1 : Int), .int .i64 (p.2 : Int)]) := by rw [h, ha, hb]
theorem signAt_any (s : ByteArray) (i : Nat) (w : World) (hs : s.size ≤ maxLen) (hi : i < s.size) :
  Calls Tryz.prog 166 #[.string s, .int .i64 i] w fun e w' =>
   e = .returned (.tuple #[.int .i64 ((Q.sgn (s.data.toList.drop i)).1 : Int), .int .i64 ((Q.sgn (s.data.toList.drop i)).2 : Int)]) ∧ w = w' := by
 unfold maxLen at hs
 have D : Hid (s.data.toList.drop i = s[i] :: s.data.toList.drop (i + 1)) := drop_cons s i hi
 have D1 : Hid (∀ h : i + 1 < s.size, s.data.toList.drop (i + 1) = s[i + 1] :: s.data.toList.drop (i + 1 + 1)) := fun h => drop_cons s (i + 1) h
 have D2 : Hid (¬ i + 1 < s.size → s.data.toList.drop (i + 1) = []) := fun h => List.drop_eq_nil_of_le (by simp; omega)
 go_enter Tryz.func166, Tryz.ntmps166
 go_wp2
 all_goals go_ret2
 · exact ⟨ret_sgn (by rw [D.out]; exact sg_plus _ _ ‹_›) rfl rfl, rfl⟩
 · exact ⟨ret_sgn (by rw [D.out]; exact sg_minus _ _ ‹_›) rfl rfl, rfl⟩
 · exact ⟨ret_sgn (by rw [D.out, D2.out (by omega)]; exact sg_alone _ ‹_› ‹_›) rfl rfl, rfl⟩
 · exact ⟨ret_sgn (by rw [D.out, D1.out (by omega)]; exact sg_times _ _ _ ‹_› ‹_›) rfl rfl, rfl⟩
 · exact ⟨ret_sgn (by rw [D.out, D1.out (by omega)]; exact sg_over _ _ _ ‹_› ‹_›) rfl rfl, rfl⟩
 · exact ⟨ret_sgn (by rw [D.out, D1.out (by omega)]; exact sg_none _ _ _ ‹_› ‹_› ‹_›) rfl rfl, rfl⟩
 · exact ⟨ret_sgn (by rw [D.out]; exact sg_other _ _ ‹_› ‹_› ‹_›) rfl rfl, rfl⟩
end Go.Proofs.YtpfcacedpkaihaaGreat
