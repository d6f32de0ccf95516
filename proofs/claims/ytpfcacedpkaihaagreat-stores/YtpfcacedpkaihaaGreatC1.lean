import Derived.Deep.QuietTactic
import Derived.BigQuiet
import Derived.BigGuardPart
import Derived.Lib.Strings
import Derived.Test.YtpfcacedpkaihaaGreatC0
namespace Go.Proofs.YtpfcacedpkaihaaGreat
open Go.RowKit
set_option maxRecDepth 100000
set_option maxHeartbeats 16000000
theorem flat_at {α β : Type} (C : α → List β) (s : Nat) (hs : ∀ x, (C x).length = s) (l : List α) (j : Nat) (hj : j < l.length) (f : Nat) (hf : f < s) : (l.flatMap C)[j * s + f]? = (C l[j])[f]? := by
 induction l generalizing j with
 | nil => simp at hj
 | cons x r ih =>
  match j with
  | 0 => simp only [List.flatMap_cons, Nat.zero_mul, Nat.zero_add, List.getElem_cons_zero]; rw [List.getElem?_append_left (by rw [hs]; exact hf)]
  | j + 1 =>
   have e : (j + 1) * s + f = s + (j * s + f) := by rw [Nat.add_mul]; omega
   simp only [List.flatMap_cons, List.getElem_cons_succ]
   rw [e, List.getElem?_append_right (by rw [hs]; omega), hs, Nat.add_sub_cancel_left]
   exact ih j (by simpa using hj)
theorem flat_set {α β : Type} (C : α → List β) (s : Nat) (hs : ∀ x, (C x).length = s) (l : List α) (j : Nat) (hj : j < l.length) (f : Nat) (hf : f < s) (v : β) (y : α) (hy : C y = (C l[j]).set f v) :
  (l.flatMap C).set (j * s + f) v = (l.set j y).flatMap C := by
 induction l generalizing j with
 | nil => simp at hj
 | cons x r ih =>
  match j with
  | 0 =>
   simp only [List.getElem_cons_zero] at hy
   simp only [List.flatMap_cons, Nat.zero_mul, Nat.zero_add, List.set_cons_zero, hy]
   rw [List.set_append_left _ _ (by rw [hs]; exact hf)]
  | j + 1 =>
   have e : (j + 1) * s + f = s + (j * s + f) := by rw [Nat.add_mul]; omega
   simp only [List.flatMap_cons, List.set_cons_succ]
   rw [e, List.set_append_right _ _ (by rw [hs]; omega), hs, Nat.add_sub_cancel_left]
   rw [ih j (by simpa using hj) (by simpa using hy)]
theorem flat_length {α β : Type} (C : α → List β) (s : Nat) (hs : ∀ x, (C x).length = s) (l : List α) : (l.flatMap C).length = l.length * s := by
 induction l with
 | nil => simp
 | cons x r ih => simp only [List.flatMap_cons, List.length_append, hs, ih, List.length_cons, Nat.add_mul]; omega
structure PastE where
 st : Nat → Int
 keys : Int
 tick : Int
def pastC (p : PastE) : List Value := [.int .i32 (p.st 0), .int .i32 (p.st 1), .int .i32 (p.st 2), .int .i32 (p.st 3), .int .i32 (p.st 4), .int .i32 (p.st 5), .int .i32 (p.st 6), .int .i32 (p.st 7), .int .u8 p.keys, .int .i64 p.tick]
structure EntE where
 q : ByteArray
 val : Int
 fr : Nat
 till : Nat
 op : Bool
 kn : Nat
def entC (e : EntE) : List Value := [.string e.q, .int .i32 e.val, .int .u64 (e.fr : Int), .int .u64 (e.till : Int), .bool e.op, .int .u64 (e.kn : Int)]
def u64s (l : List Nat) : List Value := l.map fun t : Nat => Value.int .u64 (t : Int)
def i64s (l : List Int) : List Value := l.map fun t : Int => Value.int .i64 t
structure RowD where
 T : TypeId
 size : Nat
 v : Value
 n : Nat
 xs : List Value
def RowD.Is (w : World) (r : RowD) : Prop := Row w r.T r.size r.v r.n r.xs
structure Rows' (w : World) (l : List RowD) : Prop where
 row : ∀ r ∈ l, r.Is w
 sep : ∀ (i j : Nat) (a c : RowD), l[i]? = some a → l[j]? = some c → i ≠ j → ∀ k, a.v.ownBlock = some k → c.v.ownBlock ≠ some k
theorem Rows'.same {w w' : World} {l : List RowD} (h : Rows' w l) (hs : ∀ k, (∃ r ∈ l, r.v.ownBlock = some k) → w'.heap[k]? = w.heap[k]?) : Rows' w' l :=
 ⟨fun r hr => (h.row r hr).same fun k hk => hs k ⟨r, hr, hk⟩, h.sep⟩
theorem Rows'.kept {w w' : World} {F : Nat → Prop} {l : List RowD} (h : Rows' w l) (k : Kept F w w') (hF : ∀ j, (∃ r ∈ l, r.v.ownBlock = some j) → ¬ F j) : Rows' w' l :=
 h.same fun j hj => by obtain ⟨r, hr, hj'⟩ := hj; exact k.block j ((h.row r hr).lt j hj') (hF j ⟨r, hr, hj'⟩)
theorem Rows'.put {w w' : World} {l : List RowD} (h : Rows' w l) (i : Nat) (r r' : RowD) (hi : l[i]? = some r) (k : Kept (fun j => r.v.ownBlock = some j) w w') (hr : r'.Is w')
  (hown : ∀ x, r'.v.ownBlock = some x → r.v.ownBlock = some x ∨ w.heap.size ≤ x) : Rows' w' (l.set i r') := by
 have hlt := (List.getElem?_eq_some_iff.mp hi).1
 have far : ∀ (j : Nat) (a : RowD), l[j]? = some a → j ≠ i → ∀ x, r'.v.ownBlock = some x → a.v.ownBlock ≠ some x := by
  intro j a ha hj x hx he
  rcases hown x hx with h1 | h1
  · exact h.sep j i a r ha hi hj x he h1
  · have := (h.row a (List.mem_of_getElem? ha)).lt x he; omega
 refine ⟨fun a ha => ?_, fun p q a c hp hq hpq x hx => ?_⟩
 · obtain ⟨j, hj⟩ := List.getElem?_of_mem ha
  rw [List.getElem?_set] at hj
  by_cases e : i = j
  · rw [if_pos e, if_pos hlt] at hj; injection hj with hj; subst hj; exact hr
  · rw [if_neg e] at hj
   exact (h.row a (List.mem_of_getElem? hj)).kept k fun x hx he => h.sep j i a r hj hi (fun z => e z.symm) x hx he
 · rw [List.getElem?_set] at hp hq
  by_cases ep : i = p
  · rw [if_pos ep, if_pos hlt] at hp
   injection hp with hp; subst hp
   rw [if_neg (by omega)] at hq
   exact far q c hq (by omega) x hx
  · rw [if_neg ep] at hp
   by_cases eq : i = q
   · rw [if_pos eq, if_pos hlt] at hq
    injection hq with hq; subst hq
    intro he
    exact far p a hp (by omega) x he hx
   · rw [if_neg eq] at hq
    exact h.sep p q a c hp hq hpq x hx
theorem past_at (l : List PastE) (j : Nat) (hj : j < l.length) (f : Nat) (hf : f < 10) : (l.flatMap pastC)[j * 10 + f]? = (pastC l[j])[f]? := flat_at pastC 10 (fun _ => rfl) l j hj f hf
theorem rt_int {k : IntKind} {a b : Int} (h : a = b) : Ending.returned (.int k a) = .returned (.int k b) := by rw [h]
theorem rt_bool {a b : Bool} (h : a = b) : Ending.returned (.bool a) = .returned (.bool b) := by rw [h]
theorem Kept.drewN {F : Nat → Prop} {w w' : World} (h : Kept F w w') (n : Nat) : Kept F w (w'.drewN n) := ⟨h.os, h.tape, h.output, h.size, h.block⟩
structure Wr (w : World) (ao : Option Addr) (n : Nat) (ws : List (Int × Int)) : Prop where
 len : ws.length = n
 cell : ∀ j (h : j < ws.length), ∃ bl off, ao = some ⟨bl, off, none⟩ ∧ w.cell? ⟨bl, off + j * 2, none⟩ = some (.int .i64 ws[j].1) ∧ w.cell? ⟨bl, off + j * 2 + 1, none⟩ = some (.int .i32 ws[j].2)
theorem Wr.kept {w w' : World} {F : Nat → Prop} {ao : Option Addr} {n : Nat} {ws : List (Int × Int)} (h : Wr w ao n ws) (k : Kept F w w') (hF : ∀ a, ao = some a → ¬ F a.block) : Wr w' ao n ws := by
 refine ⟨h.len, fun j hj => ?_⟩
 obtain ⟨bl, off, e, c1, c2⟩ := h.cell j hj
 have hlt : bl < w.heap.size := World.block_lt_of_cell? w _ c1
 have hb := k.block bl hlt (hF _ e)
 exact ⟨bl, off, e, (World.cell?_of_block (a := ⟨bl, off + j * 2, none⟩) hb).trans c1, (World.cell?_of_block (a := ⟨bl, off + j * 2 + 1, none⟩) hb).trans c2⟩
def keyOk (x : Int × Int) : Bool := decide (0 ≤ x.1) && decide (x.1 < 8)
def bit1 (k : Nat) : Int := (2 : Int) ^ k % 256
def writeP (p : PastE) (x : Int × Int) : PastE := { p with st := fun i => if i = x.1.toNat then x.2 else p.st i, keys := bits .or .u8 p.keys (bit1 x.1.toNat) }
def writesP (p : PastE) (ws : List (Int × Int)) : PastE := ws.foldl writeP p
theorem writesP_snoc (p : PastE) (ws : List (Int × Int)) (j : Nat) (h : j < ws.length) : writesP p (ws.take (j + 1)) = writeP (writesP p (ws.take j)) ws[j] := by
 rw [writesP, List.take_succ_eq_append_getElem h, List.foldl_append]; rfl
def touchB (past : List PastE) (K : Int) (f : Nat) : Bool := match past[f]? with
 | some p => bits .and .u8 p.keys K != 0
 | none => false
def fromN (past : List PastE) (K : Int) : Nat → Nat
 | 0 => 0
 | f + 1 => if touchB past K (f + 1) then f + 1 else fromN past K f
def tillN (past : List PastE) (K : Int) : Nat → Option Nat
 | 0 => none
 | n + 1 => if touchB past K (past.length - 1 - n) then some (past.length - 1 - n) else tillN past K n
theorem fromN_le (past : List PastE) (K : Int) (t : Nat) : fromN past K t ≤ t := by
 induction t with
 | zero => simp [fromN]
 | succ f ih => simp only [fromN]; split <;> omega
def rightE (past : List PastE) (q : ByteArray) (K val : Int) (t : Nat) : EntE :=
 { q := q, val := val, fr := fromN past K t, till := (tillN past K (past.length - 1 - t)).getD 0, op := (tillN past K (past.length - 1 - t)).isNone, kn := past.length - 1 }
def entA (e : EntE) : Array Value := #[.string e.q, .int .i32 e.val, .int .u64 (e.fr : Int), .int .u64 (e.till : Int), .bool e.op, .int .u64 (e.kn : Int)]
def zeroA : Array Value := #[.string ⟨#[]⟩, .int .i32 0, .int .u64 0, .int .u64 0, .bool false, .int .u64 0]
theorem touchB_some {past : List PastE} {f : Nat} {p : PastE} (K : Int) (h : past[f]? = some p) : touchB past K f = (bits .and .u8 p.keys K != 0) := by simp [touchB, h]
theorem Kept.hold {w w' : World} (h : Kept (fun _ => False) w w') {a : Addr} {v : Value} (hc : w.cell? a = some v) : w'.cell? a = some v :=
 (World.cell?_of_block (h.block a.block (World.block_lt_of_cell? w _ hc) id)).trans hc
def lastE (e : EntE) (hz : Nat) : Nat := if e.op then max e.kn hz else e.till - 1
def meetsE (hz : Nat) (q : ByteArray) (lo hi : Nat) (e : EntE) : Prop := e.q = q ∧ max lo e.fr ≤ min hi (lastE e hz)
def ansN (up : Bool) (hz : Nat) (q : ByteArray) (lo hi : Nat) (l : List EntE) : Nat → Int
 | 0 => -1
 | n + 1 => match l[n]? with
  | some x => if up = true ∧ meetsE hz q lo hi x ∧ (ansN up hz q lo hi l n < 0 ∨ ∃ y, l[(ansN up hz q lo hi l n).toNat]? = some y ∧ y.fr < x.fr) then (n : Int) else ansN up hz q lo hi l n
  | none => ansN up hz q lo hi l n
theorem ansN_lt (up : Bool) (hz : Nat) (q : ByteArray) (lo hi : Nat) (l : List EntE) (n : Nat) : -1 ≤ ansN up hz q lo hi l n ∧ ansN up hz q lo hi l n < (n : Int) := by
 induction n with
 | zero => simp [ansN]
 | succ n ih =>
  simp only [ansN]
  split
  · split <;> omega
  · omega
theorem hold_al {w : World} {o : Obj} {a : Addr} {v : Value} (h : w.cell? a = some v) : (w.alloc o).cell? a = some v := (Kept.alloc w o (fun _ => False)).hold h
theorem hold_set {w : World} {g f b o : Nat} {v v' : Value} (hb : b < g) (h : w.cell? ⟨b, o, none⟩ = some v) : (w.setCell ⟨g, f, none⟩ v').cell? ⟨b, o, none⟩ = some v :=
 (World.cell?_of_block (a := ⟨b, o, none⟩) ((Kept.setCell w ⟨g, f, none⟩ v').block b (World.block_lt_of_cell? w _ h) (by simp only; omega))).trans h
theorem hold_set2 {w : World} {g b o : Nat} {v u u' : Value} (hb : b < g) (h : w.cell? ⟨b, o, none⟩ = some v) : ((w.setCell ⟨g, 0, none⟩ u).setCell ⟨g, 1, none⟩ u').cell? ⟨b, o, none⟩ = some v := hold_set hb (hold_set hb h)
theorem size_al {w w' : World} {o : Obj} (h : (w.alloc o).heap.size ≤ w'.heap.size) : w.heap.size < w'.heap.size := by simp at h; omega
theorem kchain {W W1 wa Wa wb Wb : World} (h0 : Kept (fun _ => False) W W1) (ha : Kept (fun _ => False) W1 wa) (h1 : Kept (fun _ => False) wa Wa) (hb : Kept (fun _ => False) Wa wb) (h2 : Kept (fun k => W.heap.size ≤ k) wb Wb) : Kept (fun _ => False) W Wb := by
 have hk := ((h0.trans ha (H := fun _ => False) (fun _ => id) (fun _ _ => id)).trans h1 (H := fun _ => False) (fun _ => id) (fun _ _ => id)).trans hb (H := fun _ => False) (fun _ => id) (fun _ _ => id)
 exact hk.trans h2 (fun _ => id) (fun k hk hf => by omega)
theorem kset2 {W w : World} {g : Nat} {u u' : Value} (h : W.heap.size ≤ g) : Kept (fun k => W.heap.size ≤ k) w ((w.setCell ⟨g, 0, none⟩ u).setCell ⟨g, 1, none⟩ u') :=
 ((Kept.setCell w ⟨g, 0, none⟩ u).trans (Kept.setCell _ ⟨g, 1, none⟩ u') (H := fun k => k = g) (fun _ => id) (fun _ _ => id)).mono fun k hk => by omega
theorem bytes_inj {a b : ByteArray} (h : a.toList = b.toList) : a = b := by
 rw [Lib.toList_data, Lib.toList_data] at h
 cases a; cases b
 exact congrArg ByteArray.mk (Array.ext' h)
def EntE.Fit (e : EntE) : Prop := (e.op = false → 1 ≤ e.till) ∧ e.till ≤ 701 ∧ e.kn ≤ 700
theorem kept3 (w : World) (a b c : Obj) : Kept (fun _ => False) w (((w.alloc a).alloc b).alloc c) :=
 ((Kept.alloc w a (fun _ => False)).trans (Kept.alloc _ b (fun _ => False)) (fun _ => id) (fun _ _ => id)).trans (Kept.alloc _ c (fun _ => False)) (fun _ => id) (fun _ _ => id)
def mergedE (x p : EntE) : EntE :=
 { x with op := x.op && p.op, till := if x.op && !p.op then p.till else x.till, kn := max x.kn p.kn }
def sameE (x p : EntE) : Prop := x.q = p.q ∧ x.fr = p.fr
theorem set_self' {α : Type} {l : List α} {j : Nat} {x : α} (h : l[j]? = some x) : l.set j x = l := by
 refine List.ext_getElem? fun i => ?_
 rw [List.getElem?_set]
 split
 · rename_i e
  subst e
  rw [if_pos (List.getElem?_eq_some_iff.mp h).1, h]
 · rfl
theorem Appended.of_alloc {w w' : World} {o : Obj} {e : TypeId} {size : Nat} {v v' : Value} {n m : Nat} {xs news : List Value} (h : Appended (w.alloc o) w' e size v v' n m xs news) : Appended w w' e size v v' n m xs news := by
 refine ⟨h.row, (Kept.alloc w o (fun _ => False)).trans h.kept (fun _ => False.elim) (fun _ _ => id), h.own.imp id fun hh k hk => ?_⟩
 have := hh k hk
 simp at this
 omega
def zeroP : PastE := ⟨fun _ => 0, 0, 0⟩
def nilV : Value := .slice none 0 0
theorem rows_nil {w : World} {l : List RowD} (h : ∀ r ∈ l, r.v = .slice none 0 0 ∧ r.n = 0 ∧ r.xs = []) : Rows' w l := by
 refine ⟨fun r hr => ?_, fun i j a c hi _ _ k hk => ?_⟩
 · obtain ⟨h1, h2, h3⟩ := h r hr
  show Row w r.T r.size r.v r.n r.xs
  rw [h1, h2, h3]; exact Row.nil _ _ _
 · rw [(h a (List.mem_of_getElem? hi)).1] at hk; simp [Value.ownBlock] at hk
theorem Rows'.more {w : World} {l l2 : List RowD} (h : Rows' w l) (h2 : ∀ r ∈ l2, r.v = .slice none 0 0 ∧ r.n = 0 ∧ r.xs = []) : Rows' w (l ++ l2) := by
 have hn := rows_nil (w := w) h2
 refine ⟨fun r hr => ?_, fun i j a c hi hj hij k hk => ?_⟩
 · rcases List.mem_append.mp hr with hr | hr
  · exact h.row r hr
  · exact hn.row r hr
 · by_cases ei : i < l.length
  · rw [List.getElem?_append_left ei] at hi
   by_cases ej : j < l.length
   · rw [List.getElem?_append_left ej] at hj
    exact h.sep i j a c hi hj hij k hk
   · rw [List.getElem?_append_right (by omega)] at hj
    rw [(h2 c (List.mem_of_getElem? hj)).1]; simp [Value.ownBlock]
  · rw [List.getElem?_append_right (by omega)] at hi
   rw [(h2 a (List.mem_of_getElem? hi)).1] at hk; simp [Value.ownBlock] at hk
theorem Kept.keep {F : Nat → Prop} {w w' : World} (h : Kept F w w') {a : Addr} {v : Value} (hb : ¬ F a.block) (hc : w.cell? a = some v) : w'.cell? a = some v :=
 (World.cell?_of_block (h.block a.block (World.block_lt_of_cell? w _ hc) hb)).trans hc
theorem Kept.setNew {w wr : World} (h : Kept (fun _ => False) w wr) (b o : Nat) (v : Value) (hb : w.heap.size ≤ b) : Kept (fun _ => False) w (wr.setCell ⟨b, o, none⟩ v) :=
 h.trans (Kept.setCell wr ⟨b, o, none⟩ v) (fun _ => id) (fun i hi he => by simp at he; omega)
theorem Kept.allocNew {F : Nat → Prop} {w wr : World} (h : Kept F w wr) (o : Obj) : Kept F w (wr.alloc o) :=
 h.trans (Kept.alloc wr o (fun _ => False)) (fun _ => id) (fun _ _ => False.elim)
theorem Tryz.infoEntry : (Tryz.prog.info? 55).map (fun i => (i.zero, i.size, i.bytes)) = some (some (.agg #[.string ByteArray.empty, .int .i32 0, .int .u64 0, .int .u64 0, .bool false, .int .u64 0]), 6, 56) := by kernel_rfl
theorem oneCell_ent (l : List EntE) : ∀ u ∈ l.flatMap entC, u.oneCell' = true := by
 intro u hu
 simp [entC] at hu
 obtain ⟨a, _, rfl | rfl | rfl | rfl | rfl | rfl⟩ := hu <;> rfl
theorem ent_at (l : List EntE) (j : Nat) (hj : j < l.length) (f : Nat) (hf : f < 6) : (l.flatMap entC)[j * 6 + f]? = (entC l[j])[f]? := flat_at entC 6 (fun _ => rfl) l j hj f hf
def EntAt (w : World) (g o : Nat) (e : EntE) : Prop :=
 w.cell? ⟨g, o, none⟩ = some (.string e.q) ∧ w.cell? ⟨g, o + 1, none⟩ = some (.int .i32 e.val) ∧ w.cell? ⟨g, o + 2, none⟩ = some (.int .u64 (e.fr : Int)) ∧ w.cell? ⟨g, o + 3, none⟩ = some (.int .u64 (e.till : Int)) ∧ w.cell? ⟨g, o + 4, none⟩ = some (.bool e.op) ∧ w.cell? ⟨g, o + 5, none⟩ = some (.int .u64 (e.kn : Int))
theorem Row.entAt {w : World} {v : Value} {l : List EntE} (h : Row w 55 6 v l.length (l.flatMap entC)) (j : Nat) (hj : j < l.length) : ∃ g cap, v = .slice (some ⟨g, 0, none⟩) l.length cap ∧ g < w.heap.size ∧ EntAt w g (j * 6) l[j] := by
 obtain ⟨g, cap, hv, ho, hg⟩ := h.block (by omega)
 have hc : ∀ f, f < 6 → ∀ u, (entC l[j])[f]? = some u → w.cell? ⟨g, j * 6 + f, none⟩ = some u := fun f hf u hu => h.cell ho _ u (by rw [ent_at l j hj f hf]; exact hu)
 exact ⟨g, cap, hv, hg, hc 0 (by omega) _ rfl, hc 1 (by omega) _ rfl, hc 2 (by omega) _ rfl, hc 3 (by omega) _ rfl, hc 4 (by omega) _ rfl, hc 5 (by omega) _ rfl⟩
theorem EntAt.same {w w' : World} {g o : Nat} {e : EntE} (h : EntAt w g o e) (hs : w'.heap[g]? = w.heap[g]?) : EntAt w' g o e := by
 obtain ⟨a0, a1, a2, a3, a4, a5⟩ := h
 exact ⟨(World.cell?_of_block (a := ⟨g, o, none⟩) hs).trans a0, (World.cell?_of_block (a := ⟨g, o + 1, none⟩) hs).trans a1, (World.cell?_of_block (a := ⟨g, o + 2, none⟩) hs).trans a2, (World.cell?_of_block (a := ⟨g, o + 3, none⟩) hs).trans a3, (World.cell?_of_block (a := ⟨g, o + 4, none⟩) hs).trans a4, (World.cell?_of_block (a := ⟨g, o + 5, none⟩) hs).trans a5⟩
theorem till_none {l : List PastE} {K : Int} : ∀ n, n ≤ l.length - 1 → (∀ s, l.length - 1 - n < s → s ≤ l.length - 1 → touchB l K s = false) → tillN l K n = none
 | 0, _, _ => rfl
 | n + 1, hn, h => by
  have h1 := h (l.length - 1 - n) (by omega) (by omega)
  simp only [tillN, h1]
  exact till_none n (by omega) fun s hs1 hs2 => h s (by omega) hs2
theorem till_some {l : List PastE} {K : Int} {s : Nat} : ∀ n, n ≤ l.length - 1 → l.length - 1 - n < s → s ≤ l.length - 1 → touchB l K s = true → (∀ r, l.length - 1 - n < r → r < s → touchB l K r = false) → tillN l K n = some s
 | 0, _, h1, h2, _, _ => by omega
 | n + 1, hn, h1, h2, ht, h => by
  by_cases e : s = l.length - 1 - n
  · subst e; simp only [tillN, ht, if_true]
  · have h3 := h (l.length - 1 - n) (by omega) (by omega)
   simp only [tillN, h3]
   exact till_some n (by omega) (by omega) h2 ht fun r hr1 hr2 => h r (by omega) hr2
theorem fromN_step {l : List PastE} {K : Int} {k t : Nat} (hk : k + 1 ≤ t) : fromN l K (min (k + 1) t) = if touchB l K (k + 1) then k + 1 else fromN l K (min k t) := by
 have e1 : min (k + 1) t = k + 1 := by omega
 have e2 : min k t = k := by omega
 rw [e1, e2]; rfl
theorem fromN_past {l : List PastE} {K : Int} {k t : Nat} (hk : t < k + 1) : fromN l K (min (k + 1) t) = fromN l K (min k t) := by
 have e1 : min (k + 1) t = t := by omega
 have e2 : min k t = t := by omega
 rw [e1, e2]
def sumB (l : List UInt8) : Nat := l.foldl (fun s c => s + c.toNat) 0
theorem sumB_snoc (l : List UInt8) (j : Nat) (h : j < l.length) : sumB (l.take (j + 1)) = sumB (l.take j) + l[j].toNat := by
 rw [sumB, List.take_succ_eq_append_getElem h, List.foldl_append]; rfl
theorem sumB_le (l : List UInt8) (j : Nat) (hj : j ≤ l.length) : sumB (l.take j) ≤ 255 * j := by
 induction j with
 | zero => simp [sumB]
 | succ k ih =>
  have h1 := ih (by omega)
  rw [sumB_snoc l k (by omega)]
  have h2 : (l[k]'(by omega)).toNat < 256 := UInt8.toNat_lt _
  omega
structure RdrE where
 lo : Nat
 hi : Nat
 ended : Bool
def rdrC (r : RdrE) : List Value := [.int .u64 (r.lo : Int), .int .u64 (r.hi : Int), .bool r.ended]
def openN (l : List RdrE) : Nat := (l.filter fun x => !x.ended).length
structure NodeE where
 up : Bool
 since : Nat
 horizon : Nat
 fl : Value
 wt : Value
 en : Value
 nm : Value
 fls : List Nat
 wts : List Nat
 ents : List EntE
 nms : List Int
def nodeC (n : NodeE) : List Value := [.bool n.up, .int .u64 (n.since : Int), .int .u64 (n.horizon : Int), n.fl, n.wt, n.en, n.nm]
structure RefS where
 past : List PastE
 clock : Int
 rdrs : List RdrE
 nodes : List NodeE
 room : Int
 next : Int
 puts : List EntE
 uses : List Int
 vp : Value
 vr : Value
 vn : Value
 vu : Value
 vs : Value
def nodeR (nd : NodeE) : List RowD := [⟨53, 1, nd.fl, nd.fls.length, u64s nd.fls⟩, ⟨53, 1, nd.wt, nd.wts.length, u64s nd.wts⟩, ⟨55, 6, nd.en, nd.ents.length, nd.ents.flatMap entC⟩, ⟨3, 1, nd.nm, nd.nms.length, i64s nd.nms⟩]
def RefS.rows (R : RefS) : List RowD :=
 ⟨143, 10, R.vp, R.past.length, R.past.flatMap pastC⟩ :: ⟨162, 3, R.vr, R.rdrs.length, R.rdrs.flatMap rdrC⟩ :: ⟨146, 7, R.vn, R.nodes.length, R.nodes.flatMap nodeC⟩ ::
  ⟨55, 6, R.vu, R.puts.length, R.puts.flatMap entC⟩ :: ⟨3, 1, R.vs, R.uses.length, i64s R.uses⟩ :: R.nodes.flatMap nodeR
structure Ref (w : World) (b : Nat) (R : RefS) : Prop where
 blk : Blk w b 84 #[R.vp, .int .i64 R.clock, R.vr, R.vn, .int .i64 R.room, R.vu, R.vs, .int .i64 R.next]
 all : Rows' w R.rows
theorem rows_ne_world {R : RefS} {r : RowD} (h : r ∈ R.rows) : r.T ≠ 84 := by
 simp only [RefS.rows, List.mem_cons, List.mem_flatMap, nodeR, List.not_mem_nil, or_false] at h
 rcases h with rfl | rfl | rfl | rfl | rfl | ⟨nd, _, rfl | rfl | rfl | rfl⟩ <;> (dsimp only; decide)
theorem Ref.past {w : World} {b : Nat} {R : RefS} (h : Ref w b R) : Row w 143 10 R.vp R.past.length (R.past.flatMap pastC) := h.all.row _ (List.mem_of_getElem? (i := 0) rfl)
theorem Ref.rdrs {w : World} {b : Nat} {R : RefS} (h : Ref w b R) : Row w 162 3 R.vr R.rdrs.length (R.rdrs.flatMap rdrC) := h.all.row _ (List.mem_of_getElem? (i := 1) rfl)
theorem Ref.nodes {w : World} {b : Nat} {R : RefS} (h : Ref w b R) : Row w 146 7 R.vn R.nodes.length (R.nodes.flatMap nodeC) := h.all.row _ (List.mem_of_getElem? (i := 2) rfl)
theorem Ref.puts {w : World} {b : Nat} {R : RefS} (h : Ref w b R) : Row w 55 6 R.vu R.puts.length (R.puts.flatMap entC) := h.all.row _ (List.mem_of_getElem? (i := 3) rfl)
theorem Ref.uses {w : World} {b : Nat} {R : RefS} (h : Ref w b R) : Row w 3 1 R.vs R.uses.length (i64s R.uses) := h.all.row _ (List.mem_of_getElem? (i := 4) rfl)
theorem nodeR_mem {R : RefS} {nd : NodeE} {r : RowD} (hn : nd ∈ R.nodes) (hr : r ∈ nodeR nd) : r ∈ R.rows := by
 simp only [RefS.rows, List.mem_cons, List.mem_flatMap]
 exact .inr (.inr (.inr (.inr (.inr ⟨nd, hn, hr⟩))))
theorem Ref.fls {w : World} {b : Nat} {R : RefS} (h : Ref w b R) : ∀ nd ∈ R.nodes, Row w 53 1 nd.fl nd.fls.length (u64s nd.fls) := fun _ hn => h.all.row ⟨_, _, _, _, _⟩ (nodeR_mem hn (List.mem_of_getElem? (i := 0) rfl))
theorem Ref.wts {w : World} {b : Nat} {R : RefS} (h : Ref w b R) : ∀ nd ∈ R.nodes, Row w 53 1 nd.wt nd.wts.length (u64s nd.wts) := fun _ hn => h.all.row ⟨_, _, _, _, _⟩ (nodeR_mem hn (List.mem_of_getElem? (i := 1) rfl))
theorem Ref.ents {w : World} {b : Nat} {R : RefS} (h : Ref w b R) : ∀ nd ∈ R.nodes, Row w 55 6 nd.en nd.ents.length (nd.ents.flatMap entC) := fun _ hn => h.all.row ⟨_, _, _, _, _⟩ (nodeR_mem hn (List.mem_of_getElem? (i := 2) rfl))
theorem Ref.nms {w : World} {b : Nat} {R : RefS} (h : Ref w b R) : ∀ nd ∈ R.nodes, Row w 3 1 nd.nm nd.nms.length (i64s nd.nms) := fun _ hn => h.all.row ⟨_, _, _, _, _⟩ (nodeR_mem hn (List.mem_of_getElem? (i := 3) rfl))
structure RefS.Fit (R : RefS) : Prop where
 pos : 0 < R.past.length
 pmax : R.past.length ≤ 701
 clk0 : 0 ≤ R.clock
 clk1 : R.clock ≤ 100000
 rmax : R.rdrs.length ≤ 200
 npos : 0 < R.nodes.length
 nmax : R.nodes.length ≤ 3
 fmax : ∀ nd ∈ R.nodes, nd.fls.length ≤ 12 ∧ nd.horizon ≤ 700 ∧ ∀ t ∈ nd.fls, t ≤ 700
def RefS.fp (R : RefS) (b : Nat) (k : Nat) : Prop := k = b ∨ ∃ r ∈ R.rows, r.v.ownBlock = some k
theorem fp_vp {R : RefS} {b k : Nat} (h : R.vp.ownBlock = some k) : R.fp b k := .inr ⟨_, List.mem_of_getElem? (i := 0) rfl, h⟩
theorem fp_vr {R : RefS} {b k : Nat} (h : R.vr.ownBlock = some k) : R.fp b k := .inr ⟨_, List.mem_of_getElem? (i := 1) rfl, h⟩
theorem fp_vn {R : RefS} {b k : Nat} (h : R.vn.ownBlock = some k) : R.fp b k := .inr ⟨_, List.mem_of_getElem? (i := 2) rfl, h⟩
theorem Ref.lt {w : World} {b : Nat} {R : RefS} (h : Ref w b R) : ∀ k, R.fp b k → k < w.heap.size := by
 rintro k (rfl | ⟨r, hr, hk⟩)
 · exact h.blk.lt
 · exact (h.all.row r hr).lt k hk
theorem Ref.ne {w : World} {b : Nat} {R : RefS} (h : Ref w b R) : ∀ r ∈ R.rows, r.v.ownBlock ≠ some b := fun r hr => (h.all.row r hr).ne_block h.blk (rows_ne_world hr)
theorem Ref.same {w w' : World} {b : Nat} {R : RefS} (h : Ref w b R) (hs : ∀ k, R.fp b k → w'.heap[k]? = w.heap[k]?) : Ref w' b R :=
 ⟨h.blk.same (hs b (.inl rfl)), h.all.same fun k hk => hs k (.inr hk)⟩
theorem Ref.kept {w w' : World} {F : Nat → Prop} {b : Nat} {R : RefS} (h : Ref w b R) (k : Kept F w w') (hF : ∀ j, R.fp b j → ¬ F j) : Ref w' b R :=
 h.same fun j hj => k.block j (h.lt j hj) (hF j hj)
theorem Ref.put {w w' : World} {b : Nat} {R R' : RefS} (h : Ref w b R) (i f : Nat) (r r' : RowD) (hi : R.rows[i]? = some r) (k : Kept (fun j => r.v.ownBlock = some j) w w') (hr : r'.Is w')
  (hown : ∀ x, r'.v.ownBlock = some x → r.v.ownBlock = some x ∨ w.heap.size ≤ x) (hrows : R'.rows = R.rows.set i r') (hT : r'.T ≠ 84)
  (hblk : (#[R.vp, .int .i64 R.clock, R.vr, R.vn, .int .i64 R.room, R.vu, R.vs, .int .i64 R.next] : Array Value).setIfInBounds f r'.v = #[R'.vp, .int .i64 R'.clock, R'.vr, R'.vn, .int .i64 R'.room, R'.vu, R'.vs, .int .i64 R'.next]) :
  Ref (w'.setCell ⟨b, f, none⟩ r'.v) b R' ∧ Kept (R.fp b) w (w'.setCell ⟨b, f, none⟩ r'.v) ∧ (∀ x, R'.fp b x → R.fp b x ∨ w.heap.size ≤ x) := by
 have hm : r ∈ R.rows := List.mem_of_getElem? hi
 have blk1 := h.blk.kept k fun he => h.ne r hm he
 have all1 := h.all.put i r r' hi k hr hown
 have k2 := Kept.setCell w' ⟨b, f, none⟩ r'.v
 refine ⟨⟨?_, ?_⟩, k.trans k2 (fun x hx => .inr ⟨r, hm, hx⟩) (fun x _ hx => .inl hx), ?_⟩
 · rw [← hblk]; exact blk1.set f _
 · rw [hrows]
  refine all1.kept k2 ?_
  rintro j ⟨a, ha, hj⟩ he
  subst he
  rcases List.mem_or_eq_of_mem_set ha with ha' | rfl
  · exact (all1.row a ha).ne_block blk1 (rows_ne_world ha') hj
  · exact Row.ne_block hr blk1 hT hj
 · rintro x (rfl | ⟨a, ha, hx⟩)
  · exact .inl (.inl rfl)
  · rw [hrows] at ha
   rcases List.mem_or_eq_of_mem_set ha with ha | rfl
   · exact .inl (.inr ⟨a, ha, hx⟩)
   · exact (hown x hx).imp (fun hh => .inr ⟨r, hm, hh⟩) id
theorem Ref.turn {w w' : World} {b : Nat} {R R' : RefS} (h : Ref w b R) (i : Nat) (r r' : RowD) (hi : R.rows[i]? = some r) (k : Kept (fun j => r.v.ownBlock = some j) w w') (hr : r'.Is w') (hv : r'.v = r.v) (hrows : R'.rows = R.rows.set i r')
  (hblk : #[R.vp, .int .i64 R.clock, R.vr, R.vn, .int .i64 R.room, R.vu, R.vs, .int .i64 R.next] = #[R'.vp, .int .i64 R'.clock, R'.vr, R'.vn, .int .i64 R'.room, R'.vu, R'.vs, .int .i64 R'.next]) : Ref w' b R' :=
 ⟨by rw [← hblk]; exact h.blk.kept k fun he => h.ne r (List.mem_of_getElem? hi) he, by rw [hrows]; exact h.all.put i r r' hi k hr fun x hx => .inl (by rw [← hv]; exact hx)⟩
def RefS.putN (R : RefS) (k : Nat) (nd : NodeE) : RefS := { R with nodes := R.nodes.set k nd }
def RefS.nodeD (R : RefS) : RowD := ⟨146, 7, R.vn, R.nodes.length, R.nodes.flatMap nodeC⟩
theorem rows_at {R : RefS} {k : Nat} {nd : NodeE} (hnd : R.nodes[k]? = some nd) (f : Nat) (hf : f < 4) : R.rows[(k * 4 + f) + 5]? = (nodeR nd)[f]? := by
 obtain ⟨hk, hnd'⟩ := List.getElem?_eq_some_iff.mp hnd
 show (R.nodes.flatMap nodeR)[k * 4 + f]? = _
 rw [flat_at nodeR 4 (fun _ => rfl) R.nodes k hk f hf, hnd']
theorem rows_set {R : RefS} {k : Nat} {nd y : NodeE} (hnd : R.nodes[k]? = some nd) (f : Nat) (hf : f < 4) (r : RowD) (hy : nodeR y = (nodeR nd).set f r) :
  (R.putN k y).rows = (R.rows.set ((k * 4 + f) + 5) r).set 2 (R.putN k y).nodeD := by
 obtain ⟨hk, hnd'⟩ := List.getElem?_eq_some_iff.mp hnd
 have e := flat_set nodeR 4 (fun _ => rfl) R.nodes k hk f hf r y (by rw [hnd']; exact hy)
 show _ :: _ :: _ :: _ :: _ :: (R.nodes.set k y).flatMap nodeR = _ :: _ :: _ :: _ :: _ :: (R.nodes.flatMap nodeR).set (k * 4 + f) r
 rw [e]; rfl
theorem Ref.putF {w w1 w' : World} {b k f : Nat} {R : RefS} {nd y : NodeE} {r r' : RowD} (h : Ref w b R) (hnd : R.nodes[k]? = some nd) (hf : f < 4) (hr : (nodeR nd)[f]? = some r) (hy : nodeR y = (nodeR nd).set f r')
  (k1 : Kept (fun j => r.v.ownBlock = some j) w w1) (hr' : r'.Is w1) (hown : ∀ x, r'.v.ownBlock = some x → r.v.ownBlock = some x ∨ w.heap.size ≤ x)
  (k2 : Kept (fun j => R.vn.ownBlock = some j) w1 w') (hn : Row w' 146 7 R.vn (R.nodes.set k y).length ((R.nodes.set k y).flatMap nodeC)) :
  Ref w' b (R.putN k y) ∧ Kept (R.fp b) w w' ∧ (∀ x, (R.putN k y).fp b x → R.fp b x ∨ w.heap.size ≤ x) := by
 have hi : R.rows[(k * 4 + f) + 5]? = some r := (rows_at hnd f hf).trans hr
 have hm : r ∈ R.rows := List.mem_of_getElem? hi
 have hmn : R.nodeD ∈ R.rows := List.mem_of_getElem? (i := 2) rfl
 have all1 := h.all.put ((k * 4 + f) + 5) r r' hi k1 hr' hown
 have h2 : (R.rows.set ((k * 4 + f) + 5) r')[2]? = some R.nodeD := by rw [List.getElem?_set_ne (by omega)]; rfl
 have all2 := all1.put 2 R.nodeD (R.putN k y).nodeD h2 k2 hn (fun x hx => .inl hx)
 have blk1 := h.blk.kept k1 fun he => h.ne r hm he
 have rown : Row w1 146 7 R.vn R.nodes.length (R.nodes.flatMap nodeC) := all1.row _ (List.mem_of_getElem? h2)
 have blk2 := blk1.kept k2 fun he => rown.ne_block blk1 (by decide) he
 have er := rows_set hnd f hf r' hy
 refine ⟨⟨blk2, by rw [er]; exact all2⟩, k1.trans k2 (fun x hx => .inr ⟨r, hm, hx⟩) (fun x _ hx => .inr ⟨_, hmn, hx⟩), ?_⟩
 rintro x (rfl | ⟨a, ha, hx⟩)
 · exact .inl (.inl rfl)
 · rw [er] at ha
  rcases List.mem_or_eq_of_mem_set ha with ha | rfl
  · rcases List.mem_or_eq_of_mem_set ha with ha | rfl
   · exact .inl (.inr ⟨a, ha, hx⟩)
   · exact (hown x hx).imp (fun hh => .inr ⟨r, hm, hh⟩) id
  · exact .inl (.inr ⟨_, hmn, hx⟩)
theorem Ref.c0 {w : World} {b : Nat} {R : RefS} (h : Ref w b R) : w.cell? ⟨b, 0, none⟩ = some R.vp := h.blk.cell 0
theorem Ref.c1 {w : World} {b : Nat} {R : RefS} (h : Ref w b R) : w.cell? ⟨b, 1, none⟩ = some (.int .i64 R.clock) := h.blk.cell 1
theorem Ref.c2 {w : World} {b : Nat} {R : RefS} (h : Ref w b R) : w.cell? ⟨b, 2, none⟩ = some R.vr := h.blk.cell 2
theorem Ref.c3 {w : World} {b : Nat} {R : RefS} (h : Ref w b R) : w.cell? ⟨b, 3, none⟩ = some R.vn := h.blk.cell 3
theorem rdr_at (l : List RdrE) (j : Nat) (hj : j < l.length) (f : Nat) (hf : f < 3) : (l.flatMap rdrC)[j * 3 + f]? = (rdrC l[j])[f]? := flat_at rdrC 3 (fun _ => rfl) l j hj f hf
theorem node_at (l : List NodeE) (j : Nat) (hj : j < l.length) (f : Nat) (hf : f < 7) : (l.flatMap nodeC)[j * 7 + f]? = (nodeC l[j])[f]? := flat_at nodeC 7 (fun _ => rfl) l j hj f hf
end Go.Proofs.YtpfcacedpkaihaaGreat
