/- Rows of structs, entries, the past: the plain data of both sides, and mathematics over it. -/
import Derived.Test.YtpfcacedpkaihaaGreatHp
import Derived.Deep.QuietTactic
import Derived.BigQuiet
import Derived.BigGuardPart
import Derived.Lib.Strings
namespace Go.Proofs.YtpfcacedpkaihaaGreat
open Go.RowKit

/-! ### rows of structs -/
theorem flat_at {α β : Type} (C : α → List β) (s : Nat) (hs : ∀ x, (C x).length = s) (l : List α) (j : Nat) (hj : j < l.length) (f : Nat) (hf : f < s) : (l.flatMap C)[j * s + f]? = (C l[j])[f]? := by
  induction l generalizing j with
  | nil => simp at hj
  | cons x r ih =>
    match j with
    | 0 => simp only [List.flatMap_cons, Nat.zero_mul, Nat.zero_add, List.getElem_cons_zero]; rw [List.getElem?_append_left (by rw [hs]; exact hf)]
    | j + 1 =>
      have e : (j + 1) * s + f = s + (j * s + f) := by rw [Nat.add_mul]; omega
      simp only [List.flatMap_cons, List.getElem_cons_succ]
      rw [e, List.getElem?_append_right (by rw [hs]; omega), hs, Nat.add_sub_cancel_left]
      exact ih j (by simpa using hj)
theorem flat_set {α β : Type} (C : α → List β) (s : Nat) (hs : ∀ x, (C x).length = s) (l : List α) (j : Nat) (hj : j < l.length) (f : Nat) (hf : f < s) (v : β) (y : α) (hy : C y = (C l[j]).set f v) :
    (l.flatMap C).set (j * s + f) v = (l.set j y).flatMap C := by
  induction l generalizing j with
  | nil => simp at hj
  | cons x r ih =>
    match j with
    | 0 =>
      simp only [List.getElem_cons_zero] at hy
      simp only [List.flatMap_cons, Nat.zero_mul, Nat.zero_add, List.set_cons_zero, hy]
      rw [List.set_append_left _ _ (by rw [hs]; exact hf)]
    | j + 1 =>
      have e : (j + 1) * s + f = s + (j * s + f) := by rw [Nat.add_mul]; omega
      simp only [List.flatMap_cons, List.set_cons_succ]
      rw [e, List.set_append_right _ _ (by rw [hs]; omega), hs, Nat.add_sub_cancel_left]
      rw [ih j (by simpa using hj) (by simpa using hy)]
theorem flat_length {α β : Type} (C : α → List β) (s : Nat) (hs : ∀ x, (C x).length = s) (l : List α) : (l.flatMap C).length = l.length * s := by
  induction l with
  | nil => simp
  | cons x r ih => simp only [List.flatMap_cons, List.length_append, hs, ih, List.length_cons, Nat.add_mul]; omega
/-! ### the document's world -/
structure PastE where
  st : Nat → Int
  keys : Int
  tick : Int
def pastC (p : PastE) : List Value := [.int .i32 (p.st 0), .int .i32 (p.st 1), .int .i32 (p.st 2), .int .i32 (p.st 3), .int .i32 (p.st 4), .int .i32 (p.st 5), .int .i32 (p.st 6), .int .i32 (p.st 7), .int .u8 p.keys, .int .i64 p.tick]
/-- an entry: of a node, or a put. -/
structure EntE where
  q : ByteArray
  val : Int
  fr : Nat
  till : Nat
  op : Bool
  kn : Nat
def entC (e : EntE) : List Value := [.string e.q, .int .i32 e.val, .int .u64 (e.fr : Int), .int .u64 (e.till : Int), .bool e.op, .int .u64 (e.kn : Int)]
def u64s (l : List Nat) : List Value := l.map fun t : Nat => Value.int .u64 (t : Int)
def i64s (l : List Int) : List Value := l.map fun t : Int => Value.int .i64 t
/-! ### rows that one owner keeps apart -/
structure RowD where
  T : TypeId
  size : Nat
  v : Value
  n : Nat
  xs : List Value
def RowD.Is (w : World) (r : RowD) : Prop := Row w r.T r.size r.v r.n r.xs
structure Rows' (w : World) (l : List RowD) : Prop where
  row : ∀ r ∈ l, r.Is w
  sep : ∀ (i j : Nat) (a c : RowD), l[i]? = some a → l[j]? = some c → i ≠ j → ∀ k, a.v.ownBlock = some k → c.v.ownBlock ≠ some k
theorem Rows'.same {w w' : World} {l : List RowD} (h : Rows' w l) (hs : ∀ k, (∃ r ∈ l, r.v.ownBlock = some k) → w'.heap[k]? = w.heap[k]?) : Rows' w' l :=
  ⟨fun r hr => (h.row r hr).same fun k hk => hs k ⟨r, hr, hk⟩, h.sep⟩
theorem Rows'.kept {w w' : World} {F : Nat → Prop} {l : List RowD} (h : Rows' w l) (k : Kept F w w') (hF : ∀ j, (∃ r ∈ l, r.v.ownBlock = some j) → ¬ F j) : Rows' w' l :=
  h.same fun j hj => by obtain ⟨r, hr, hj'⟩ := hj; exact k.block j ((h.row r hr).lt j hj') (hF j ⟨r, hr, hj'⟩)
/-- one row has turned, or lies elsewhere: in its old block or in a new one. -/
theorem Rows'.put {w w' : World} {l : List RowD} (h : Rows' w l) (i : Nat) (r r' : RowD) (hi : l[i]? = some r) (k : Kept (fun j => r.v.ownBlock = some j) w w') (hr : r'.Is w')
    (hown : ∀ x, r'.v.ownBlock = some x → r.v.ownBlock = some x ∨ w.heap.size ≤ x) : Rows' w' (l.set i r') := by
  have hlt := (List.getElem?_eq_some_iff.mp hi).1
  have far : ∀ (j : Nat) (a : RowD), l[j]? = some a → j ≠ i → ∀ x, r'.v.ownBlock = some x → a.v.ownBlock ≠ some x := by
    intro j a ha hj x hx he
    rcases hown x hx with h1 | h1
    · exact h.sep j i a r ha hi hj x he h1
    · have := (h.row a (List.mem_of_getElem? ha)).lt x he; omega
  refine ⟨fun a ha => ?_, fun p q a c hp hq hpq x hx => ?_⟩
  · obtain ⟨j, hj⟩ := List.getElem?_of_mem ha
    rw [List.getElem?_set] at hj
    by_cases e : i = j
    · rw [if_pos e, if_pos hlt] at hj; injection hj with hj; subst hj; exact hr
    · rw [if_neg e] at hj
      exact (h.row a (List.mem_of_getElem? hj)).kept k fun x hx he => h.sep j i a r hj hi (fun z => e z.symm) x hx he
  · rw [List.getElem?_set] at hp hq
    by_cases ep : i = p
    · rw [if_pos ep, if_pos hlt] at hp
      injection hp with hp; subst hp
      rw [if_neg (by omega)] at hq
      exact far q c hq (by omega) x hx
    · rw [if_neg ep] at hp
      by_cases eq : i = q
      · rw [if_pos eq, if_pos hlt] at hq
        injection hq with hq; subst hq
        intro he
        exact far p a hp (by omega) x he hx
      · rw [if_neg eq] at hq
        exact h.sep p q a c hp hq hpq x hx
theorem past_at (l : List PastE) (j : Nat) (hj : j < l.length) (f : Nat) (hf : f < 10) : (l.flatMap pastC)[j * 10 + f]? = (pastC l[j])[f]? := flat_at pastC 10 (fun _ => rfl) l j hj f hf
theorem rt_int {k : IntKind} {a b : Int} (h : a = b) : Ending.returned (.int k a) = .returned (.int k b) := by rw [h]
theorem rt_bool {a b : Bool} (h : a = b) : Ending.returned (.bool a) = .returned (.bool b) := by rw [h]
theorem Kept.drewN {F : Nat → Prop} {w w' : World} (h : Kept F w w') (n : Nat) : Kept F w (w'.drewN n) := ⟨h.os, h.tape, h.output, h.size, h.block⟩
/-- a list of writes in memory. -/
structure Wr (w : World) (ao : Option Addr) (n : Nat) (ws : List (Int × Int)) : Prop where
  len : ws.length = n
  cell : ∀ j (h : j < ws.length), ∃ bl off, ao = some ⟨bl, off, none⟩ ∧ w.cell? ⟨bl, off + j * 2, none⟩ = some (.int .i64 ws[j].1) ∧ w.cell? ⟨bl, off + j * 2 + 1, none⟩ = some (.int .i32 ws[j].2)
theorem Wr.kept {w w' : World} {F : Nat → Prop} {ao : Option Addr} {n : Nat} {ws : List (Int × Int)} (h : Wr w ao n ws) (k : Kept F w w') (hF : ∀ a, ao = some a → ¬ F a.block) : Wr w' ao n ws := by
  refine ⟨h.len, fun j hj => ?_⟩
  obtain ⟨bl, off, e, c1, c2⟩ := h.cell j hj
  have hlt : bl < w.heap.size := World.block_lt_of_cell? w _ c1
  have hb := k.block bl hlt (hF _ e)
  exact ⟨bl, off, e, (World.cell?_of_block (a := ⟨bl, off + j * 2, none⟩) hb).trans c1, (World.cell?_of_block (a := ⟨bl, off + j * 2 + 1, none⟩) hb).trans c2⟩
def keyOk (x : Int × Int) : Bool := decide (0 ≤ x.1) && decide (x.1 < 8)
/-- the set of one key. -/
def bit1 (k : Nat) : Int := (2 : Int) ^ k % 256
/-- one write more. -/
def writeP (p : PastE) (x : Int × Int) : PastE := { p with st := fun i => if i = x.1.toNat then x.2 else p.st i, keys := bits .or .u8 p.keys (bit1 x.1.toNat) }
def writesP (p : PastE) (ws : List (Int × Int)) : PastE := ws.foldl writeP p
theorem writesP_snoc (p : PastE) (ws : List (Int × Int)) (j : Nat) (h : j < ws.length) : writesP p (ws.take (j + 1)) = writeP (writesP p (ws.take j)) ws[j] := by
  rw [writesP, List.take_succ_eq_append_getElem h, List.foldl_append]; rfl
/-- does the commit of a stamp touch some keys? -/
def touchB (past : List PastE) (K : Int) (f : Nat) : Bool := match past[f]? with
  | some p => bits .and .u8 p.keys K != 0
  | none => false
/-- the newest stamp up to one whose commit touches some keys; 0: none. -/
def fromN (past : List PastE) (K : Int) : Nat → Nat
  | 0 => 0
  | f + 1 => if touchB past K (f + 1) then f + 1 else fromN past K f
/-- the oldest of the newest n stamps whose commit touches some keys. -/
def tillN (past : List PastE) (K : Int) : Nat → Option Nat
  | 0 => none
  | n + 1 => if touchB past K (past.length - 1 - n) then some (past.length - 1 - n) else tillN past K n
theorem fromN_le (past : List PastE) (K : Int) (t : Nat) : fromN past K t ≤ t := by
  induction t with
  | zero => simp [fromN]
  | succ f ih => simp only [fromN]; split <;> omega
/-- what the store answers at a stamp. -/
def rightE (past : List PastE) (q : ByteArray) (K val : Int) (t : Nat) : EntE :=
  { q := q, val := val, fr := fromN past K t, till := (tillN past K (past.length - 1 - t)).getD 0, op := (tillN past K (past.length - 1 - t)).isNone, kn := past.length - 1 }
def entA (e : EntE) : Array Value := #[.string e.q, .int .i32 e.val, .int .u64 (e.fr : Int), .int .u64 (e.till : Int), .bool e.op, .int .u64 (e.kn : Int)]
def zeroA : Array Value := #[.string ⟨#[]⟩, .int .i32 0, .int .u64 0, .int .u64 0, .bool false, .int .u64 0]
theorem touchB_some {past : List PastE} {f : Nat} {p : PastE} (K : Int) (h : past[f]? = some p) : touchB past K f = (bits .and .u8 p.keys K != 0) := by simp [touchB, h]
theorem Kept.hold {w w' : World} (h : Kept (fun _ => False) w w') {a : Addr} {v : Value} (hc : w.cell? a = some v) : w'.cell? a = some v :=
  (World.cell?_of_block (h.block a.block (World.block_lt_of_cell? w _ hc) id)).trans hc
/-- the last stamp that an entry covers at a node of this horizon. -/
def lastE (e : EntE) (hz : Nat) : Nat := if e.op then max e.kn hz else e.till - 1
/-- does an entry answer a query in a span? -/
def meetsE (hz : Nat) (q : ByteArray) (lo hi : Nat) (e : EntE) : Prop := e.q = q ∧ max lo e.fr ≤ min hi (lastE e hz)
instance (hz : Nat) (q : ByteArray) (lo hi : Nat) (e : EntE) : Decidable (meetsE hz q lo hi e) := inferInstanceAs (Decidable (_ ∧ _))
/-- of the first n entries, the one that answers; -1: none. -/
def ansN (up : Bool) (hz : Nat) (q : ByteArray) (lo hi : Nat) (l : List EntE) : Nat → Int
  | 0 => -1
  | n + 1 => match l[n]? with
    | some x => if up = true ∧ meetsE hz q lo hi x ∧ (ansN up hz q lo hi l n < 0 ∨ ∃ y, l[(ansN up hz q lo hi l n).toNat]? = some y ∧ y.fr < x.fr) then (n : Int) else ansN up hz q lo hi l n
    | none => ansN up hz q lo hi l n
theorem ansN_lt (up : Bool) (hz : Nat) (q : ByteArray) (lo hi : Nat) (l : List EntE) (n : Nat) : -1 ≤ ansN up hz q lo hi l n ∧ ansN up hz q lo hi l n < (n : Int) := by
  induction n with
  | zero => simp [ansN]
  | succ n ih =>
    simp only [ansN]
    split
    · split <;> omega
    · omega
theorem hold_al {w : World} {o : Obj} {a : Addr} {v : Value} (h : w.cell? a = some v) : (w.alloc o).cell? a = some v := (Kept.alloc w o (fun _ => False)).hold h
theorem hold_set {w : World} {g f b o : Nat} {v v' : Value} (hb : b < g) (h : w.cell? ⟨b, o, none⟩ = some v) : (w.setCell ⟨g, f, none⟩ v').cell? ⟨b, o, none⟩ = some v :=
  (World.cell?_of_block (a := ⟨b, o, none⟩) ((Kept.setCell w ⟨g, f, none⟩ v').block b (World.block_lt_of_cell? w _ h) (by simp only; omega))).trans h
theorem hold_set2 {w : World} {g b o : Nat} {v u u' : Value} (hb : b < g) (h : w.cell? ⟨b, o, none⟩ = some v) : ((w.setCell ⟨g, 0, none⟩ u).setCell ⟨g, 1, none⟩ u').cell? ⟨b, o, none⟩ = some v := hold_set hb (hold_set hb h)
theorem size_al {w w' : World} {o : Obj} (h : (w.alloc o).heap.size ≤ w'.heap.size) : w.heap.size < w'.heap.size := by simp at h; omega
theorem kchain {W W1 wa Wa wb Wb : World} (h0 : Kept (fun _ => False) W W1) (ha : Kept (fun _ => False) W1 wa) (h1 : Kept (fun _ => False) wa Wa) (hb : Kept (fun _ => False) Wa wb) (h2 : Kept (fun k => W.heap.size ≤ k) wb Wb) : Kept (fun _ => False) W Wb := by
  have hk := ((h0.trans ha (H := fun _ => False) (fun _ => id) (fun _ _ => id)).trans h1 (H := fun _ => False) (fun _ => id) (fun _ _ => id)).trans hb (H := fun _ => False) (fun _ => id) (fun _ _ => id)
  exact hk.trans h2 (fun _ => id) (fun k hk hf => by omega)
theorem kset2 {W w : World} {g : Nat} {u u' : Value} (h : W.heap.size ≤ g) : Kept (fun k => W.heap.size ≤ k) w ((w.setCell ⟨g, 0, none⟩ u).setCell ⟨g, 1, none⟩ u') :=
  ((Kept.setCell w ⟨g, 0, none⟩ u).trans (Kept.setCell _ ⟨g, 1, none⟩ u') (H := fun k => k = g) (fun _ => id) (fun _ _ => id)).mono fun k hk => by omega
theorem bytes_inj {a b : ByteArray} (h : a.toList = b.toList) : a = b := by
  rw [Lib.toList_data, Lib.toList_data] at h
  cases a; cases b
  exact congrArg ByteArray.mk (Array.ext' h)
/-- the bounds of an entry. -/
def EntE.Fit (e : EntE) : Prop := (e.op = false → 1 ≤ e.till) ∧ e.till ≤ 701 ∧ e.kn ≤ 700
theorem kept3 (w : World) (a b c : Obj) : Kept (fun _ => False) w (((w.alloc a).alloc b).alloc c) :=
  ((Kept.alloc w a (fun _ => False)).trans (Kept.alloc _ b (fun _ => False)) (fun _ => id) (fun _ _ => id)).trans (Kept.alloc _ c (fun _ => False)) (fun _ => id) (fun _ _ => id)
/-- what an entry becomes by a put that is taken as it. -/
def mergedE (x p : EntE) : EntE :=
  { x with op := x.op && p.op, till := if x.op && !p.op then p.till else x.till, kn := max x.kn p.kn }
/-- the entry of a put's query and stamp. -/
def sameE (x p : EntE) : Prop := x.q = p.q ∧ x.fr = p.fr
instance (x p : EntE) : Decidable (sameE x p) := inferInstanceAs (Decidable (_ ∧ _))
theorem set_self' {α : Type} {l : List α} {j : Nat} {x : α} (h : l[j]? = some x) : l.set j x = l := by
  refine List.ext_getElem? fun i => ?_
  rw [List.getElem?_set]
  split
  · rename_i e
    subst e
    rw [if_pos (List.getElem?_eq_some_iff.mp h).1, h]
  · rfl
theorem Appended.of_alloc {w w' : World} {o : Obj} {e : TypeId} {size : Nat} {v v' : Value} {n m : Nat} {xs news : List Value} (h : Appended (w.alloc o) w' e size v v' n m xs news) : Appended w w' e size v v' n m xs news := by
  refine ⟨h.row, (Kept.alloc w o (fun _ => False)).trans h.kept (fun _ => False.elim) (fun _ _ => id), h.own.imp id fun hh k hk => ?_⟩
  have := hh k hk
  simp at this
  omega
def zeroP : PastE := ⟨fun _ => 0, 0, 0⟩
def nilV : Value := .slice none 0 0
/-- rows without memory. -/
theorem rows_nil {w : World} {l : List RowD} (h : ∀ r ∈ l, r.v = .slice none 0 0 ∧ r.n = 0 ∧ r.xs = []) : Rows' w l := by
  refine ⟨fun r hr => ?_, fun i j a c hi _ _ k hk => ?_⟩
  · obtain ⟨h1, h2, h3⟩ := h r hr
    show Row w r.T r.size r.v r.n r.xs
    rw [h1, h2, h3]; exact Row.nil _ _ _
  · rw [(h a (List.mem_of_getElem? hi)).1] at hk; simp [Value.ownBlock] at hk
theorem Rows'.more {w : World} {l l2 : List RowD} (h : Rows' w l) (h2 : ∀ r ∈ l2, r.v = .slice none 0 0 ∧ r.n = 0 ∧ r.xs = []) : Rows' w (l ++ l2) := by
  have hn := rows_nil (w := w) h2
  refine ⟨fun r hr => ?_, fun i j a c hi hj hij k hk => ?_⟩
  · rcases List.mem_append.mp hr with hr | hr
    · exact h.row r hr
    · exact hn.row r hr
  · by_cases ei : i < l.length
    · rw [List.getElem?_append_left ei] at hi
      by_cases ej : j < l.length
      · rw [List.getElem?_append_left ej] at hj
        exact h.sep i j a c hi hj hij k hk
      · rw [List.getElem?_append_right (by omega)] at hj
        rw [(h2 c (List.mem_of_getElem? hj)).1]; simp [Value.ownBlock]
    · rw [List.getElem?_append_right (by omega)] at hi
      rw [(h2 a (List.mem_of_getElem? hi)).1] at hk; simp [Value.ownBlock] at hk
theorem Kept.keep {F : Nat → Prop} {w w' : World} (h : Kept F w w') {a : Addr} {v : Value} (hb : ¬ F a.block) (hc : w.cell? a = some v) : w'.cell? a = some v :=
  (World.cell?_of_block (h.block a.block (World.block_lt_of_cell? w _ hc) hb)).trans hc
theorem Kept.setNew {w wr : World} (h : Kept (fun _ => False) w wr) (b o : Nat) (v : Value) (hb : w.heap.size ≤ b) : Kept (fun _ => False) w (wr.setCell ⟨b, o, none⟩ v) :=
  h.trans (Kept.setCell wr ⟨b, o, none⟩ v) (fun _ => id) (fun i hi he => by simp at he; omega)
theorem Kept.allocNew {F : Nat → Prop} {w wr : World} (h : Kept F w wr) (o : Obj) : Kept F w (wr.alloc o) :=
  h.trans (Kept.alloc wr o (fun _ => False)) (fun _ => id) (fun _ _ => False.elim)
theorem Tryz.infoEntry : (Tryz.prog.info? 55).map (fun i => (i.zero, i.size, i.bytes)) = some (some (.agg #[.string ByteArray.empty, .int .i32 0, .int .u64 0, .int .u64 0, .bool false, .int .u64 0]), 6, 56) := by kernel_rfl
theorem oneCell_ent (l : List EntE) : ∀ u ∈ l.flatMap entC, u.oneCell' = true := by
  intro u hu
  simp [entC] at hu
  obtain ⟨a, _, rfl | rfl | rfl | rfl | rfl | rfl⟩ := hu <;> rfl
theorem ent_at (l : List EntE) (j : Nat) (hj : j < l.length) (f : Nat) (hf : f < 6) : (l.flatMap entC)[j * 6 + f]? = (entC l[j])[f]? := flat_at entC 6 (fun _ => rfl) l j hj f hf
/-- the cells of an entry of a list. -/
def EntAt (w : World) (g o : Nat) (e : EntE) : Prop :=
  w.cell? ⟨g, o, none⟩ = some (.string e.q) ∧ w.cell? ⟨g, o + 1, none⟩ = some (.int .i32 e.val) ∧ w.cell? ⟨g, o + 2, none⟩ = some (.int .u64 (e.fr : Int)) ∧ w.cell? ⟨g, o + 3, none⟩ = some (.int .u64 (e.till : Int)) ∧ w.cell? ⟨g, o + 4, none⟩ = some (.bool e.op) ∧ w.cell? ⟨g, o + 5, none⟩ = some (.int .u64 (e.kn : Int))
theorem Row.entAt {w : World} {v : Value} {l : List EntE} (h : Row w 55 6 v l.length (l.flatMap entC)) (j : Nat) (hj : j < l.length) : ∃ g cap, v = .slice (some ⟨g, 0, none⟩) l.length cap ∧ g < w.heap.size ∧ EntAt w g (j * 6) l[j] := by
  obtain ⟨g, cap, hv, ho, hg⟩ := h.block (by omega)
  have hc : ∀ f, f < 6 → ∀ u, (entC l[j])[f]? = some u → w.cell? ⟨g, j * 6 + f, none⟩ = some u := fun f hf u hu => h.cell ho _ u (by rw [ent_at l j hj f hf]; exact hu)
  exact ⟨g, cap, hv, hg, hc 0 (by omega) _ rfl, hc 1 (by omega) _ rfl, hc 2 (by omega) _ rfl, hc 3 (by omega) _ rfl, hc 4 (by omega) _ rfl, hc 5 (by omega) _ rfl⟩
theorem EntAt.same {w w' : World} {g o : Nat} {e : EntE} (h : EntAt w g o e) (hs : w'.heap[g]? = w.heap[g]?) : EntAt w' g o e := by
  obtain ⟨a0, a1, a2, a3, a4, a5⟩ := h
  exact ⟨(World.cell?_of_block (a := ⟨g, o, none⟩) hs).trans a0, (World.cell?_of_block (a := ⟨g, o + 1, none⟩) hs).trans a1, (World.cell?_of_block (a := ⟨g, o + 2, none⟩) hs).trans a2, (World.cell?_of_block (a := ⟨g, o + 3, none⟩) hs).trans a3, (World.cell?_of_block (a := ⟨g, o + 4, none⟩) hs).trans a4, (World.cell?_of_block (a := ⟨g, o + 5, none⟩) hs).trans a5⟩
theorem till_none {l : List PastE} {K : Int} : ∀ n, n ≤ l.length - 1 → (∀ s, l.length - 1 - n < s → s ≤ l.length - 1 → touchB l K s = false) → tillN l K n = none
  | 0, _, _ => rfl
  | n + 1, hn, h => by
    have h1 := h (l.length - 1 - n) (by omega) (by omega)
    simp only [tillN, h1]
    exact till_none n (by omega) fun s hs1 hs2 => h s (by omega) hs2
theorem till_some {l : List PastE} {K : Int} {s : Nat} : ∀ n, n ≤ l.length - 1 → l.length - 1 - n < s → s ≤ l.length - 1 → touchB l K s = true → (∀ r, l.length - 1 - n < r → r < s → touchB l K r = false) → tillN l K n = some s
  | 0, _, h1, h2, _, _ => by omega
  | n + 1, hn, h1, h2, ht, h => by
    by_cases e : s = l.length - 1 - n
    · subst e; simp only [tillN, ht, if_true]
    · have h3 := h (l.length - 1 - n) (by omega) (by omega)
      simp only [tillN, h3]
      exact till_some n (by omega) (by omega) h2 ht fun r hr1 hr2 => h r (by omega) hr2
theorem fromN_step {l : List PastE} {K : Int} {k t : Nat} (hk : k + 1 ≤ t) : fromN l K (min (k + 1) t) = if touchB l K (k + 1) then k + 1 else fromN l K (min k t) := by
  have e1 : min (k + 1) t = k + 1 := by omega
  have e2 : min k t = k := by omega
  rw [e1, e2]; rfl
theorem fromN_past {l : List PastE} {K : Int} {k t : Nat} (hk : t < k + 1) : fromN l K (min (k + 1) t) = fromN l K (min k t) := by
  have e1 : min (k + 1) t = t := by omega
  have e2 : min k t = t := by omega
  rw [e1, e2]
/-- the sum of some bytes. -/
def sumB (l : List UInt8) : Nat := l.foldl (fun s c => s + c.toNat) 0
theorem sumB_snoc (l : List UInt8) (j : Nat) (h : j < l.length) : sumB (l.take (j + 1)) = sumB (l.take j) + l[j].toNat := by
  rw [sumB, List.take_succ_eq_append_getElem h, List.foldl_append]; rfl
theorem sumB_le (l : List UInt8) (j : Nat) (hj : j ≤ l.length) : sumB (l.take j) ≤ 255 * j := by
  induction j with
  | zero => simp [sumB]
  | succ k ih =>
    have h1 := ih (by omega)
    rw [sumB_snoc l k (by omega)]
    have h2 : (l[k]'(by omega)).toNat < 256 := UInt8.toNat_lt _
    omega
structure RdrE where
  lo : Nat
  hi : Nat
  ended : Bool
def rdrC (r : RdrE) : List Value := [.int .u64 (r.lo : Int), .int .u64 (r.hi : Int), .bool r.ended]
/-- how many readers have begun and not ended. -/
def openN (l : List RdrE) : Nat := (l.filter fun x => !x.ended).length

end Go.Proofs.YtpfcacedpkaihaaGreat
