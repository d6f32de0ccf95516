import Derived.Deep.QuietTactic
import Derived.BigQuiet
import Derived.BigGuardPart
import Derived.Lib.Strings
import Derived.Test.YtpfcacedpkaihaaGreatC2
namespace Go.Proofs.YtpfcacedpkaihaaGreat
open Go.RowKit
set_option maxRecDepth 100000
set_option maxHeartbeats 16000000
theorem flat_at {α β : Type} (C : α → List β) (s : Nat) (hs : ∀ x, (C x).length = s) (l : List α) (j : Nat) (hj : j < l.length) (f : Nat) (hf : f < s) : (l.flatMap C)[j * s + f]? = (C l[j])[f]? := by
 induction l generalizing j with
 | nil => simp at hj
 | cons x r ih =>
  match j with
  | 0 => simp only [List.flatMap_cons, Nat.zero_mul, Nat.zero_add, List.getElem_cons_zero]; rw [List.getElem?_append_left (by rw [hs]; exact hf)]
  | j + 1 =>
   have e : (j + 1) * s + f = s + (j * s + f) := by rw [Nat.add_mul]; omega
   simp only [List.flatMap_cons, List.getElem_cons_succ]
   rw [e, List.getElem?_append_right (by rw [hs]; omega), hs, Nat.add_sub_cancel_left]
   exact ih j (by simpa using hj)
theorem flat_set {α β : Type} (C : α → List β) (s : Nat) (hs : ∀ x, (C x).length = s) (l : List α) (j : Nat) (hj : j < l.length) (f : Nat) (hf : f < s) (v : β) (y : α) (hy : C y = (C l[j]).set f v) :
 (l.flatMap C).set (j * s + f) v = (l.set j y).flatMap C := by
 induction l generalizing j with
 | nil => simp at hj
 | cons x r ih =>
  match j with
  | 0 =>
   simp only [List.getElem_cons_zero] at hy
   simp only [List.flatMap_cons, Nat.zero_mul, Nat.zero_add, List.set_cons_zero, hy]
   rw [List.set_append_left _ _ (by rw [hs]; exact hf)]
  | j + 1 =>
   have e : (j + 1) * s + f = s + (j * s + f) := by rw [Nat.add_mul]; omega
   simp only [List.flatMap_cons, List.set_cons_succ]
   rw [e, List.set_append_right _ _ (by rw [hs]; omega), hs, Nat.add_sub_cancel_left]
   rw [ih j (by simpa using hj) (by simpa using hy)]
theorem flat_length {α β : Type} (C : α → List β) (s : Nat) (hs : ∀ x, (C x).length = s) (l : List α) : (l.flatMap C).length = l.length * s := by
 induction l with
 | nil => simp
 | cons x r ih => simp only [List.flatMap_cons, List.length_append, hs, ih, List.length_cons, Nat.add_mul]; omega
structure PastE where
 st : Nat → Int
 keys : Int
 tick : Int
def pastC (p : PastE) : List Value := [.int .i32 (p.st 0), .int .i32 (p.st 1), .int .i32 (p.st 2), .int .i32 (p.st 3), .int .i32 (p.st 4), .int .i32 (p.st 5), .int .i32 (p.st 6), .int .i32 (p.st 7), .int .u8 p.keys, .int .i64 p.tick]
structure EntE where
 q : ByteArray
 val : Int
 fr : Nat
 till : Nat
 op : Bool
 kn : Nat
def entC (e : EntE) : List Value := [.string e.q, .int .i32 e.val, .int .u64 (e.fr : Int), .int .u64 (e.till : Int), .bool e.op, .int .u64 (e.kn : Int)]
def u64s (l : List Nat) : List Value := l.map fun t : Nat => Value.int .u64 (t : Int)
def i64s (l : List Int) : List Value := l.map fun t : Int => Value.int .i64 t
structure RowD where
 T : TypeId
 size : Nat
 v : Value
 n : Nat
 xs : List Value
def RowD.Is (w : World) (r : RowD) : Prop := Row w r.T r.size r.v r.n r.xs
structure Rows' (w : World) (l : List RowD) : Prop where
 row : ∀ r ∈ l, r.Is w
 sep : ∀ (i j : Nat) (a c : RowD), l[i]? = some a → l[j]? = some c → i ≠ j → ∀ k, a.v.ownBlock = some k → c.v.ownBlock ≠ some k
theorem Rows'.same {w w' : World} {l : List RowD} (h : Rows' w l) (hs : ∀ k, (∃ r ∈ l, r.v.ownBlock = some k) → w'.heap[k]? = w.heap[k]?) : Rows' w' l :=
 ⟨fun r hr => (h.row r hr).same fun k hk => hs k ⟨r, hr, hk⟩, h.sep⟩
theorem Rows'.kept {w w' : World} {F : Nat → Prop} {l : List RowD} (h : Rows' w l) (k : Kept F w w') (hF : ∀ j, (∃ r ∈ l, r.v.ownBlock = some j) → ¬ F j) : Rows' w' l :=
 h.same fun j hj => by obtain ⟨r, hr, hj'⟩ := hj; exact k.block j ((h.row r hr).lt j hj') (hF j ⟨r, hr, hj'⟩)
theorem Rows'.put {w w' : World} {l : List RowD} (h : Rows' w l) (i : Nat) (r r' : RowD) (hi : l[i]? = some r) (k : Kept (fun j => r.v.ownBlock = some j) w w') (hr : r'.Is w')
 (hown : ∀ x, r'.v.ownBlock = some x → r.v.ownBlock = some x ∨ w.heap.size ≤ x) : Rows' w' (l.set i r') := by
 have hlt := (List.getElem?_eq_some_iff.mp hi).1
 have far : ∀ (j : Nat) (a : RowD), l[j]? = some a → j ≠ i → ∀ x, r'.v.ownBlock = some x → a.v.ownBlock ≠ some x := by
  intro j a ha hj x hx he
  rcases hown x hx with h1 | h1
  · exact h.sep j i a r ha hi hj x he h1
  · have := (h.row a (List.mem_of_getElem? ha)).lt x he; omega
 refine ⟨fun a ha => ?_, fun p q a c hp hq hpq x hx => ?_⟩
 · obtain ⟨j, hj⟩ := List.getElem?_of_mem ha
   rw [List.getElem?_set] at hj
   by_cases e : i = j
   · rw [if_pos e, if_pos hlt] at hj; injection hj with hj; subst hj; exact hr
   · rw [if_neg e] at hj
     exact (h.row a (List.mem_of_getElem? hj)).kept k fun x hx he => h.sep j i a r hj hi (fun z => e z.symm) x hx he
 · rw [List.getElem?_set] at hp hq
   by_cases ep : i = p
   · rw [if_pos ep, if_pos hlt] at hp
     injection hp with hp; subst hp
     rw [if_neg (by omega)] at hq
     exact far q c hq (by omega) x hx
   · rw [if_neg ep] at hp
     by_cases eq : i = q
     · rw [if_pos eq, if_pos hlt] at hq
       injection hq with hq; subst hq
       intro he
       exact far p a hp (by omega) x he hx
     · rw [if_neg eq] at hq
       exact h.sep p q a c hp hq hpq x hx
theorem past_at (l : List PastE) (j : Nat) (hj : j < l.length) (f : Nat) (hf : f < 10) : (l.flatMap pastC)[j * 10 + f]? = (pastC l[j])[f]? := flat_at pastC 10 (fun _ => rfl) l j hj f hf
theorem rt_int {k : IntKind} {a b : Int} (h : a = b) : Ending.returned (.int k a) = .returned (.int k b) := by rw [h]
theorem rt_bool {a b : Bool} (h : a = b) : Ending.returned (.bool a) = .returned (.bool b) := by rw [h]
theorem Kept.drewN {F : Nat → Prop} {w w' : World} (h : Kept F w w') (n : Nat) : Kept F w (w'.drewN n) := ⟨h.os, h.tape, h.output, h.size, h.block⟩
structure Wr (w : World) (ao : Option Addr) (n : Nat) (ws : List (Int × Int)) : Prop where
 len : ws.length = n
 cell : ∀ j (h : j < ws.length), ∃ bl off, ao = some ⟨bl, off, none⟩ ∧ w.cell? ⟨bl, off + j * 2, none⟩ = some (.int .i64 ws[j].1) ∧ w.cell? ⟨bl, off + j * 2 + 1, none⟩ = some (.int .i32 ws[j].2)
theorem Wr.kept {w w' : World} {F : Nat → Prop} {ao : Option Addr} {n : Nat} {ws : List (Int × Int)} (h : Wr w ao n ws) (k : Kept F w w') (hF : ∀ a, ao = some a → ¬ F a.block) : Wr w' ao n ws := by
 refine ⟨h.len, fun j hj => ?_⟩
 obtain ⟨bl, off, e, c1, c2⟩ := h.cell j hj
 have hlt : bl < w.heap.size := World.block_lt_of_cell? w _ c1
 have hb := k.block bl hlt (hF _ e)
 exact ⟨bl, off, e, (World.cell?_of_block (a := ⟨bl, off + j * 2, none⟩) hb).trans c1, (World.cell?_of_block (a := ⟨bl, off + j * 2 + 1, none⟩) hb).trans c2⟩
def keyOk (x : Int × Int) : Bool := decide (0 ≤ x.1) && decide (x.1 < 8)
def bit1 (k : Nat) : Int := (2 : Int) ^ k % 256
def writeP (p : PastE) (x : Int × Int) : PastE := { p with st := fun i => if i = x.1.toNat then x.2 else p.st i, keys := bits .or .u8 p.keys (bit1 x.1.toNat) }
def writesP (p : PastE) (ws : List (Int × Int)) : PastE := ws.foldl writeP p
theorem writesP_snoc (p : PastE) (ws : List (Int × Int)) (j : Nat) (h : j < ws.length) : writesP p (ws.take (j + 1)) = writeP (writesP p (ws.take j)) ws[j] := by
 rw [writesP, List.take_succ_eq_append_getElem h, List.foldl_append]; rfl
def touchB (past : List PastE) (K : Int) (f : Nat) : Bool := match past[f]? with
 | some p => bits .and .u8 p.keys K != 0
 | none => false
def fromN (past : List PastE) (K : Int) : Nat → Nat
 | 0 => 0
 | f + 1 => if touchB past K (f + 1) then f + 1 else fromN past K f
def tillN (past : List PastE) (K : Int) : Nat → Option Nat
 | 0 => none
 | n + 1 => if touchB past K (past.length - 1 - n) then some (past.length - 1 - n) else tillN past K n
theorem fromN_le (past : List PastE) (K : Int) (t : Nat) : fromN past K t ≤ t := by
 induction t with
 | zero => simp [fromN]
 | succ f ih => simp only [fromN]; split <;> omega
def rightE (past : List PastE) (q : ByteArray) (K val : Int) (t : Nat) : EntE :=
 { q := q, val := val, fr := fromN past K t, till := (tillN past K (past.length - 1 - t)).getD 0, op := (tillN past K (past.length - 1 - t)).isNone, kn := past.length - 1 }
def entA (e : EntE) : Array Value := #[.string e.q, .int .i32 e.val, .int .u64 (e.fr : Int), .int .u64 (e.till : Int), .bool e.op, .int .u64 (e.kn : Int)]
def zeroA : Array Value := #[.string ⟨#[]⟩, .int .i32 0, .int .u64 0, .int .u64 0, .bool false, .int .u64 0]
theorem touchB_some {past : List PastE} {f : Nat} {p : PastE} (K : Int) (h : past[f]? = some p) : touchB past K f = (bits .and .u8 p.keys K != 0) := by simp [touchB, h]
theorem Kept.hold {w w' : World} (h : Kept (fun _ => False) w w') {a : Addr} {v : Value} (hc : w.cell? a = some v) : w'.cell? a = some v :=
 (World.cell?_of_block (h.block a.block (World.block_lt_of_cell? w _ hc) id)).trans hc
def lastE (e : EntE) (hz : Nat) : Nat := if e.op then max e.kn hz else e.till - 1
def meetsE (hz : Nat) (q : ByteArray) (lo hi : Nat) (e : EntE) : Prop := e.q = q ∧ max lo e.fr ≤ min hi (lastE e hz)
instance (hz : Nat) (q : ByteArray) (lo hi : Nat) (e : EntE) : Decidable (meetsE hz q lo hi e) := inferInstanceAs (Decidable (_ ∧ _))
def ansN (up : Bool) (hz : Nat) (q : ByteArray) (lo hi : Nat) (l : List EntE) : Nat → Int
 | 0 => -1
 | n + 1 => match l[n]? with
  | some x => if up = true ∧ meetsE hz q lo hi x ∧ (ansN up hz q lo hi l n < 0 ∨ ∃ y, l[(ansN up hz q lo hi l n).toNat]? = some y ∧ y.fr < x.fr) then (n : Int) else ansN up hz q lo hi l n
  | none => ansN up hz q lo hi l n
theorem ansN_lt (up : Bool) (hz : Nat) (q : ByteArray) (lo hi : Nat) (l : List EntE) (n : Nat) : -1 ≤ ansN up hz q lo hi l n ∧ ansN up hz q lo hi l n < (n : Int) := by
 induction n with
 | zero => simp [ansN]
 | succ n ih =>
  simp only [ansN]
  split
  · split <;> omega
  · omega
theorem hold_al {w : World} {o : Obj} {a : Addr} {v : Value} (h : w.cell? a = some v) : (w.alloc o).cell? a = some v := (Kept.alloc w o (fun _ => False)).hold h
theorem hold_set {w : World} {g f b o : Nat} {v v' : Value} (hb : b < g) (h : w.cell? ⟨b, o, none⟩ = some v) : (w.setCell ⟨g, f, none⟩ v').cell? ⟨b, o, none⟩ = some v :=
 (World.cell?_of_block (a := ⟨b, o, none⟩) ((Kept.setCell w ⟨g, f, none⟩ v').block b (World.block_lt_of_cell? w _ h) (by simp only; omega))).trans h
theorem hold_set2 {w : World} {g b o : Nat} {v u u' : Value} (hb : b < g) (h : w.cell? ⟨b, o, none⟩ = some v) : ((w.setCell ⟨g, 0, none⟩ u).setCell ⟨g, 1, none⟩ u').cell? ⟨b, o, none⟩ = some v := hold_set hb (hold_set hb h)
theorem size_al {w w' : World} {o : Obj} (h : (w.alloc o).heap.size ≤ w'.heap.size) : w.heap.size < w'.heap.size := by simp at h; omega
theorem kchain {W W1 wa Wa wb Wb : World} (h0 : Kept (fun _ => False) W W1) (ha : Kept (fun _ => False) W1 wa) (h1 : Kept (fun _ => False) wa Wa) (hb : Kept (fun _ => False) Wa wb) (h2 : Kept (fun k => W.heap.size ≤ k) wb Wb) : Kept (fun _ => False) W Wb := by
 have hk := ((h0.trans ha (H := fun _ => False) (fun _ => id) (fun _ _ => id)).trans h1 (H := fun _ => False) (fun _ => id) (fun _ _ => id)).trans hb (H := fun _ => False) (fun _ => id) (fun _ _ => id)
 exact hk.trans h2 (fun _ => id) (fun k hk hf => by omega)
theorem kset2 {W w : World} {g : Nat} {u u' : Value} (h : W.heap.size ≤ g) : Kept (fun k => W.heap.size ≤ k) w ((w.setCell ⟨g, 0, none⟩ u).setCell ⟨g, 1, none⟩ u') :=
 ((Kept.setCell w ⟨g, 0, none⟩ u).trans (Kept.setCell _ ⟨g, 1, none⟩ u') (H := fun k => k = g) (fun _ => id) (fun _ _ => id)).mono fun k hk => by omega
theorem bytes_inj {a b : ByteArray} (h : a.toList = b.toList) : a = b := by
 rw [Lib.toList_data, Lib.toList_data] at h
 cases a; cases b
 exact congrArg ByteArray.mk (Array.ext' h)
def EntE.Fit (e : EntE) : Prop := (e.op = false → 1 ≤ e.till) ∧ e.till ≤ 701 ∧ e.kn ≤ 700
theorem kept3 (w : World) (a b c : Obj) : Kept (fun _ => False) w (((w.alloc a).alloc b).alloc c) :=
 ((Kept.alloc w a (fun _ => False)).trans (Kept.alloc _ b (fun _ => False)) (fun _ => id) (fun _ _ => id)).trans (Kept.alloc _ c (fun _ => False)) (fun _ => id) (fun _ _ => id)
def mergedE (x p : EntE) : EntE :=
 { x with op := x.op && p.op, till := if x.op && !p.op then p.till else x.till, kn := max x.kn p.kn }
def sameE (x p : EntE) : Prop := x.q = p.q ∧ x.fr = p.fr
instance (x p : EntE) : Decidable (sameE x p) := inferInstanceAs (Decidable (_ ∧ _))
theorem set_self' {α : Type} {l : List α} {j : Nat} {x : α} (h : l[j]? = some x) : l.set j x = l := by
 refine List.ext_getElem? fun i => ?_
 rw [List.getElem?_set]
 split
 · rename_i e
   subst e
   rw [if_pos (List.getElem?_eq_some_iff.mp h).1, h]
 · rfl
theorem Appended.of_alloc {w w' : World} {o : Obj} {e : TypeId} {size : Nat} {v v' : Value} {n m : Nat} {xs news : List Value} (h : Appended (w.alloc o) w' e size v v' n m xs news) : Appended w w' e size v v' n m xs news := by
 refine ⟨h.row, (Kept.alloc w o (fun _ => False)).trans h.kept (fun _ => False.elim) (fun _ _ => id), h.own.imp id fun hh k hk => ?_⟩
 have := hh k hk
 simp at this
 omega
def zeroP : PastE := ⟨fun _ => 0, 0, 0⟩
def nilV : Value := .slice none 0 0
theorem rows_nil {w : World} {l : List RowD} (h : ∀ r ∈ l, r.v = .slice none 0 0 ∧ r.n = 0 ∧ r.xs = []) : Rows' w l := by
 refine ⟨fun r hr => ?_, fun i j a c hi _ _ k hk => ?_⟩
 · obtain ⟨h1, h2, h3⟩ := h r hr
   show Row w r.T r.size r.v r.n r.xs
   rw [h1, h2, h3]; exact Row.nil _ _ _
 · rw [(h a (List.mem_of_getElem? hi)).1] at hk; simp [Value.ownBlock] at hk
theorem Rows'.more {w : World} {l l2 : List RowD} (h : Rows' w l) (h2 : ∀ r ∈ l2, r.v = .slice none 0 0 ∧ r.n = 0 ∧ r.xs = []) : Rows' w (l ++ l2) := by
 have hn := rows_nil (w := w) h2
 refine ⟨fun r hr => ?_, fun i j a c hi hj hij k hk => ?_⟩
 · rcases List.mem_append.mp hr with hr | hr
   · exact h.row r hr
   · exact hn.row r hr
 · by_cases ei : i < l.length
   · rw [List.getElem?_append_left ei] at hi
     by_cases ej : j < l.length
     · rw [List.getElem?_append_left ej] at hj
       exact h.sep i j a c hi hj hij k hk
     · rw [List.getElem?_append_right (by omega)] at hj
       rw [(h2 c (List.mem_of_getElem? hj)).1]; simp [Value.ownBlock]
   · rw [List.getElem?_append_right (by omega)] at hi
     rw [(h2 a (List.mem_of_getElem? hi)).1] at hk; simp [Value.ownBlock] at hk
theorem Kept.keep {F : Nat → Prop} {w w' : World} (h : Kept F w w') {a : Addr} {v : Value} (hb : ¬ F a.block) (hc : w.cell? a = some v) : w'.cell? a = some v :=
 (World.cell?_of_block (h.block a.block (World.block_lt_of_cell? w _ hc) hb)).trans hc
theorem Kept.setNew {w wr : World} (h : Kept (fun _ => False) w wr) (b o : Nat) (v : Value) (hb : w.heap.size ≤ b) : Kept (fun _ => False) w (wr.setCell ⟨b, o, none⟩ v) :=
 h.trans (Kept.setCell wr ⟨b, o, none⟩ v) (fun _ => id) (fun i hi he => by simp at he; omega)
theorem Kept.allocNew {F : Nat → Prop} {w wr : World} (h : Kept F w wr) (o : Obj) : Kept F w (wr.alloc o) :=
 h.trans (Kept.alloc wr o (fun _ => False)) (fun _ => id) (fun _ _ => False.elim)
theorem Tryz.infoEntry : (Tryz.prog.info? 55).map (fun i => (i.zero, i.size, i.bytes)) = some (some (.agg #[.string ByteArray.empty, .int .i32 0, .int .u64 0, .int .u64 0, .bool false, .int .u64 0]), 6, 56) := by kernel_rfl
theorem oneCell_ent (l : List EntE) : ∀ u ∈ l.flatMap entC, u.oneCell' = true := by
 intro u hu
 simp [entC] at hu
 obtain ⟨a, _, rfl | rfl | rfl | rfl | rfl | rfl⟩ := hu <;> rfl
theorem ent_at (l : List EntE) (j : Nat) (hj : j < l.length) (f : Nat) (hf : f < 6) : (l.flatMap entC)[j * 6 + f]? = (entC l[j])[f]? := flat_at entC 6 (fun _ => rfl) l j hj f hf
def EntAt (w : World) (g o : Nat) (e : EntE) : Prop :=
 w.cell? ⟨g, o, none⟩ = some (.string e.q) ∧ w.cell? ⟨g, o + 1, none⟩ = some (.int .i32 e.val) ∧ w.cell? ⟨g, o + 2, none⟩ = some (.int .u64 (e.fr : Int)) ∧ w.cell? ⟨g, o + 3, none⟩ = some (.int .u64 (e.till : Int)) ∧ w.cell? ⟨g, o + 4, none⟩ = some (.bool e.op) ∧ w.cell? ⟨g, o + 5, none⟩ = some (.int .u64 (e.kn : Int))
theorem Row.entAt {w : World} {v : Value} {l : List EntE} (h : Row w 55 6 v l.length (l.flatMap entC)) (j : Nat) (hj : j < l.length) : ∃ g cap, v = .slice (some ⟨g, 0, none⟩) l.length cap ∧ g < w.heap.size ∧ EntAt w g (j * 6) l[j] := by
 obtain ⟨g, cap, hv, ho, hg⟩ := h.block (by omega)
 have hc : ∀ f, f < 6 → ∀ u, (entC l[j])[f]? = some u → w.cell? ⟨g, j * 6 + f, none⟩ = some u := fun f hf u hu => h.cell ho _ u (by rw [ent_at l j hj f hf]; exact hu)
 exact ⟨g, cap, hv, hg, hc 0 (by omega) _ rfl, hc 1 (by omega) _ rfl, hc 2 (by omega) _ rfl, hc 3 (by omega) _ rfl, hc 4 (by omega) _ rfl, hc 5 (by omega) _ rfl⟩
theorem EntAt.same {w w' : World} {g o : Nat} {e : EntE} (h : EntAt w g o e) (hs : w'.heap[g]? = w.heap[g]?) : EntAt w' g o e := by
 obtain ⟨a0, a1, a2, a3, a4, a5⟩ := h
 exact ⟨(World.cell?_of_block (a := ⟨g, o, none⟩) hs).trans a0, (World.cell?_of_block (a := ⟨g, o + 1, none⟩) hs).trans a1, (World.cell?_of_block (a := ⟨g, o + 2, none⟩) hs).trans a2, (World.cell?_of_block (a := ⟨g, o + 3, none⟩) hs).trans a3, (World.cell?_of_block (a := ⟨g, o + 4, none⟩) hs).trans a4, (World.cell?_of_block (a := ⟨g, o + 5, none⟩) hs).trans a5⟩
theorem till_none {l : List PastE} {K : Int} : ∀ n, n ≤ l.length - 1 → (∀ s, l.length - 1 - n < s → s ≤ l.length - 1 → touchB l K s = false) → tillN l K n = none
 | 0, _, _ => rfl
 | n + 1, hn, h => by
  have h1 := h (l.length - 1 - n) (by omega) (by omega)
  simp only [tillN, h1]
  exact till_none n (by omega) fun s hs1 hs2 => h s (by omega) hs2
theorem till_some {l : List PastE} {K : Int} {s : Nat} : ∀ n, n ≤ l.length - 1 → l.length - 1 - n < s → s ≤ l.length - 1 → touchB l K s = true → (∀ r, l.length - 1 - n < r → r < s → touchB l K r = false) → tillN l K n = some s
 | 0, _, h1, h2, _, _ => by omega
 | n + 1, hn, h1, h2, ht, h => by
  by_cases e : s = l.length - 1 - n
  · subst e; simp only [tillN, ht, if_true]
  · have h3 := h (l.length - 1 - n) (by omega) (by omega)
    simp only [tillN, h3]
    exact till_some n (by omega) (by omega) h2 ht fun r hr1 hr2 => h r (by omega) hr2
theorem fromN_step {l : List PastE} {K : Int} {k t : Nat} (hk : k + 1 ≤ t) : fromN l K (min (k + 1) t) = if touchB l K (k + 1) then k + 1 else fromN l K (min k t) := by
 have e1 : min (k + 1) t = k + 1 := by omega
 have e2 : min k t = k := by omega
 rw [e1, e2]; rfl
theorem fromN_past {l : List PastE} {K : Int} {k t : Nat} (hk : t < k + 1) : fromN l K (min (k + 1) t) = fromN l K (min k t) := by
 have e1 : min (k + 1) t = t := by omega
 have e2 : min k t = t := by omega
 rw [e1, e2]
def sumB (l : List UInt8) : Nat := l.foldl (fun s c => s + c.toNat) 0
theorem sumB_snoc (l : List UInt8) (j : Nat) (h : j < l.length) : sumB (l.take (j + 1)) = sumB (l.take j) + l[j].toNat := by
 rw [sumB, List.take_succ_eq_append_getElem h, List.foldl_append]; rfl
theorem sumB_le (l : List UInt8) (j : Nat) (hj : j ≤ l.length) : sumB (l.take j) ≤ 255 * j := by
 induction j with
 | zero => simp [sumB]
 | succ k ih =>
  have h1 := ih (by omega)
  rw [sumB_snoc l k (by omega)]
  have h2 : (l[k]'(by omega)).toNat < 256 := UInt8.toNat_lt _
  omega
structure RdrE where
 lo : Nat
 hi : Nat
 ended : Bool
def rdrC (r : RdrE) : List Value := [.int .u64 (r.lo : Int), .int .u64 (r.hi : Int), .bool r.ended]
def openN (l : List RdrE) : Nat := (l.filter fun x => !x.ended).length
structure NodeE where
 up : Bool
 since : Nat
 horizon : Nat
 fl : Value
 wt : Value
 en : Value
 nm : Value
 fls : List Nat
 wts : List Nat
 ents : List EntE
 nms : List Int
def nodeC (n : NodeE) : List Value := [.bool n.up, .int .u64 (n.since : Int), .int .u64 (n.horizon : Int), n.fl, n.wt, n.en, n.nm]
structure RefS where
 past : List PastE
 clock : Int
 rdrs : List RdrE
 nodes : List NodeE
 room : Int
 next : Int
 puts : List EntE
 uses : List Int
 vp : Value
 vr : Value
 vn : Value
 vu : Value
 vs : Value
def nodeR (nd : NodeE) : List RowD := [⟨53, 1, nd.fl, nd.fls.length, u64s nd.fls⟩, ⟨53, 1, nd.wt, nd.wts.length, u64s nd.wts⟩, ⟨55, 6, nd.en, nd.ents.length, nd.ents.flatMap entC⟩, ⟨3, 1, nd.nm, nd.nms.length, i64s nd.nms⟩]
def RefS.rows (R : RefS) : List RowD :=
 ⟨143, 10, R.vp, R.past.length, R.past.flatMap pastC⟩ :: ⟨162, 3, R.vr, R.rdrs.length, R.rdrs.flatMap rdrC⟩ :: ⟨146, 7, R.vn, R.nodes.length, R.nodes.flatMap nodeC⟩ ::
  ⟨55, 6, R.vu, R.puts.length, R.puts.flatMap entC⟩ :: ⟨3, 1, R.vs, R.uses.length, i64s R.uses⟩ :: R.nodes.flatMap nodeR
structure Ref (w : World) (b : Nat) (R : RefS) : Prop where
 blk : Blk w b 84 #[R.vp, .int .i64 R.clock, R.vr, R.vn, .int .i64 R.room, R.vu, R.vs, .int .i64 R.next]
 all : Rows' w R.rows
theorem rows_ne_world {R : RefS} {r : RowD} (h : r ∈ R.rows) : r.T ≠ 84 := by
 simp only [RefS.rows, List.mem_cons, List.mem_flatMap, nodeR, List.not_mem_nil, or_false] at h
 rcases h with rfl | rfl | rfl | rfl | rfl | ⟨nd, _, rfl | rfl | rfl | rfl⟩ <;> (dsimp only; decide)
theorem Ref.past {w : World} {b : Nat} {R : RefS} (h : Ref w b R) : Row w 143 10 R.vp R.past.length (R.past.flatMap pastC) := h.all.row _ (List.mem_of_getElem? (i := 0) rfl)
theorem Ref.rdrs {w : World} {b : Nat} {R : RefS} (h : Ref w b R) : Row w 162 3 R.vr R.rdrs.length (R.rdrs.flatMap rdrC) := h.all.row _ (List.mem_of_getElem? (i := 1) rfl)
theorem Ref.nodes {w : World} {b : Nat} {R : RefS} (h : Ref w b R) : Row w 146 7 R.vn R.nodes.length (R.nodes.flatMap nodeC) := h.all.row _ (List.mem_of_getElem? (i := 2) rfl)
theorem Ref.puts {w : World} {b : Nat} {R : RefS} (h : Ref w b R) : Row w 55 6 R.vu R.puts.length (R.puts.flatMap entC) := h.all.row _ (List.mem_of_getElem? (i := 3) rfl)
theorem Ref.uses {w : World} {b : Nat} {R : RefS} (h : Ref w b R) : Row w 3 1 R.vs R.uses.length (i64s R.uses) := h.all.row _ (List.mem_of_getElem? (i := 4) rfl)
theorem nodeR_mem {R : RefS} {nd : NodeE} {r : RowD} (hn : nd ∈ R.nodes) (hr : r ∈ nodeR nd) : r ∈ R.rows := by
 simp only [RefS.rows, List.mem_cons, List.mem_flatMap]
 exact .inr (.inr (.inr (.inr (.inr ⟨nd, hn, hr⟩))))
theorem Ref.fls {w : World} {b : Nat} {R : RefS} (h : Ref w b R) : ∀ nd ∈ R.nodes, Row w 53 1 nd.fl nd.fls.length (u64s nd.fls) := fun _ hn => h.all.row ⟨_, _, _, _, _⟩ (nodeR_mem hn (List.mem_of_getElem? (i := 0) rfl))
theorem Ref.wts {w : World} {b : Nat} {R : RefS} (h : Ref w b R) : ∀ nd ∈ R.nodes, Row w 53 1 nd.wt nd.wts.length (u64s nd.wts) := fun _ hn => h.all.row ⟨_, _, _, _, _⟩ (nodeR_mem hn (List.mem_of_getElem? (i := 1) rfl))
theorem Ref.ents {w : World} {b : Nat} {R : RefS} (h : Ref w b R) : ∀ nd ∈ R.nodes, Row w 55 6 nd.en nd.ents.length (nd.ents.flatMap entC) := fun _ hn => h.all.row ⟨_, _, _, _, _⟩ (nodeR_mem hn (List.mem_of_getElem? (i := 2) rfl))
theorem Ref.nms {w : World} {b : Nat} {R : RefS} (h : Ref w b R) : ∀ nd ∈ R.nodes, Row w 3 1 nd.nm nd.nms.length (i64s nd.nms) := fun _ hn => h.all.row ⟨_, _, _, _, _⟩ (nodeR_mem hn (List.mem_of_getElem? (i := 3) rfl))
structure RefS.Fit (R : RefS) : Prop where
 pos : 0 < R.past.length
 pmax : R.past.length ≤ 701
 clk0 : 0 ≤ R.clock
 clk1 : R.clock ≤ 100000
 rmax : R.rdrs.length ≤ 200
 npos : 0 < R.nodes.length
 nmax : R.nodes.length ≤ 3
 fmax : ∀ nd ∈ R.nodes, nd.fls.length ≤ 12 ∧ nd.horizon ≤ 700 ∧ ∀ t ∈ nd.fls, t ≤ 700
def RefS.fp (R : RefS) (b : Nat) (k : Nat) : Prop := k = b ∨ ∃ r ∈ R.rows, r.v.ownBlock = some k
theorem fp_vp {R : RefS} {b k : Nat} (h : R.vp.ownBlock = some k) : R.fp b k := .inr ⟨_, List.mem_of_getElem? (i := 0) rfl, h⟩
theorem fp_vr {R : RefS} {b k : Nat} (h : R.vr.ownBlock = some k) : R.fp b k := .inr ⟨_, List.mem_of_getElem? (i := 1) rfl, h⟩
theorem fp_vn {R : RefS} {b k : Nat} (h : R.vn.ownBlock = some k) : R.fp b k := .inr ⟨_, List.mem_of_getElem? (i := 2) rfl, h⟩
theorem Ref.lt {w : World} {b : Nat} {R : RefS} (h : Ref w b R) : ∀ k, R.fp b k → k < w.heap.size := by
 rintro k (rfl | ⟨r, hr, hk⟩)
 · exact h.blk.lt
 · exact (h.all.row r hr).lt k hk
theorem Ref.ne {w : World} {b : Nat} {R : RefS} (h : Ref w b R) : ∀ r ∈ R.rows, r.v.ownBlock ≠ some b := fun r hr => (h.all.row r hr).ne_block h.blk (rows_ne_world hr)
theorem Ref.same {w w' : World} {b : Nat} {R : RefS} (h : Ref w b R) (hs : ∀ k, R.fp b k → w'.heap[k]? = w.heap[k]?) : Ref w' b R :=
 ⟨h.blk.same (hs b (.inl rfl)), h.all.same fun k hk => hs k (.inr hk)⟩
theorem Ref.kept {w w' : World} {F : Nat → Prop} {b : Nat} {R : RefS} (h : Ref w b R) (k : Kept F w w') (hF : ∀ j, R.fp b j → ¬ F j) : Ref w' b R :=
 h.same fun j hj => k.block j (h.lt j hj) (hF j hj)
theorem Ref.put {w w' : World} {b : Nat} {R R' : RefS} (h : Ref w b R) (i f : Nat) (r r' : RowD) (hi : R.rows[i]? = some r) (k : Kept (fun j => r.v.ownBlock = some j) w w') (hr : r'.Is w')
 (hown : ∀ x, r'.v.ownBlock = some x → r.v.ownBlock = some x ∨ w.heap.size ≤ x) (hrows : R'.rows = R.rows.set i r') (hT : r'.T ≠ 84)
 (hblk : (#[R.vp, .int .i64 R.clock, R.vr, R.vn, .int .i64 R.room, R.vu, R.vs, .int .i64 R.next] : Array Value).setIfInBounds f r'.v = #[R'.vp, .int .i64 R'.clock, R'.vr, R'.vn, .int .i64 R'.room, R'.vu, R'.vs, .int .i64 R'.next]) :
 Ref (w'.setCell ⟨b, f, none⟩ r'.v) b R' ∧ Kept (R.fp b) w (w'.setCell ⟨b, f, none⟩ r'.v) ∧ (∀ x, R'.fp b x → R.fp b x ∨ w.heap.size ≤ x) := by
 have hm : r ∈ R.rows := List.mem_of_getElem? hi
 have blk1 := h.blk.kept k fun he => h.ne r hm he
 have all1 := h.all.put i r r' hi k hr hown
 have k2 := Kept.setCell w' ⟨b, f, none⟩ r'.v
 refine ⟨⟨?_, ?_⟩, k.trans k2 (fun x hx => .inr ⟨r, hm, hx⟩) (fun x _ hx => .inl hx), ?_⟩
 · rw [← hblk]; exact blk1.set f _
 · rw [hrows]
   refine all1.kept k2 ?_
   rintro j ⟨a, ha, hj⟩ he
   subst he
   rcases List.mem_or_eq_of_mem_set ha with ha' | rfl
   · exact (all1.row a ha).ne_block blk1 (rows_ne_world ha') hj
   · exact Row.ne_block hr blk1 hT hj
 · rintro x (rfl | ⟨a, ha, hx⟩)
   · exact .inl (.inl rfl)
   · rw [hrows] at ha
     rcases List.mem_or_eq_of_mem_set ha with ha | rfl
     · exact .inl (.inr ⟨a, ha, hx⟩)
     · exact (hown x hx).imp (fun hh => .inr ⟨r, hm, hh⟩) id
theorem Ref.turn {w w' : World} {b : Nat} {R R' : RefS} (h : Ref w b R) (i : Nat) (r r' : RowD) (hi : R.rows[i]? = some r) (k : Kept (fun j => r.v.ownBlock = some j) w w') (hr : r'.Is w') (hv : r'.v = r.v) (hrows : R'.rows = R.rows.set i r')
 (hblk : #[R.vp, .int .i64 R.clock, R.vr, R.vn, .int .i64 R.room, R.vu, R.vs, .int .i64 R.next] = #[R'.vp, .int .i64 R'.clock, R'.vr, R'.vn, .int .i64 R'.room, R'.vu, R'.vs, .int .i64 R'.next]) : Ref w' b R' :=
 ⟨by rw [← hblk]; exact h.blk.kept k fun he => h.ne r (List.mem_of_getElem? hi) he, by rw [hrows]; exact h.all.put i r r' hi k hr fun x hx => .inl (by rw [← hv]; exact hx)⟩
def RefS.putN (R : RefS) (k : Nat) (nd : NodeE) : RefS := { R with nodes := R.nodes.set k nd }
def RefS.nodeD (R : RefS) : RowD := ⟨146, 7, R.vn, R.nodes.length, R.nodes.flatMap nodeC⟩
theorem rows_at {R : RefS} {k : Nat} {nd : NodeE} (hnd : R.nodes[k]? = some nd) (f : Nat) (hf : f < 4) : R.rows[(k * 4 + f) + 5]? = (nodeR nd)[f]? := by
 obtain ⟨hk, hnd'⟩ := List.getElem?_eq_some_iff.mp hnd
 show (R.nodes.flatMap nodeR)[k * 4 + f]? = _
 rw [flat_at nodeR 4 (fun _ => rfl) R.nodes k hk f hf, hnd']
theorem rows_set {R : RefS} {k : Nat} {nd y : NodeE} (hnd : R.nodes[k]? = some nd) (f : Nat) (hf : f < 4) (r : RowD) (hy : nodeR y = (nodeR nd).set f r) :
 (R.putN k y).rows = (R.rows.set ((k * 4 + f) + 5) r).set 2 (R.putN k y).nodeD := by
 obtain ⟨hk, hnd'⟩ := List.getElem?_eq_some_iff.mp hnd
 have e := flat_set nodeR 4 (fun _ => rfl) R.nodes k hk f hf r y (by rw [hnd']; exact hy)
 show _ :: _ :: _ :: _ :: _ :: (R.nodes.set k y).flatMap nodeR = _ :: _ :: _ :: _ :: _ :: (R.nodes.flatMap nodeR).set (k * 4 + f) r
 rw [e]; rfl
theorem Ref.putF {w w1 w' : World} {b k f : Nat} {R : RefS} {nd y : NodeE} {r r' : RowD} (h : Ref w b R) (hnd : R.nodes[k]? = some nd) (hf : f < 4) (hr : (nodeR nd)[f]? = some r) (hy : nodeR y = (nodeR nd).set f r')
 (k1 : Kept (fun j => r.v.ownBlock = some j) w w1) (hr' : r'.Is w1) (hown : ∀ x, r'.v.ownBlock = some x → r.v.ownBlock = some x ∨ w.heap.size ≤ x)
 (k2 : Kept (fun j => R.vn.ownBlock = some j) w1 w') (hn : Row w' 146 7 R.vn (R.nodes.set k y).length ((R.nodes.set k y).flatMap nodeC)) :
 Ref w' b (R.putN k y) ∧ Kept (R.fp b) w w' ∧ (∀ x, (R.putN k y).fp b x → R.fp b x ∨ w.heap.size ≤ x) := by
 have hi : R.rows[(k * 4 + f) + 5]? = some r := (rows_at hnd f hf).trans hr
 have hm : r ∈ R.rows := List.mem_of_getElem? hi
 have hmn : R.nodeD ∈ R.rows := List.mem_of_getElem? (i := 2) rfl
 have all1 := h.all.put ((k * 4 + f) + 5) r r' hi k1 hr' hown
 have h2 : (R.rows.set ((k * 4 + f) + 5) r')[2]? = some R.nodeD := by rw [List.getElem?_set_ne (by omega)]; rfl
 have all2 := all1.put 2 R.nodeD (R.putN k y).nodeD h2 k2 hn (fun x hx => .inl hx)
 have blk1 := h.blk.kept k1 fun he => h.ne r hm he
 have rown : Row w1 146 7 R.vn R.nodes.length (R.nodes.flatMap nodeC) := all1.row _ (List.mem_of_getElem? h2)
 have blk2 := blk1.kept k2 fun he => rown.ne_block blk1 (by decide) he
 have er := rows_set hnd f hf r' hy
 refine ⟨⟨blk2, by rw [er]; exact all2⟩, k1.trans k2 (fun x hx => .inr ⟨r, hm, hx⟩) (fun x _ hx => .inr ⟨_, hmn, hx⟩), ?_⟩
 rintro x (rfl | ⟨a, ha, hx⟩)
 · exact .inl (.inl rfl)
 · rw [er] at ha
   rcases List.mem_or_eq_of_mem_set ha with ha | rfl
   · rcases List.mem_or_eq_of_mem_set ha with ha | rfl
     · exact .inl (.inr ⟨a, ha, hx⟩)
     · exact (hown x hx).imp (fun hh => .inr ⟨r, hm, hh⟩) id
   · exact .inl (.inr ⟨_, hmn, hx⟩)
theorem Ref.c0 {w : World} {b : Nat} {R : RefS} (h : Ref w b R) : w.cell? ⟨b, 0, none⟩ = some R.vp := h.blk.cell 0
theorem Ref.c1 {w : World} {b : Nat} {R : RefS} (h : Ref w b R) : w.cell? ⟨b, 1, none⟩ = some (.int .i64 R.clock) := h.blk.cell 1
theorem Ref.c2 {w : World} {b : Nat} {R : RefS} (h : Ref w b R) : w.cell? ⟨b, 2, none⟩ = some R.vr := h.blk.cell 2
theorem Ref.c3 {w : World} {b : Nat} {R : RefS} (h : Ref w b R) : w.cell? ⟨b, 3, none⟩ = some R.vn := h.blk.cell 3
theorem rdr_at (l : List RdrE) (j : Nat) (hj : j < l.length) (f : Nat) (hf : f < 3) : (l.flatMap rdrC)[j * 3 + f]? = (rdrC l[j])[f]? := flat_at rdrC 3 (fun _ => rfl) l j hj f hf
theorem node_at (l : List NodeE) (j : Nat) (hj : j < l.length) (f : Nat) (hf : f < 7) : (l.flatMap nodeC)[j * 7 + f]? = (nodeC l[j])[f]? := flat_at nodeC 7 (fun _ => rfl) l j hj f hf
theorem rnewest_c (w : World) (b : Nat) (ao : Option Addr) (n cap : Nat) (c0 : w.cell? ⟨b, 0, none⟩ = some (.slice ao n cap)) (hp : 0 < n) (hm : n ≤ 701) :
 Calls Tryz.prog 77 #[.pointer (some ⟨b, 0, none⟩)] w fun e w' => e = .returned (.int .u64 ((n - 1 : Nat) : Int)) ∧ w = w' := by
 go_enter Tryz.func77, Tryz.ntmps77
 go_wp2
 go_ret
 exact ⟨rt_int (by omega), rfl⟩
theorem rnewest (w : World) (b : Nat) (R : RefS) (h : Ref w b R) (hf : R.Fit) :
 Calls Tryz.prog 77 #[.pointer (some ⟨b, 0, none⟩)] w fun e w' => e = .returned (.int .u64 ((R.past.length - 1 : Nat) : Int)) ∧ w = w' := by
 obtain ⟨ao, cap, hv, _⟩ := h.past.form
 have c0 := h.c0
 rw [hv] at c0
 have hp := hf.pos
 have hm := hf.pmax
 clear h hf hv
 go_enter Tryz.func77, Tryz.ntmps77
 go_wp2
 go_ret
 exact ⟨rt_int (by omega), rfl⟩
theorem Ref.tick {w : World} {b : Nat} {R : RefS} (h : Ref w b R) (c : Int) : Ref (w.setCell ⟨b, 1, none⟩ (.int .i64 c)) b { R with clock := c } :=
 ⟨h.blk.set 1 _, h.all.kept (Kept.setCell w ⟨b, 1, none⟩ (.int .i64 c)) (by rintro j ⟨r, hr, hj⟩ he; subst he; exact h.ne r hr hj)⟩
theorem rtick (w : World) (b : Nat) (R : RefS) (h : Ref w b R) (hf : R.Fit) :
 Calls Tryz.prog 32 #[.pointer (some ⟨b, 0, none⟩)] w fun e w' =>
  (R.clock = 100000 ∧ e = .returned (.int .i64 6) ∧ w = w') ∨ (R.clock < 100000 ∧ e = .returned (.int .i64 0) ∧ Ref w' b { R with clock := R.clock + 1 } ∧ Kept (R.fp b) w w') := by
 have c1 := h.c1
 have f1 := h.blk.free 1
 have hm0 := hf.clk0
 have hm1 := hf.clk1
 by_cases hc : R.clock = 100000
 · have hc' : (R.clock == 100000) = true := beq_iff_eq.mpr hc
   have HC : Hid (R.clock = 100000) := hc
   clear hc h hf
   go_enter Tryz.func32, Tryz.ntmps32
   go_wp2
   go_ret
   exact .inl ⟨HC.out, rfl, rfl⟩
 · have hc' : (R.clock == 100000) = false := beq_eq_false_iff_ne.mpr hc
   have HR : Hid (Ref w b R) := h
   clear h hf
   go_enter Tryz.func32, Tryz.ntmps32
   go_wp2
   go_ret
   exact .inr ⟨by omega, rfl, HR.out.tick _, (Kept.setCell _ _ _).mono fun k hk => .inl hk⟩
def freshB (l : List PastE) (t : Nat) (tick : Int) : Bool := decide (t = l.length - 1) || decide (tick ≤ (l[t + 1]?.map PastE.tick).getD 0)
theorem rfresh (w : World) (b : Nat) (R : RefS) (t : Nat) (tick : Int) (h : Ref w b R) (hf : R.Fit) (ht : t < R.past.length) :
 Calls Tryz.prog 84 #[.pointer (some ⟨b, 0, none⟩), .int .u64 t, .int .i64 tick] w fun e w' => e = .returned (.bool (freshB R.past t tick)) ∧ w = w' := by
 have hp := hf.pos
 have hm := hf.pmax
 obtain ⟨g, cap, hv, ho, _⟩ := h.past.block hp
 have c0 := h.c0
 rw [hv] at c0
 have hn := fun W (hW : Ref W b R) => rnewest W b R hW hf
 have HN : Hid (∀ W, Ref W b R → Calls Tryz.prog 77 #[.pointer (some ⟨b, 0, none⟩)] W fun e w' => e = .returned (.int .u64 ((R.past.length - 1 : Nat) : Int)) ∧ W = w') := hn
 have HR : Hid (Ref w b R) := h
 by_cases hc : t = R.past.length - 1
 · have hb : (((t : Int)) == ((R.past.length - 1 : Nat) : Int)) = true := beq_iff_eq.mpr (by omega)
   have HF : Hid (freshB R.past t tick = true) := by simp [Hid, freshB, hc]
   clear hc h hf hv hn ho
   go_enter Tryz.func84, Tryz.ntmps84
   go_wp2_with (go_at_call 77; refine (HN.out _ HR.out).mono ?_; rintro e w' ⟨rfl, rfl⟩)
   go_ret
   exact ⟨rt_bool (by rw [HF.out]), rfl⟩
 · have hb : (((t : Int)) == ((R.past.length - 1 : Nat) : Int)) = false := beq_eq_false_iff_ne.mpr (by omega)
   have hlt : t + 1 < R.past.length := by omega
   have hcell := h.past.cell ho ((t + 1) * 10 + 9) _ (by rw [past_at R.past (t + 1) hlt 9 (by omega)]; rfl)
   obtain ⟨tk, htk⟩ : ∃ tk, tk = R.past[t + 1].tick := ⟨_, rfl⟩
   rw [← htk] at hcell
   have HF : Hid (freshB R.past t tick = decide (tick ≤ tk)) := by simp [Hid, freshB, hc, List.getElem?_eq_getElem hlt, htk]
   clear hc h hf hv hn ho htk
   go_enter Tryz.func84, Tryz.ntmps84
   go_wp2_with (go_at_call 77; refine (HN.out _ HR.out).mono ?_; rintro e w' ⟨rfl, rfl⟩)
   go_ret
   exact ⟨rt_bool (by rw [HF.out]), rfl⟩
def goneB (l : List RdrE) (r : Int) : Bool := decide (r < 0) || decide ((l.length : Int) ≤ r) || (l[r.toNat]?.map RdrE.ended).getD false
theorem rgone (w : World) (b : Nat) (R : RefS) (r : Int) (h : Ref w b R) (hf : R.Fit) :
 Calls Tryz.prog 86 #[.pointer (some ⟨b, 0, none⟩), .int .i64 r] w fun e w' => e = .returned (.bool (goneB R.rdrs r)) ∧ w = w' := by
 have hm := hf.rmax
 obtain ⟨ao, cap, hv, _⟩ := h.rdrs.form
 have c2 := h.c2
 rw [hv] at c2
 by_cases h0 : r < 0
 · have hd : decide (r < 0) = true := by simpa using h0
   have HF : Hid (goneB R.rdrs r = true) := by simp [Hid, goneB, h0]
   clear h hf hv
   go_enter Tryz.func86, Tryz.ntmps86
   go_wp2
   go_ret
   exact ⟨rt_bool (by rw [HF.out]), rfl⟩
 · have hd : decide (r < 0) = false := by simpa using h0
   by_cases h1 : (R.rdrs.length : Int) ≤ r
   · have hd1 : decide ((R.rdrs.length : Int) ≤ r) = true := by simpa using h1
     have HF : Hid (goneB R.rdrs r = true) := by simp [Hid, goneB, h1]
     clear h hf hv
     go_enter Tryz.func86, Tryz.ntmps86
     go_wp2
     go_ret
     exact ⟨rt_bool (by rw [HF.out]), rfl⟩
   · have hd1 : decide ((R.rdrs.length : Int) ≤ r) = false := by simpa using h1
     obtain ⟨j, rfl⟩ : ∃ j : Nat, r = j := ⟨r.toNat, by omega⟩
     have hlt : j < R.rdrs.length := by omega
     obtain ⟨g, cap', hv', ho, _⟩ := h.rdrs.block (by omega)
     rw [hv] at hv'
     injection hv' with e1 _ e2
     subst e1
     have hcell := h.rdrs.cell ho (j * 3 + 2) _ (by rw [rdr_at R.rdrs j hlt 2 (by omega)]; rfl)
     obtain ⟨en, hen⟩ : ∃ en, en = R.rdrs[j].ended := ⟨_, rfl⟩
     rw [← hen] at hcell
     have HF : Hid (goneB R.rdrs j = en) := by
      have a : ¬ (j : Int) < 0 := by omega
      have c : ¬ (R.rdrs.length : Int) ≤ (j : Int) := by omega
      show goneB R.rdrs j = en
      simp only [goneB, a, c, decide_false, Bool.false_or, Int.toNat_natCast, List.getElem?_eq_getElem hlt, hen]; rfl
     clear h hf hv ho hen
     go_enter Tryz.func86, Tryz.ntmps86
     go_wp2
     go_ret
     exact ⟨rt_bool (by rw [HF.out]), rfl⟩
def RefS.endR (R : RefS) (j : Nat) (x : RdrE) : RefS := { R with rdrs := R.rdrs.set j { x with ended := true } }
theorem Ref.endR {w : World} {b : Nat} {R : RefS} (h : Ref w b R) (j g : Nat) (x : RdrE) (hx : R.rdrs[j]? = some x) (ho : R.vr.ownBlock = some g) : Ref (w.setCell ⟨g, j * 3 + 2, none⟩ (.bool true)) b (R.endR j x) := by
 have k := Kept.setCell w ⟨g, j * 3 + 2, none⟩ (.bool true)
 obtain ⟨hj, hx'⟩ := List.getElem?_eq_some_iff.mp hx
 have e : (R.rdrs.flatMap rdrC).set (j * 3 + 2) (.bool true) = (R.rdrs.set j { x with ended := true }).flatMap rdrC :=
  flat_set rdrC 3 (fun _ => rfl) R.rdrs j hj 2 (by omega) (.bool true) { x with ended := true } (by rw [hx']; rfl)
 refine h.turn 1 ⟨162, 3, R.vr, R.rdrs.length, R.rdrs.flatMap rdrC⟩ ⟨162, 3, R.vr, (R.rdrs.set j { x with ended := true }).length, (R.rdrs.set j { x with ended := true }).flatMap rdrC⟩ rfl (k.mono fun i hi => by show R.vr.ownBlock = some i; rw [ho, hi]) ?_ rfl rfl rfl
 show Row _ _ 3 R.vr (R.rdrs.set j _).length ((R.rdrs.set j _).flatMap rdrC)
 rw [List.length_set, ← e]
 exact h.rdrs.set ho _ _
theorem rend (w : World) (b : Nat) (R : RefS) (r : Int) (h : Ref w b R) (hf : R.Fit) :
 Calls Tryz.prog 37 #[.pointer (some ⟨b, 0, none⟩), .int .i64 r] w fun e w' =>
  (goneB R.rdrs r = true ∧ e = .returned (.tuple #[.agg #[.int .u64 0, .int .u64 0], .int .i64 8]) ∧ Below w.heap.size w w') ∨
  (∃ (j : Nat) (x : RdrE), r = j ∧ R.rdrs[j]? = some x ∧ x.ended = false ∧ e = .returned (.tuple #[.agg #[.int .u64 (x.lo : Int), .int .u64 (x.hi : Int)], .int .i64 0]) ∧ Ref w' b (R.endR j x) ∧ Kept (R.fp b) w w') := by
 have HG : Hid (∀ W, Ref W b R → Calls Tryz.prog 86 #[.pointer (some ⟨b, 0, none⟩), .int .i64 r] W fun e w' => e = .returned (.bool (goneB R.rdrs r)) ∧ W = w') := fun W hW => rgone W b R r hW hf
 have hlt0 := h.lt
 have hb := h.blk.lt
 have hR1 : Ref (w.alloc (.cells #[.int .u64 0, .int .u64 0] 88)) b R := h.kept (Kept.alloc w _ (fun _ => False)) (fun _ _ => id)
 have HR1 : Hid (Ref (w.alloc (.cells #[.int .u64 0, .int .u64 0] 88)) b R) := hR1
 cases hg : goneB R.rdrs r with
 | true =>
  rw [hg] at HG
  clear h hR1 hf hlt0
  go_enter Tryz.func37, Tryz.ntmps37
  go_wp2_with (go_at_call 86; refine (HG.out _ HR1.out).mono ?_; rintro e w' ⟨rfl, rfl⟩)
  refine bodyPost_ret (v := .tuple #[.agg #[.int .u64 0, .int .u64 0], .int .i64 8]) (by simp [results, Tryz.results37, go_sem]) rfl (.inl ⟨by trivial, rfl, ?_⟩)
  exact ((((Below.refl _ _).alloc (Nat.le_refl _) _)))
 | false =>
  rw [hg] at HG
  have hz : ¬ r < 0 := by intro hh; simp [goneB, hh] at hg
  have hz1 : ¬ (R.rdrs.length : Int) ≤ r := by intro hh; simp [goneB, hh] at hg
  obtain ⟨j, rfl⟩ : ∃ j : Nat, r = j := ⟨r.toNat, by omega⟩
  have hlt : j < R.rdrs.length := by omega
  have hm := hf.rmax
  have hen : R.rdrs[j].ended = false := by
   simp only [goneB, hz, hz1, decide_false, Bool.false_or, Int.toNat_natCast, List.getElem?_eq_getElem hlt] at hg; exact hg
  obtain ⟨g, cap, hv, ho, hgl⟩ := h.rdrs.block (by omega)
  have c2 := h.c2
  rw [hv] at c2
  have q0 := h.rdrs.cell ho (j * 3) _ (by have := rdr_at R.rdrs j hlt 0 (by omega); rw [Nat.add_zero] at this; rw [this]; rfl)
  have q1 := h.rdrs.cell ho (j * 3 + 1) _ (by rw [rdr_at R.rdrs j hlt 1 (by omega)]; rfl)
  have q2 := h.rdrs.cell ho (j * 3 + 2) _ (by rw [rdr_at R.rdrs j hlt 2 (by omega)]; rfl)
  have f2 := h.rdrs.free ho (j * 3 + 2)
  have hnb : g ≠ b := fun e => h.rdrs.ne_block h.blk (by decide) (by rw [ho, e])
  obtain ⟨x, hx⟩ : ∃ x, x = R.rdrs[j] := ⟨_, rfl⟩
  rw [← hx] at q0 q1 q2
  have HX : Hid (R.rdrs[j]? = some x ∧ x.ended = false) := ⟨by rw [hx]; exact List.getElem?_eq_getElem hlt, by rw [hx]; exact hen⟩
  have hE := h.endR j g x HX.out.1 ho
  have HE : Hid (∀ c, Ref ((w.setCell ⟨g, j * 3 + 2, none⟩ (.bool true)).alloc c) b (R.endR j x)) := fun c => hE.kept (Kept.alloc _ _ (fun _ => False)) (fun _ _ => id)
  clear hE
  have HO : Hid (R.vr.ownBlock = some g) := ho
  clear h hR1 hf hlt0 hv ho hx hen hg
  go_enter Tryz.func37, Tryz.ntmps37
  go_wp2_with (go_at_call 86; refine (HG.out _ HR1.out).mono ?_; rintro e w' ⟨rfl, rfl⟩)
  refine bodyPost_ret (v := .tuple #[.agg #[.int .u64 (x.lo : Int), .int .u64 (x.hi : Int)], .int .i64 0]) (by simp [results, Tryz.results37, go_sem]) rfl (.inr ⟨j, x, rfl, HX.out.1, HX.out.2, rfl, HE.out _, ?_⟩)
  exact ((Kept.setCell w _ _).mono fun k hk => fp_vr (by rw [HO.out, hk])).trans (Kept.alloc _ _ (fun _ => False)) (fun _ => id) (fun _ _ => False.elim)
theorem openN_snoc (l : List RdrE) (j : Nat) (h : j < l.length) : openN (l.take (j + 1)) = openN (l.take j) + if l[j].ended then 0 else 1 := by
 rw [List.take_succ_eq_append_getElem h, openN, List.filter_append, List.length_append]
 cases hh : l[j].ended <;> simp [openN, hh]
theorem openN_le (l : List RdrE) (j : Nat) : openN (l.take j) ≤ l.length := by
 unfold openN
 exact Nat.le_trans (List.length_filter_le _ _) (by simp; omega)
theorem Tryz.infoReader : (Tryz.prog.info? 162).map (fun i => (i.zero, i.size, i.bytes)) = some (some (.agg #[.int .u64 0, .int .u64 0, .bool false]), 3, 24) := by kernel_rfl
def RefS.beginR (R : RefS) (lo : Nat) (v : Value) : RefS := { R with rdrs := R.rdrs ++ [⟨lo, R.past.length - 1, false⟩], vr := v }
theorem Ref.beginR {w w' : World} {b : Nat} {R : RefS} (h : Ref w b R) (lo : Nat) (v : Value) (hA : Appended w w' 162 3 R.vr v R.rdrs.length 1 (R.rdrs.flatMap rdrC) [.int .u64 (lo : Int), .int .u64 ((R.past.length - 1 : Nat) : Int), .bool false]) :
 Ref (w'.setCell ⟨b, 2, none⟩ v) b (R.beginR lo v) ∧ Kept (R.fp b) w (w'.setCell ⟨b, 2, none⟩ v) ∧ (∀ k, (R.beginR lo v).fp b k → R.fp b k ∨ w.heap.size ≤ k) := by
 refine h.put 1 2 ⟨162, 3, R.vr, R.rdrs.length, R.rdrs.flatMap rdrC⟩ ⟨162, 3, v, (R.rdrs ++ [(⟨lo, R.past.length - 1, false⟩ : RdrE)]).length, (R.rdrs ++ [(⟨lo, R.past.length - 1, false⟩ : RdrE)]).flatMap rdrC⟩ rfl hA.kept ?_ (fun x hx => hA.own.imp (fun e => by show R.vr.ownBlock = some x; rw [← e]; exact hx) (fun e => e x hx)) rfl (by dsimp only; decide) rfl
 show Row _ _ 3 v (R.rdrs ++ [_]).length ((R.rdrs ++ [_]).flatMap rdrC)
 rw [List.length_append, List.flatMap_append]
 exact hA.row
theorem rbegin_bad (w : World) (b : Nat) (limit : Int) (hl : limit < 0 ∨ 100000 < limit) :
 Calls Tryz.prog 35 #[.pointer (some ⟨b, 0, none⟩), .int .i64 limit] w fun e w' => e = .returned (.tuple #[.int .i64 0, .int .i64 10]) ∧ w = w' := by
 by_cases h0 : limit < 0
 · have hd : decide (limit < 0) = true := by simpa using h0
   go_enter Tryz.func35, Tryz.ntmps35
   go_wp2
   go_ret2
   exact ⟨rfl, rfl⟩
 · have hd : decide (limit < 0) = false := by simpa using h0
   have h1 : 100000 < limit := by omega
   go_enter Tryz.func35, Tryz.ntmps35
   go_wp2
   go_ret2
   exact ⟨rfl, rfl⟩
def Least (l : List PastE) (tick : Int) (t : Nat) : Prop := t < l.length ∧ freshB l t tick = true ∧ ∀ i, i < t → freshB l i tick = false
def cellN (w : World) (a : Addr) : Nat := match w.cell? a with
 | some (.int _ n) => n.toNat
 | _ => 0
theorem Ref.drewN {w : World} {b : Nat} {R : RefS} (h : Ref w b R) (n : Nat) : Ref (w.drewN n) b R := h.same fun _ _ => rfl
theorem fresh_last (l : List PastE) (tick : Int) (t : Nat) (h : l.length ≤ t + 1) (ht : t < l.length) : freshB l t tick = true := by
 have : t = l.length - 1 := by omega
 simp [freshB, this]
theorem oneCell_rdr (a b : Int) (c : Bool) : ∀ u ∈ [Value.int .u64 a, Value.int .u64 b, Value.bool c], u.oneCell' = true := by
 intro u hu; simp at hu; rcases hu with rfl | rfl | rfl <;> rfl
theorem cell_three_new (w : World) (a b c : Value) (t : TypeId) : ∀ j u, [a, b, c][j]? = some u → (w.alloc (.cells #[a, b, c] t)).cell? ((⟨w.heap.size, 0, none⟩ : Addr).add j) = some u := by
 intro j u hj
 match j, hj with
 | 0, hj => simp at hj; subst hj; simp [Addr.add]
 | 1, hj => simp at hj; subst hj; simp [Addr.add]
 | 2, hj => simp at hj; subst hj; simp [Addr.add]
 | j + 3, hj => simp at hj
theorem begin_in {W w' : World} {b : Nat} {R : RefS} {v v' : Value} {news : List Value} {n : Nat} {xs : List Value} (h : Ref W b R) (hv : R.vr = v) (hA : Appended W w' 162 3 v v' n 1 xs news) :
 w'.cell? ⟨b, 2, none⟩ = some v ∧ w'.frozen? ⟨b, 2, none⟩ = false := by
 have nb : ¬ v.ownBlock = some b := fun e => h.rdrs.ne_block h.blk (by decide) (by rw [hv, e])
 have blk1 := h.blk.kept hA.kept nb
 exact ⟨by rw [blk1.cell 2, ← hv]; rfl, blk1.free 2⟩
theorem span_next {wr w : World} {j : Nat} {n : Int} {T : TypeId} (h : Blk wr w.heap.size T #[.int .u64 (j : Int), .int .u64 n]) (k : Kept (fun _ => False) w wr) :
 Blk (wr.setCell ⟨w.heap.size, 0, none⟩ (.int .u64 ((j : Int) + 1))) w.heap.size T #[.int .u64 ((j + 1 : Nat) : Int), .int .u64 n] ∧ Kept (fun _ => False) w (wr.setCell ⟨w.heap.size, 0, none⟩ (.int .u64 ((j : Int) + 1))) ∧
 cellN (wr.setCell ⟨w.heap.size, 0, none⟩ (.int .u64 ((j : Int) + 1))) ⟨w.heap.size, 0, none⟩ = j + 1 := by
 have hb := h.set 0 (.int .u64 ((j : Int) + 1))
 have e : (#[.int .u64 (j : Int), .int .u64 n] : Array Value).setIfInBounds 0 (.int .u64 ((j : Int) + 1)) = #[.int .u64 ((j + 1 : Nat) : Int), .int .u64 n] := by simp
 rw [e] at hb
 refine ⟨hb, k.trans (Kept.setCell _ _ _) (fun _ => id) (fun i hi he => by simp at he; omega), ?_⟩
 have hc := hb.cell 0
 simp at hc
 simp [cellN, hc]
def BeginPost (w : World) (b : Nat) (R : RefS) (limit : Int) (e : Ending) (w' : World) : Prop :=
 (6 ≤ openN R.rdrs ∧ e = .returned (.tuple #[.int .i64 0, .int .i64 7]) ∧ w = w') ∨
 (openN R.rdrs < 6 ∧ 200 ≤ R.rdrs.length ∧ e = .returned (.tuple #[.int .i64 0, .int .i64 6]) ∧ w = w') ∨
 (openN R.rdrs < 6 ∧ R.rdrs.length < 200 ∧ ∃ lo v, Least R.past (R.clock - limit) lo ∧ e = .returned (.tuple #[.int .i64 (R.rdrs.length : Int), .int .i64 0]) ∧ Ref w' b (R.beginR lo v) ∧ Kept (R.fp b) w w' ∧
  (∀ k, (R.beginR lo v).fp b k → R.fp b k ∨ w.heap.size ≤ k))
theorem rbegin (w : World) (b : Nat) (R : RefS) (limit : Int) (h : Ref w b R) (hf : R.Fit) (hl0 : 0 ≤ limit) (hl1 : limit ≤ 100000) :
 Calls Tryz.prog 35 #[.pointer (some ⟨b, 0, none⟩), .int .i64 limit] w fun e w' => BeginPost w b R limit e w' := by
 have hm := hf.rmax
 have hc0 := hf.clk0
 have hc1 := hf.clk1
 obtain ⟨ao, cap, hv, hno⟩ := h.rdrs.form
 have c2 := h.c2
 rw [hv] at c2
 have HR : Hid (Ref w b R) := h
 have HF : Hid R.Fit := hf
 have HV : Hid (R.vr = .slice ao R.rdrs.length cap) := hv
 have HCELL : Hid (∀ k (hk : k < R.rdrs.length), ∃ g, ao = some ⟨g, 0, none⟩ ∧ w.cell? ⟨g, k * 3 + 2, none⟩ = some (.bool R.rdrs[k].ended)) := by
  intro k hk
  obtain ⟨g, cap', hv', ho, _⟩ := h.rdrs.block (by omega)
  rw [hv] at hv'
  injection hv' with e1 _ _
  exact ⟨g, e1, h.rdrs.cell ho (k * 3 + 2) _ (by rw [rdr_at R.rdrs k hk 2 (by omega)]; rfl)⟩
 clear h hf hv hno
 go_enter Tryz.func35, Tryz.ntmps35
 go_wp2
 go_loop [6, 7] (fun n i => ∃ k : Nat, k ≤ R.rdrs.length ∧ i = .int .i64 k ∧ n = .int .i64 (openN (R.rdrs.take k) : Nat)) (fun _ i => R.rdrs.length - (intOf i).toNat)
 case atStart => exact ⟨0, Nat.zero_le _, rfl, rfl⟩
 case round =>
  obtain ⟨k, hk, rfl, rfl⟩ := hrel
  have ho := openN_le R.rdrs k
  by_cases hlt : k < R.rdrs.length
  · obtain ⟨g, hg, hcell⟩ := HCELL.out k hlt
    have hs := openN_snoc R.rdrs k hlt
    cases hen : R.rdrs[k].ended with
    | true =>
     rw [hen] at hcell
     have HS : Hid (openN (R.rdrs.take (k + 1)) = openN (R.rdrs.take k)) := by show _ = _; rw [hen] at hs; simpa using hs
     clear hs hen
     rw [hg] at c2
     go_wp2
     go_round
     case rel => exact ⟨k + 1, by omega, by go_num, by rw [HS.out]⟩
     case measure => simp [intOf]; omega
    | false =>
     rw [hen] at hcell
     have HS : Hid (openN (R.rdrs.take (k + 1)) = openN (R.rdrs.take k) + 1) := by show _ = _; rw [hen] at hs; simpa using hs
     clear hs hen
     rw [hg] at c2
     go_wp2
     go_round
     case rel => exact ⟨k + 1, by omega, by go_num, by rw [HS.out]; go_num⟩
     case measure => simp [intOf]; omega
  · have hk' : k = R.rdrs.length := by omega
    subst hk'
    rw [List.take_length] at ho ⊢
    by_cases h6 : 6 ≤ openN R.rdrs
    · go_wp2
      go_ret2
      exact .inl ⟨h6, rfl, rfl⟩
    · by_cases h200 : 200 ≤ R.rdrs.length
      · go_wp2
        go_ret2
        exact .inr (.inl ⟨by omega, h200, rfl, rfl⟩)
      · go_wp2_with (go_at_call 77; refine (rnewest _ b R HR.out HF.out).mono ?_; rintro e w' ⟨rfl, rfl⟩)
        have hp1 := HF.out.pmax
        have hp0 := HF.out.pos
        obtain ⟨i0, hi, hz0, hz1, hz2⟩ := info_parts Tryz.infoReader
        have HI : Hid (Tryz.prog.info? 162 = some i0 ∧ i0.zero = some (.agg #[.int .u64 0, .int .u64 0, .bool false]) ∧ i0.size = 3 ∧ i0.bytes = 24) := ⟨hi, hz0, hz1, hz2⟩
        clear hi hz0 hz1 hz2
        go_loopw [9] (fun _ wr => ∃ j : Nat, j < R.past.length ∧ Hid (∀ i, i < j → freshB R.past i (R.clock - limit) = false) ∧ Hid (Blk wr w.heap.size 88 #[.int .u64 (j : Int), .int .u64 ((R.past.length - 1 : Nat) : Int)]) ∧ Hid (Kept (fun _ => False) w wr) ∧ w.heap.size < wr.heap.size)
         (fun _ wr => R.past.length - cellN wr ⟨w.heap.size, 0, none⟩)
        case atStart => exact ⟨0, hp0, fun i hi => absurd hi (Nat.not_lt_zero _), Blk.new _ _ _, Kept.alloc _ _ _, by simp⟩
        case round =>
         obtain ⟨j, hj, HFr, HB, HK, hz⟩ := hrel
         have HRr : Hid (Ref wr b R) := HR.out.kept HK.out (fun _ _ => id)
         have q0 := HB.out.cell 0
         have q1 := HB.out.cell 1
         have qf := HB.out.free 0
         simp at q0 q1
         have d1 := HRr.out.c1
         have d2 := HRr.out.c2
         rw [HV.out] at d2
         have HFC := fun n => rfresh (wr.drewN n) b R j (R.clock - limit) (HRr.out.drewN n) HF.out hj
         have hms : cellN wr ⟨w.heap.size, 0, none⟩ = j := by simp [cellN, q0]
         clear c2
         cases hfr : freshB R.past j (R.clock - limit) with
         | true =>
          rw [hfr] at HFC
          have HC : Hid (∀ n, Calls Tryz.prog 84 #[.pointer (some ⟨b, 0, none⟩), .int .u64 j, .int .i64 (R.clock - limit)] (wr.drewN n) fun e w' => e = .returned (.bool true) ∧ w' = wr.drewN n) := fun n => (HFC n).mono fun _ _ h => ⟨h.1, h.2.symm⟩
          have HL : Hid (freshB R.past j (R.clock - limit) = true) := hfr
          clear HFC hfr hms
          go_wp2_with fail
          go_quiet ((go_at_call 84; exact Calls.quiet_of_same (HC.out _)))
          go_wp2
          have HRW : Hid (∀ W : World, (∀ k, k < wr.heap.size → W.heap[k]? = wr.heap[k]?) → Ref W b R) := fun W hW => HRr.out.same fun k hk => hW k (HRr.out.lt k hk)
          have hbb : b < wr.heap.size := HRr.out.blk.lt
          have HOwn : Hid (∀ W : World, (∀ k, k < wr.heap.size → W.heap[k]? = wr.heap[k]?) → Row W 162 3 (.slice ao R.rdrs.length cap) R.rdrs.length (R.rdrs.flatMap rdrC)) := fun W hW => by rw [← HV.out]; exact (HRW.out W hW).rdrs
          have b1 : R.rdrs.length + 1 ≤ maxLen := by unfold maxLen; omega
          have b2 : (R.rdrs.length + 1) * 24 ≤ 140737488355328 := by omega
          have HALL : Hid (∀ (m : Nat) (o : Obj) (k : Nat), k < wr.heap.size → ((wr.drewN m).alloc o).heap[k]? = wr.heap[k]?) := fun m o k hk => Below.heap_alloc (wr.drewN m) o k hk
          have dA : ∀ (m : Nat) (o : Obj), ((wr.drewN m).alloc o).cell? ⟨b, 2, none⟩ = some (.slice ao R.rdrs.length cap) := fun m o => by rw [(HRW.out _ (HALL.out m o)).c2, HV.out]
          go_region_law (refine step_append_mine rfl (.tmp 66) (.tmp 69) 81 rfl 162 i0 (.agg #[.int .u64 0, .int .u64 0, .bool false]) 3 24 Tryz.underlying81 HI.out.1 HI.out.2.1 HI.out.2.2.1 HI.out.2.2.2 rfl (Nat.succ_pos 2) (.slice ao R.rdrs.length cap) R.rdrs.length (R.rdrs.flatMap rdrC) rfl (HOwn.out _ (HALL.out _ _)) ⟨wr.heap.size, 0, none⟩ 1 1 [.int .u64 j, .int .u64 ((R.past.length - 1 : Nat) : Int), .bool false] rfl rfl (cell_three_new (wr.drewN _) _ _ _ _) (oneCell_rdr _ _ _) b1 b2 ?_; intro v' w' hA; obtain ⟨k2, k2f⟩ := begin_in (HRW.out _ (HALL.out _ _)) HV.out hA; obtain ⟨ao', cap', hv', _⟩ := hA.row.form; subst hv')
          all_goals
           rw [← HV.out] at hA
           obtain ⟨z1, z2, z3⟩ := Ref.beginR (HRW.out _ (HALL.out _ _)) j _ hA
           have HZ : Hid (Ref (w'.setCell ⟨b, 2, none⟩ (.slice ao' (R.rdrs.length + 1) cap')) b (R.beginR j (.slice ao' (R.rdrs.length + 1) cap')) ∧ Kept (R.fp b) w (w'.setCell ⟨b, 2, none⟩ (.slice ao' (R.rdrs.length + 1) cap')) ∧ (∀ k, (R.beginR j (.slice ao' (R.rdrs.length + 1) cap')).fp b k → R.fp b k ∨ w.heap.size ≤ k)) := by
            refine ⟨z1, ((HK.out.drewN _).trans (Kept.alloc _ _ (fun _ => False)) (fun _ => id) (fun _ _ => id)).trans z2 (fun _ => False.elim) (fun _ _ => id), fun k hk => (z3 k hk).imp id fun hh => ?_⟩
            simp only [World.size_alloc] at hh
            have h2 := HK.out.size
            have h3 : wr.heap.size + 1 ≤ k := hh
            omega
           clear z1 z2 z3 hA dA d1 d2 q0 q1 qf
           go_wp2
           go_ret2
           exact .inr (.inr ⟨by omega, by omega, j, _, ⟨hj, HL.out, HFr.out⟩, rfl, HZ.out⟩)
         | false =>
          rw [hfr] at HFC
          have HC : Hid (∀ n, Calls Tryz.prog 84 #[.pointer (some ⟨b, 0, none⟩), .int .u64 j, .int .i64 (R.clock - limit)] (wr.drewN n) fun e w' => e = .returned (.bool false) ∧ w' = wr.drewN n) := fun n => (HFC n).mono fun _ _ h => ⟨h.1, h.2.symm⟩
          have hjl : j + 1 < R.past.length := by
           by_cases hh : j + 1 < R.past.length
           · exact hh
           · rw [fresh_last R.past _ j (by omega) hj] at hfr; cases hfr
          have HL : Hid (freshB R.past j (R.clock - limit) = false) := hfr
          have HMS : Hid (cellN wr ⟨w.heap.size, 0, none⟩ = j) := hms
          clear HFC hfr hms
          go_wp2_with fail
          go_quiet ((go_at_call 84; exact Calls.quiet_of_same (HC.out _)))
          go_wp2
          obtain ⟨s1, s2, s3⟩ := span_next (wr := wr.drewN nq) (HB.out.same rfl) (HK.out.drewN _)
          go_roundw
          case rel =>
           refine ⟨j + 1, hjl, fun i hi => ?_, s1, s2, by simpa using hz⟩
           by_cases he : i = j
           · rw [he]; exact HL.out
           · exact HFr.out i (by omega)
          case measure => rw [s3, HMS.out]; omega
end Go.Proofs.YtpfcacedpkaihaaGreat
