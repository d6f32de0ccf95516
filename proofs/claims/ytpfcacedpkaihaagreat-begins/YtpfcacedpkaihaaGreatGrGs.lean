import Derived.Test.YtpfcacedpkaihaaGreatDt
import Derived.Deep.DeepCutAuto
import Derived.Deep.DrawnRows
/- Lists that are made anew, element by element (nothing of the program stands here); the pairs of messages and histories. -/
namespace Go.Proofs.YtpfcacedpkaihaaGreat
open Go.RowKit

/-- a list that is being made: all of it is new. -/
structure Grow {α : Type} (T : TypeId) (size : Nat) (C : α → List Value) (w wr : World) (v : Value) (l : List α) : Prop where
  row : Row wr T size v l.length (l.flatMap C)
  kept : Kept (fun _ => False) w wr
  new : ∀ k, v.ownBlock = some k → w.heap.size ≤ k

theorem Grow.start {α : Type} (T : TypeId) (size : Nat) (C : α → List Value) (w : World) : Grow T size C w w (.slice none 0 0) [] := ⟨Row.nil _ _ _, Kept.refl _ _, fun _ hk => nil_own hk⟩
theorem Grow.more {α : Type} {T : TypeId} {size : Nat} {C : α → List Value} {w wr w' : World} {v : Value} {l : List α} (h : Grow T size C w wr v l) (hk : Kept (fun _ => False) wr w') : Grow T size C w w' v l :=
  ⟨h.row.kept hk (fun _ _ => id), h.kept.trans hk (fun _ => id) (fun _ _ => id), h.new⟩
theorem Grow.next {α : Type} {T : TypeId} {size : Nat} {C : α → List Value} {w wr w' : World} {v v' : Value} {l : List α} {x : α} (h : Grow T size C w wr v l) (hA : Appended wr w' T size v v' l.length 1 (l.flatMap C) (C x)) : Grow T size C w w' v' (l ++ [x]) := by
  refine ⟨by rw [List.length_append, List.flatMap_append]; simpa using hA.row, h.kept.trans hA.kept (fun _ => id) (fun k hk he => by have := h.new k he; omega), fun k hk => ?_⟩
  rcases hA.own with e | e
  · exact h.new k (by rw [← e]; exact hk)
  · exact Nat.le_trans h.kept.size (e k hk)
/-- the list is put in a node's row's place. -/
theorem Grow.own {α : Type} {T : TypeId} {size : Nat} {C : α → List Value} {w wr : World} {v : Value} {l : List α} (h : Grow T size C w wr v l) {P : Nat → Prop} : ∀ x, v.ownBlock = some x → P x ∨ w.heap.size ≤ x := fun x hx => .inr (h.new x hx)

theorem oneCell_pair (x : Nat × Int) : ∀ u ∈ histC x, u.oneCell' = true := by
  intro u hu; simp [histC] at hu; rcases hu with rfl | rfl <;> rfl
theorem news_pair (w : World) (x : Nat × Int) (t : TypeId) : ∀ j u, (histC x)[j]? = some u → (w.alloc (.cells #[.int .u64 (x.1 : Int), .int .u8 x.2] t)).cell? ((⟨w.heap.size, 0, none⟩ : Addr).add j) = some u := by
  intro j u hj
  have e' : (⟨w.heap.size, 0, none⟩ : Addr).add j = ⟨w.heap.size, j, none⟩ := by cases j <;> simp [Addr.add]
  rw [e', World.cell?_alloc_at _ _ _ _ rfl]
  simpa [histC] using hj
theorem oneCell_held (x : HeldE) : ∀ u ∈ heldC x, u.oneCell' = true := by
  intro u hu; simp [heldC] at hu; rcases hu with rfl | rfl | rfl | rfl | rfl | rfl | rfl <;> rfl
theorem news_held (w : World) (x : HeldE) (t : TypeId) : ∀ j u, (heldC x)[j]? = some u → (w.alloc (.cells #[.string x.e.q, .int .i32 x.e.val, .int .u64 (x.e.fr : Int), .int .u64 (x.e.till : Int), .bool x.e.op, .int .u64 (x.e.kn : Int), .int .u64 (x.used : Int)] t)).cell? ((⟨w.heap.size, 0, none⟩ : Addr).add j) = some u := by
  intro j u hj
  have e' : (⟨w.heap.size, 0, none⟩ : Addr).add j = ⟨w.heap.size, j, none⟩ := by cases j <;> simp [Addr.add]
  rw [e', World.cell?_alloc_at _ _ _ _ rfl]
  simpa [heldC] using hj

theorem Tryz.infoHist : (Tryz.prog.info? 244).map (fun i => (i.zero, i.size, i.bytes)) = some (some (.agg #[.int .u64 0, .int .u8 0]), 2, 16) := by kernel_rfl
theorem Tryz.infoSent : (Tryz.prog.info? 192).map (fun i => (i.zero, i.size, i.bytes)) = some (some (.agg #[.int .u64 0, .int .u8 0]), 2, 16) := by kernel_rfl
theorem Tryz.infoHeld : (Tryz.prog.info? 227).map (fun i => (i.zero, i.size, i.bytes)) = some (some (.agg #[.string ByteArray.empty, .int .i32 0, .int .u64 0, .int .u64 0, .bool false, .int .u64 0, .int .u64 0]), 7, 64) := by kernel_rfl

/-- a list without its element i, of which the first k are looked at. -/
def tkL {α : Type} (l : List α) (i k : Nat) : List α := (l.take k).eraseIdx i
theorem tkL_all {α : Type} (l : List α) (i : Nat) : tkL l i l.length = l.eraseIdx i := by rw [tkL, List.take_length]
theorem tkL_skip {α : Type} (l : List α) (i : Nat) (h : i < l.length) : tkL l i (i + 1) = tkL l i i := by
  have hl : (l.take i).length = i := by rw [List.length_take]; omega
  have e2 : (l.take i).eraseIdx i = l.take i := List.eraseIdx_of_length_le (by omega)
  have e1 : (l.take i ++ [l[i]]).eraseIdx i = l.take i ++ [l[i]].eraseIdx (i - (l.take i).length) := List.eraseIdx_append_of_length_le (by omega) _
  rw [hl, Nat.sub_self] at e1
  unfold tkL
  rw [List.take_succ_eq_append_getElem h, e1, e2]
  simp
theorem tkL_next {α : Type} (l : List α) (i k : Nat) (hk : k < l.length) (hne : k ≠ i) : tkL l i (k + 1) = tkL l i k ++ [l[k]] := by
  unfold tkL
  rw [List.take_succ_eq_append_getElem hk]
  by_cases h : i < k
  · rw [List.eraseIdx_append_of_lt_length (by simp; omega)]
  · rw [List.eraseIdx_of_length_le (by simp; omega), List.eraseIdx_of_length_le (by simp; omega)]
theorem tkL_len {α : Type} (l : List α) (i k : Nat) : (tkL l i k).length ≤ l.length := by
  unfold tkL
  have h1 := List.length_eraseIdx_le (l.take k) i
  have h2 : (l.take k).length ≤ l.length := by rw [List.length_take]; omega
  omega
theorem filter_take {α : Type} (l : List α) (f : α → Bool) (k : Nat) (hk : k < l.length) : (l.take (k + 1)).filter f = (l.take k).filter f ++ if f l[k] then [l[k]] else [] := by
  rw [List.take_succ_eq_append_getElem hk, List.filter_append]
  congr 1
  cases h : f l[k] <;> simp [h]
theorem filter_len {α : Type} (l : List α) (f : α → Bool) (k : Nat) : ((l.take k).filter f).length ≤ l.length := by
  have h1 := List.length_filter_le f (l.take k)
  have h2 : (l.take k).length ≤ l.length := by rw [List.length_take]; omega
  omega

end Go.Proofs.YtpfcacedpkaihaaGreat

/- Appends to a node's rows, and what they leave of the world. -/
namespace Go.Proofs.YtpfcacedpkaihaaGreat
open Go.RowKit

theorem Appended.from {W W1 w' : World} {T : TypeId} {size : Nat} {v v' : Value} {n m : Nat} {xs news : List Value} (hk : Kept (fun _ => False) W W1) (h : Appended W1 w' T size v v' n m xs news) : Appended W w' T size v v' n m xs news :=
  ⟨h.row, hk.trans h.kept (fun _ => False.elim) (fun _ _ => id), h.own.imp id fun hh k hk' => Nat.le_trans hk.size (hh k hk')⟩
theorem Appended.new {W w' : World} {T : TypeId} {size : Nat} {v v' : Value} {n m : Nat} {xs news : List Value} (h : Appended W w' T size v v' n m xs news) : ∀ x, v'.ownBlock = some x → v.ownBlock = some x ∨ W.heap.size ≤ x := fun x hx => h.own.imp (fun e => by rw [← e]; exact hx) (fun e => e x hx)

/-- behind an append to a row of a node: the node's cells are as they were. -/
theorem Dev.appIn {W W1 w' : World} {b k g : Nat} {D : DevS} {nd : DNodeE} {T : TypeId} {size : Nat} {v v' : Value} {n m : Nat} {xs news : List Value} (h : Dev W b D) (hnd : D.nodes[k]? = some nd) (ho : D.vn.ownBlock = some g) (f : Nat) (r : RowD) (hr : (dnodeR nd)[f]? = some r) (hv : r.v = v) (hk : Kept (fun _ => False) W W1) (hA : Appended W1 w' T size v v' n m xs news) :
    (∀ c u, c < 8 → (dnodeC nd)[c]? = some u → w'.cell? ⟨g, k * 8 + c, none⟩ = some u) ∧ (∀ i, w'.frozen? ⟨g, i, none⟩ = false) ∧ Appended W w' T size v v' n m xs news := by
  have hA' := Appended.from hk hA
  have hm := dnodeR_mem' hnd hr
  obtain ⟨hkl, hnd'⟩ := List.getElem?_eq_some_iff.mp hnd
  have hrn : Row w' 139 8 D.vn D.nodes.length (D.nodes.flatMap dnodeC) := h.nodes.kept hA'.kept fun j hj he => (h.all.row r hm).ne_row h.nodes (dnodeR_ne (List.mem_of_getElem? hr)) j (by rw [hv]; exact he) hj
  exact ⟨fun c u hc hu => hrn.cell ho _ u (by rw [dnode_at D.nodes k hkl c hc, hnd']; exact hu), fun i => hrn.free ho i, hA'⟩

/-- a node's history is another. -/
theorem Dev.putHists {w wr : World} {b k g : Nat} {D : DevS} {nd : DNodeE} (h : Dev w b D) (hnd : D.nodes[k]? = some nd) (ho : D.vn.ownBlock = some g) (l : List (Nat × Int)) (v : Value) (hk : Kept (fun j => nd.hs.ownBlock = some j) w wr) (hr : Row wr 244 2 v l.length (l.flatMap histC)) (hw : ∀ x, v.ownBlock = some x → nd.hs.ownBlock = some x ∨ w.heap.size ≤ x) : DBecame w b D (wr.setCell ⟨g, k * 8 + 3, none⟩ v) (D.putN k { nd with p := { nd.p with hists := l }, hs := v }) :=
  h.rowN hnd ho 0 3 (by omega) (by omega) ⟨244, 2, nd.hs, nd.p.hists.length, nd.p.hists.flatMap histC⟩ ⟨244, 2, v, l.length, l.flatMap histC⟩ v rfl rfl rfl hk hr hw
theorem Dev.putWaits {w wr : World} {b k g : Nat} {D : DevS} {nd : DNodeE} (h : Dev w b D) (hnd : D.nodes[k]? = some nd) (ho : D.vn.ownBlock = some g) (l : List (Nat × Int)) (v : Value) (hk : Kept (fun j => nd.wt.ownBlock = some j) w wr) (hr : Row wr 244 2 v l.length (l.flatMap histC)) (hw : ∀ x, v.ownBlock = some x → nd.wt.ownBlock = some x ∨ w.heap.size ≤ x) : DBecame w b D (wr.setCell ⟨g, k * 8 + 4, none⟩ v) (D.putN k { nd with p := { nd.p with waits := l }, wt := v }) :=
  h.rowN hnd ho 1 4 (by omega) (by omega) ⟨244, 2, nd.wt, nd.p.waits.length, nd.p.waits.flatMap histC⟩ ⟨244, 2, v, l.length, l.flatMap histC⟩ v rfl rfl rfl hk hr hw
theorem Dev.putEnts {w wr : World} {b k g : Nat} {D : DevS} {nd : DNodeE} (h : Dev w b D) (hnd : D.nodes[k]? = some nd) (ho : D.vn.ownBlock = some g) (l : List HeldE) (v : Value) (hk : Kept (fun j => nd.en.ownBlock = some j) w wr) (hr : Row wr 227 7 v l.length (l.flatMap Go.Proofs.YtpfcacedpkaihaaGreat.heldC)) (hw : ∀ x, v.ownBlock = some x → nd.en.ownBlock = some x ∨ w.heap.size ≤ x) : DBecame w b D (wr.setCell ⟨g, k * 8 + 5, none⟩ v) (D.putN k { nd with p := { nd.p with ents := l }, en := v }) :=
  h.rowN hnd ho 2 5 (by omega) (by omega) ⟨227, 7, nd.en, nd.p.ents.length, nd.p.ents.flatMap Go.Proofs.YtpfcacedpkaihaaGreat.heldC⟩ ⟨227, 7, v, l.length, l.flatMap Go.Proofs.YtpfcacedpkaihaaGreat.heldC⟩ v rfl rfl rfl hk hr hw
theorem Dev.putFl {w wr : World} {b k g : Nat} {D : DevS} {nd : DNodeE} (h : Dev w b D) (hnd : D.nodes[k]? = some nd) (ho : D.vn.ownBlock = some g) (l : List (Nat × Int)) (v : Value) (hk : Kept (fun j => nd.fl.ownBlock = some j) w wr) (hr : Row wr 192 2 v l.length (l.flatMap histC)) (hw : ∀ x, v.ownBlock = some x → nd.fl.ownBlock = some x ∨ w.heap.size ≤ x) : DBecame w b D (wr.setCell ⟨g, k * 8 + 7, none⟩ v) (D.putN k { nd with p := { nd.p with flight := l }, fl := v }) :=
  h.rowN hnd ho 3 7 (by omega) (by omega) ⟨192, 2, nd.fl, nd.p.flight.length, nd.p.flight.flatMap histC⟩ ⟨192, 2, v, l.length, l.flatMap histC⟩ v rfl rfl rfl hk hr hw
theorem row_snoc {α : Type} {w : World} {T : TypeId} {size : Nat} {C : α → List Value} {v : Value} {l : List α} {x : α} (h : Row w T size v (l.length + 1) (l.flatMap C ++ C x)) : Row w T size v (l ++ [x]).length ((l ++ [x]).flatMap C) := by
  rw [List.length_append, List.flatMap_append]; simpa using h

end Go.Proofs.YtpfcacedpkaihaaGreat
