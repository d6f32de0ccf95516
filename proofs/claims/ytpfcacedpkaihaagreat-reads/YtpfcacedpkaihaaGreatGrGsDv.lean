import Derived.Test.YtpfcacedpkaihaaGreatDsDt
import Derived.Deep.DeepCutAuto
import Derived.Deep.DrawnRows
/- Lists that are made anew, element by element (nothing of the program stands here); the pairs of messages and histories. -/
namespace Go.Proofs.YtpfcacedpkaihaaGreat
open Go.RowKit

/-- a list that is being made: all of it is new. -/
structure Grow {α : Type} (T : TypeId) (size : Nat) (C : α → List Value) (w wr : World) (v : Value) (l : List α) : Prop where
  row : Row wr T size v l.length (l.flatMap C)
  kept : Kept (fun _ => False) w wr
  new : ∀ k, v.ownBlock = some k → w.heap.size ≤ k

theorem Grow.start {α : Type} (T : TypeId) (size : Nat) (C : α → List Value) (w : World) : Grow T size C w w (.slice none 0 0) [] := ⟨Row.nil _ _ _, Kept.refl _ _, fun _ hk => nil_own hk⟩
theorem Grow.more {α : Type} {T : TypeId} {size : Nat} {C : α → List Value} {w wr w' : World} {v : Value} {l : List α} (h : Grow T size C w wr v l) (hk : Kept (fun _ => False) wr w') : Grow T size C w w' v l :=
  ⟨h.row.kept hk (fun _ _ => id), h.kept.trans hk (fun _ => id) (fun _ _ => id), h.new⟩
theorem Grow.next {α : Type} {T : TypeId} {size : Nat} {C : α → List Value} {w wr w' : World} {v v' : Value} {l : List α} {x : α} (h : Grow T size C w wr v l) (hA : Appended wr w' T size v v' l.length 1 (l.flatMap C) (C x)) : Grow T size C w w' v' (l ++ [x]) := by
  refine ⟨by rw [List.length_append, List.flatMap_append]; simpa using hA.row, h.kept.trans hA.kept (fun _ => id) (fun k hk he => by have := h.new k he; omega), fun k hk => ?_⟩
  rcases hA.own with e | e
  · exact h.new k (by rw [← e]; exact hk)
  · exact Nat.le_trans h.kept.size (e k hk)
/-- the list is put in a node's row's place. -/
theorem Grow.own {α : Type} {T : TypeId} {size : Nat} {C : α → List Value} {w wr : World} {v : Value} {l : List α} (h : Grow T size C w wr v l) {P : Nat → Prop} : ∀ x, v.ownBlock = some x → P x ∨ w.heap.size ≤ x := fun x hx => .inr (h.new x hx)

theorem oneCell_pair (x : Nat × Int) : ∀ u ∈ histC x, u.oneCell' = true := by
  intro u hu; simp [histC] at hu; rcases hu with rfl | rfl <;> rfl
theorem news_pair (w : World) (x : Nat × Int) (t : TypeId) : ∀ j u, (histC x)[j]? = some u → (w.alloc (.cells #[.int .u64 (x.1 : Int), .int .u8 x.2] t)).cell? ((⟨w.heap.size, 0, none⟩ : Addr).add j) = some u := by
  intro j u hj
  have e' : (⟨w.heap.size, 0, none⟩ : Addr).add j = ⟨w.heap.size, j, none⟩ := by cases j <;> simp [Addr.add]
  rw [e', World.cell?_alloc_at _ _ _ _ rfl]
  simpa [histC] using hj
theorem oneCell_held (x : HeldE) : ∀ u ∈ heldC x, u.oneCell' = true := by
  intro u hu; simp [heldC] at hu; rcases hu with rfl | rfl | rfl | rfl | rfl | rfl | rfl <;> rfl
theorem news_held (w : World) (x : HeldE) (t : TypeId) : ∀ j u, (heldC x)[j]? = some u → (w.alloc (.cells #[.string x.e.q, .int .i32 x.e.val, .int .u64 (x.e.fr : Int), .int .u64 (x.e.till : Int), .bool x.e.op, .int .u64 (x.e.kn : Int), .int .u64 (x.used : Int)] t)).cell? ((⟨w.heap.size, 0, none⟩ : Addr).add j) = some u := by
  intro j u hj
  have e' : (⟨w.heap.size, 0, none⟩ : Addr).add j = ⟨w.heap.size, j, none⟩ := by cases j <;> simp [Addr.add]
  rw [e', World.cell?_alloc_at _ _ _ _ rfl]
  simpa [heldC] using hj

theorem Tryz.infoHist : (Tryz.prog.info? 244).map (fun i => (i.zero, i.size, i.bytes)) = some (some (.agg #[.int .u64 0, .int .u8 0]), 2, 16) := by kernel_rfl
theorem Tryz.infoSent : (Tryz.prog.info? 192).map (fun i => (i.zero, i.size, i.bytes)) = some (some (.agg #[.int .u64 0, .int .u8 0]), 2, 16) := by kernel_rfl
theorem Tryz.infoHeld : (Tryz.prog.info? 227).map (fun i => (i.zero, i.size, i.bytes)) = some (some (.agg #[.string ByteArray.empty, .int .i32 0, .int .u64 0, .int .u64 0, .bool false, .int .u64 0, .int .u64 0]), 7, 64) := by kernel_rfl

/-- a list without its element i, of which the first k are looked at. -/
def tkL {α : Type} (l : List α) (i k : Nat) : List α := (l.take k).eraseIdx i
theorem tkL_all {α : Type} (l : List α) (i : Nat) : tkL l i l.length = l.eraseIdx i := by rw [tkL, List.take_length]
theorem tkL_skip {α : Type} (l : List α) (i : Nat) (h : i < l.length) : tkL l i (i + 1) = tkL l i i := by
  have hl : (l.take i).length = i := by rw [List.length_take]; omega
  have e2 : (l.take i).eraseIdx i = l.take i := List.eraseIdx_of_length_le (by omega)
  have e1 : (l.take i ++ [l[i]]).eraseIdx i = l.take i ++ [l[i]].eraseIdx (i - (l.take i).length) := List.eraseIdx_append_of_length_le (by omega) _
  rw [hl, Nat.sub_self] at e1
  unfold tkL
  rw [List.take_succ_eq_append_getElem h, e1, e2]
  simp
theorem tkL_next {α : Type} (l : List α) (i k : Nat) (hk : k < l.length) (hne : k ≠ i) : tkL l i (k + 1) = tkL l i k ++ [l[k]] := by
  unfold tkL
  rw [List.take_succ_eq_append_getElem hk]
  by_cases h : i < k
  · rw [List.eraseIdx_append_of_lt_length (by simp; omega)]
  · rw [List.eraseIdx_of_length_le (by simp; omega), List.eraseIdx_of_length_le (by simp; omega)]
theorem tkL_len {α : Type} (l : List α) (i k : Nat) : (tkL l i k).length ≤ l.length := by
  unfold tkL
  have h1 := List.length_eraseIdx_le (l.take k) i
  have h2 : (l.take k).length ≤ l.length := by rw [List.length_take]; omega
  omega
theorem filter_take {α : Type} (l : List α) (f : α → Bool) (k : Nat) (hk : k < l.length) : (l.take (k + 1)).filter f = (l.take k).filter f ++ if f l[k] then [l[k]] else [] := by
  rw [List.take_succ_eq_append_getElem hk, List.filter_append]
  congr 1
  cases h : f l[k] <;> simp [h]
theorem filter_len {α : Type} (l : List α) (f : α → Bool) (k : Nat) : ((l.take k).filter f).length ≤ l.length := by
  have h1 := List.length_filter_le f (l.take k)
  have h2 : (l.take k).length ≤ l.length := by rw [List.length_take]; omega
  omega

end Go.Proofs.YtpfcacedpkaihaaGreat

/- Appends to a node's rows, and what they leave of the world. -/
namespace Go.Proofs.YtpfcacedpkaihaaGreat
open Go.RowKit

theorem Appended.from {W W1 w' : World} {T : TypeId} {size : Nat} {v v' : Value} {n m : Nat} {xs news : List Value} (hk : Kept (fun _ => False) W W1) (h : Appended W1 w' T size v v' n m xs news) : Appended W w' T size v v' n m xs news :=
  ⟨h.row, hk.trans h.kept (fun _ => False.elim) (fun _ _ => id), h.own.imp id fun hh k hk' => Nat.le_trans hk.size (hh k hk')⟩
theorem Appended.new {W w' : World} {T : TypeId} {size : Nat} {v v' : Value} {n m : Nat} {xs news : List Value} (h : Appended W w' T size v v' n m xs news) : ∀ x, v'.ownBlock = some x → v.ownBlock = some x ∨ W.heap.size ≤ x := fun x hx => h.own.imp (fun e => by rw [← e]; exact hx) (fun e => e x hx)

/-- behind an append to a row of a node: the node's cells are as they were. -/
theorem Dev.appIn {W W1 w' : World} {b k g : Nat} {D : DevS} {nd : DNodeE} {T : TypeId} {size : Nat} {v v' : Value} {n m : Nat} {xs news : List Value} (h : Dev W b D) (hnd : D.nodes[k]? = some nd) (ho : D.vn.ownBlock = some g) (f : Nat) (r : RowD) (hr : (dnodeR nd)[f]? = some r) (hv : r.v = v) (hk : Kept (fun _ => False) W W1) (hA : Appended W1 w' T size v v' n m xs news) :
    (∀ c u, c < 8 → (dnodeC nd)[c]? = some u → w'.cell? ⟨g, k * 8 + c, none⟩ = some u) ∧ (∀ i, w'.frozen? ⟨g, i, none⟩ = false) ∧ Appended W w' T size v v' n m xs news := by
  have hA' := Appended.from hk hA
  have hm := dnodeR_mem' hnd hr
  obtain ⟨hkl, hnd'⟩ := List.getElem?_eq_some_iff.mp hnd
  have hrn : Row w' 139 8 D.vn D.nodes.length (D.nodes.flatMap dnodeC) := h.nodes.kept hA'.kept fun j hj he => (h.all.row r hm).ne_row h.nodes (dnodeR_ne (List.mem_of_getElem? hr)) j (by rw [hv]; exact he) hj
  exact ⟨fun c u hc hu => hrn.cell ho _ u (by rw [dnode_at D.nodes k hkl c hc, hnd']; exact hu), fun i => hrn.free ho i, hA'⟩

/-- a node's history is another. -/
theorem Dev.putHists {w wr : World} {b k g : Nat} {D : DevS} {nd : DNodeE} (h : Dev w b D) (hnd : D.nodes[k]? = some nd) (ho : D.vn.ownBlock = some g) (l : List (Nat × Int)) (v : Value) (hk : Kept (fun j => nd.hs.ownBlock = some j) w wr) (hr : Row wr 244 2 v l.length (l.flatMap histC)) (hw : ∀ x, v.ownBlock = some x → nd.hs.ownBlock = some x ∨ w.heap.size ≤ x) : DBecame w b D (wr.setCell ⟨g, k * 8 + 3, none⟩ v) (D.putN k { nd with p := { nd.p with hists := l }, hs := v }) :=
  h.rowN hnd ho 0 3 (by omega) (by omega) ⟨244, 2, nd.hs, nd.p.hists.length, nd.p.hists.flatMap histC⟩ ⟨244, 2, v, l.length, l.flatMap histC⟩ v rfl rfl rfl hk hr hw
theorem Dev.putWaits {w wr : World} {b k g : Nat} {D : DevS} {nd : DNodeE} (h : Dev w b D) (hnd : D.nodes[k]? = some nd) (ho : D.vn.ownBlock = some g) (l : List (Nat × Int)) (v : Value) (hk : Kept (fun j => nd.wt.ownBlock = some j) w wr) (hr : Row wr 244 2 v l.length (l.flatMap histC)) (hw : ∀ x, v.ownBlock = some x → nd.wt.ownBlock = some x ∨ w.heap.size ≤ x) : DBecame w b D (wr.setCell ⟨g, k * 8 + 4, none⟩ v) (D.putN k { nd with p := { nd.p with waits := l }, wt := v }) :=
  h.rowN hnd ho 1 4 (by omega) (by omega) ⟨244, 2, nd.wt, nd.p.waits.length, nd.p.waits.flatMap histC⟩ ⟨244, 2, v, l.length, l.flatMap histC⟩ v rfl rfl rfl hk hr hw
theorem Dev.putEnts {w wr : World} {b k g : Nat} {D : DevS} {nd : DNodeE} (h : Dev w b D) (hnd : D.nodes[k]? = some nd) (ho : D.vn.ownBlock = some g) (l : List HeldE) (v : Value) (hk : Kept (fun j => nd.en.ownBlock = some j) w wr) (hr : Row wr 227 7 v l.length (l.flatMap Go.Proofs.YtpfcacedpkaihaaGreat.heldC)) (hw : ∀ x, v.ownBlock = some x → nd.en.ownBlock = some x ∨ w.heap.size ≤ x) : DBecame w b D (wr.setCell ⟨g, k * 8 + 5, none⟩ v) (D.putN k { nd with p := { nd.p with ents := l }, en := v }) :=
  h.rowN hnd ho 2 5 (by omega) (by omega) ⟨227, 7, nd.en, nd.p.ents.length, nd.p.ents.flatMap Go.Proofs.YtpfcacedpkaihaaGreat.heldC⟩ ⟨227, 7, v, l.length, l.flatMap Go.Proofs.YtpfcacedpkaihaaGreat.heldC⟩ v rfl rfl rfl hk hr hw
theorem Dev.putFl {w wr : World} {b k g : Nat} {D : DevS} {nd : DNodeE} (h : Dev w b D) (hnd : D.nodes[k]? = some nd) (ho : D.vn.ownBlock = some g) (l : List (Nat × Int)) (v : Value) (hk : Kept (fun j => nd.fl.ownBlock = some j) w wr) (hr : Row wr 192 2 v l.length (l.flatMap histC)) (hw : ∀ x, v.ownBlock = some x → nd.fl.ownBlock = some x ∨ w.heap.size ≤ x) : DBecame w b D (wr.setCell ⟨g, k * 8 + 7, none⟩ v) (D.putN k { nd with p := { nd.p with flight := l }, fl := v }) :=
  h.rowN hnd ho 3 7 (by omega) (by omega) ⟨192, 2, nd.fl, nd.p.flight.length, nd.p.flight.flatMap histC⟩ ⟨192, 2, v, l.length, l.flatMap histC⟩ v rfl rfl rfl hk hr hw
theorem row_snoc {α : Type} {w : World} {T : TypeId} {size : Nat} {C : α → List Value} {v : Value} {l : List α} {x : α} (h : Row w T size v (l.length + 1) (l.flatMap C ++ C x)) : Row w T size v (l ++ [x]).length ((l ++ [x]).flatMap C) := by
  rw [List.length_append, List.flatMap_append]; simpa using h

end Go.Proofs.YtpfcacedpkaihaaGreat

/- The program's nodes (package memory): remove, next, walked. -/
namespace Go.Proofs.YtpfcacedpkaihaaGreat
open Go.RowKit

theorem Row.helds {w : World} {T : TypeId} {v : Value} {l : List HeldE} (h : Row w T 7 v l.length (l.flatMap heldC)) : ∃ ao cap, v = .slice ao l.length cap ∧ ∀ j (hj : j < l.length), ∃ ge, ao = some ⟨ge, 0, none⟩ ∧ ge < w.heap.size ∧ ∀ f, f < 7 → w.cell? ⟨ge, j * 7 + f, none⟩ = (heldC l[j])[f]? := by
  obtain ⟨ao, cap, hv, _⟩ := h.form
  refine ⟨ao, cap, hv, fun j hj => ?_⟩
  obtain ⟨ge, cap', hv', ho, hl⟩ := h.block (by omega)
  rw [hv] at hv'
  injection hv' with e1 e2 e3
  refine ⟨ge, e1, hl, fun f hf => ?_⟩
  obtain ⟨u, hu⟩ : ∃ u, (heldC l[j])[f]? = some u := ⟨_, List.getElem?_eq_getElem (show f < 7 from hf)⟩
  rw [hu]
  exact h.cell ho _ u (by rw [held_at l j hj f hf]; exact hu)

set_option maxRecDepth 100000 in
set_option maxHeartbeats 2000000 in
theorem dremove (w : World) (b k g : Nat) (D : DevS) (nd : DNodeE) (i : Nat) (h : Dev w b D) (hnd : D.nodes[k]? = some nd) (ho : D.vn.ownBlock = some g) (hl : nd.p.ents.length ≤ 1000) :
    Calls Tryz.prog 149 #[.pointer (some ⟨g, k * 8, none⟩), .int .i64 (i : Int)] w fun e w' => e = .returned (.tuple #[]) ∧ Hid (Turns w b D k (nd.p.remove i) w') := by
  have hr := h.ents nd (List.mem_of_getElem? hnd)
  obtain ⟨ao, cap, hv, hp⟩ := hr.helds
  have c7 : w.cell? ⟨g, k * 8 + 5, none⟩ = some nd.en := h.nodeC hnd ho 5 (by omega) _ rfl
  have f7 : w.frozen? ⟨g, k * 8 + 5, none⟩ = false := h.nodeF ho _
  have hgl : g < w.heap.size := World.block_lt_of_cell? w _ c7
  have HC : Hid (∀ W, Kept (fun _ => False) w W → W.cell? ⟨g, k * 8 + 5, none⟩ = some nd.en ∧ W.frozen? ⟨g, k * 8 + 5, none⟩ = false) := fun W hW => ⟨hW.hold c7, (World.frozen?_of_block (a := ⟨g, k * 8 + 5, none⟩) (hW.block g hgl id)).trans f7⟩
  rw [hv] at c7 HC
  obtain ⟨l, hll⟩ : ∃ l, l = nd.p.ents := ⟨_, rfl⟩
  have HP : Hid (∀ j (hj : j < l.length), ∃ ge, ao = some ⟨ge, 0, none⟩ ∧ ge < w.heap.size ∧ ∀ f, f < 7 → w.cell? ⟨ge, j * 7 + f, none⟩ = (heldC l[j])[f]?) := by rw [hll]; exact hp
  have HF : Hid (∀ (v : Value) (wr : World), Grow 227 7 heldC w wr v (l.eraseIdx i) → Turns w b D k (nd.p.remove i) (wr.setCell ⟨g, k * 8 + 5, none⟩ v)) := fun v wr hG => by rw [hll] at hG; exact ⟨_, rfl, h.putEnts hnd ho _ v (hG.kept.mono (fun _ => False.elim)) hG.row hG.own⟩
  rw [← hll] at hl c7 HC
  obtain ⟨i0, hi, hz0, hz1, hz2⟩ := info_parts Tryz.infoHeld
  have HI : Hid (Tryz.prog.info? 227 = some i0 ∧ i0.zero = some (.agg #[.string ByteArray.empty, .int .i32 0, .int .u64 0, .int .u64 0, .bool false, .int .u64 0, .int .u64 0]) ∧ i0.size = 7 ∧ i0.bytes = 64) := ⟨hi, hz0, hz1, hz2⟩
  clear hi hz0 hz1 hz2 h hnd ho hr hp hv hll f7
  go_enter Tryz.func149, Tryz.ntmps149
  go_wp2
  go_loopw [4, 12] (fun v iv wr => ∃ j : Nat, j ≤ l.length ∧ iv = .int .i64 j ∧ Hid (Grow 227 7 heldC w wr v (tkL l i j))) (fun _ iv _ => l.length - (intOf iv).toNat)
  case atStart => exact ⟨0, Nat.zero_le _, rfl, by rw [show tkL l i 0 = [] by simp [tkL]]; exact Grow.start _ _ _ _⟩
  case round =>
    obtain ⟨j, hj, rfl, HG⟩ := hrel
    obtain ⟨av, cv, hvv, _⟩ := HG.out.row.form
    have hfl := tkL_len l i j
    obtain ⟨n, hn⟩ : ∃ n, n = (tkL l i j).length := ⟨_, rfl⟩
    rw [← hn] at hvv hfl
    subst hvv
    by_cases hlt : j < l.length
    · obtain ⟨ge, hao, hgw, hce⟩ := HP.out j hlt
      have HTN := tkL_next l i j hlt
      have HTS := tkL_skip l i
      obtain ⟨y, hy⟩ : ∃ y, y = l[j] := ⟨_, rfl⟩
      rw [← hy] at hce HTN
      obtain ⟨x0, x1, x2, x3, x4, x5, x6⟩ := heldBlk (w := wr) (ge := ge) (o := j * 7) (x := y) fun f hf => HG.out.kept.hold' (hce f hf) hf
      have hj0 : (0 : Int) ≤ (j : Int) := by omega
      have hj1 : (j : Int) < (l.length : Int) := by omega
      clear hy hce hgw
      subst hao
      by_cases he : j = i
      · have HX : Hid (tkL l i (j + 1) = tkL l i j) := by show _ = _; rw [he]; exact HTS (by omega)
        have hb : (((j : Int)) != (i : Int)) = false := by simp [he]
        clear HTN HTS he hn
        go_wp2
        go_roundw
        case rel => exact ⟨j + 1, by omega, by go_num, by rw [HX.out]; exact HG.out.more (Kept.alloc _ _ _)⟩
        case measure => simp [intOf]; omega
      · have HX : Hid (tkL l i (j + 1) = tkL l i j ++ [y]) := HTN he
        have hb : (((j : Int)) != (i : Int)) = true := by simp; omega
        have HROW : Hid (∀ o o', Row ((wr.alloc o).alloc o') 227 7 (.slice av n cv) n ((tkL l i j).flatMap heldC)) := fun o o' => by have := (HG.out.row.kept (Kept.alloc wr o (fun _ => False)) (fun _ _ => id)).kept (Kept.alloc _ o' (fun _ => False)) (fun _ _ => id); rw [← hn] at this; exact this
        have HNX : Hid (∀ (o o' : Obj) (w' : World) (v' : Value), Appended ((wr.alloc o).alloc o') w' 227 7 (.slice av n cv) v' n 1 ((tkL l i j).flatMap heldC) (heldC y) → Grow 227 7 heldC w w' v' (tkL l i j ++ [y])) := by
          intro o o' w' v' hA
          rw [hn] at hA HG
          exact (HG.out.more ((Kept.alloc wr o (fun _ => False)).allocNew o')).next hA
        have b1 : n + 1 ≤ maxLen := by unfold maxLen; omega
        have b2 : (n + 1) * 64 ≤ 140737488355328 := by omega
        clear HTN HTS he hn
        go_wp2_with (at_builtin; go_must (refine wpList_append_mine _ rfl (.tmp 20) (.tmp 22) 131 rfl 227 i0 (.agg #[.string ByteArray.empty, .int .i32 0, .int .u64 0, .int .u64 0, .bool false, .int .u64 0, .int .u64 0]) 7 64 Tryz.underlying131 HI.out.1 HI.out.2.1 HI.out.2.2.1 HI.out.2.2.2 rfl (by decide) (.slice av n cv) n _ rfl (HROW.out _ _) ⟨wr.heap.size + 1, 0, none⟩ 1 1 (heldC y) rfl rfl (fun j u hj => by simpa using news_held (wr.alloc _) y _ j u hj) (oneCell_held y) b1 b2 ?_); intro v' w1 hA; have HA : Hid (Grow 227 7 heldC w w1 v' (tkL l i j ++ [y])) := HNX.out _ _ _ _ hA; clear hA)
        go_roundw
        case rel => exact ⟨j + 1, by omega, by go_num, by rw [HX.out]; exact HA.out⟩
        case measure => simp [intOf]; omega
    · have hjn : j = l.length := by omega
      subst hjn
      obtain ⟨d7, e7⟩ := HC.out wr HG.out.kept
      have HZ : Hid (Turns w b D k (nd.p.remove i) (wr.setCell ⟨g, k * 8 + 5, none⟩ (.slice av n cv))) := HF.out _ _ (by have := HG.out; rwa [tkL_all] at this)
      clear hn
      go_wp2
      go_end0
      exact ⟨rfl, HZ.out⟩

theorem keysAt_take {l : List (Nat × Int)} {t j : Nat} (hj : j < l.length) : keysAt (l.take (j + 1)) t = if l[j].1 = t then l[j].2 else keysAt (l.take j) t := by
  unfold keysAt
  rw [List.take_succ_eq_append_getElem hj, List.foldl_append]
  rfl

set_option maxRecDepth 100000 in
set_option maxHeartbeats 2000000 in
theorem dnext (w : World) (b k g : Nat) (D : DevS) (nd : DNodeE) (h : Dev w b D) (hnd : D.nodes[k]? = some nd) (ho : D.vn.ownBlock = some g) (hl : nd.p.waits.length ≤ 1000) (hz : nd.p.horizon ≤ 1000000) :
    Calls Tryz.prog 154 #[.pointer (some ⟨g, k * 8, none⟩)] w fun e w' => e = .returned (.tuple #[.int .u8 (keysAt nd.p.waits (nd.p.horizon + 1)), .bool (waitsB nd.p.waits (nd.p.horizon + 1))]) ∧ Hid (Turns w b D k nd.p.dropNext w') := by
  have hr := h.waits nd (List.mem_of_getElem? hnd)
  obtain ⟨ao, cap, hv, hp⟩ := hr.pairs
  have c7 : w.cell? ⟨g, k * 8 + 4, none⟩ = some nd.wt := h.nodeC hnd ho 4 (by omega) _ rfl
  have c2 : w.cell? ⟨g, k * 8 + 2, none⟩ = some (.int .u64 (nd.p.horizon : Int)) := h.nodeC hnd ho 2 (by omega) _ rfl
  have f7 : w.frozen? ⟨g, k * 8 + 4, none⟩ = false := h.nodeF ho _
  have hgl : g < w.heap.size := World.block_lt_of_cell? w _ c7
  have HC : Hid (∀ W, Kept (fun _ => False) w W → W.cell? ⟨g, k * 8 + 4, none⟩ = some nd.wt ∧ W.frozen? ⟨g, k * 8 + 4, none⟩ = false) := fun W hW => ⟨hW.hold c7, (World.frozen?_of_block (a := ⟨g, k * 8 + 4, none⟩) (hW.block g hgl id)).trans f7⟩
  rw [hv] at c7 HC
  obtain ⟨l, hll⟩ : ∃ l, l = nd.p.waits := ⟨_, rfl⟩
  obtain ⟨z, hzz⟩ : ∃ z, z = nd.p.horizon := ⟨_, rfl⟩
  have HP : Hid (∀ j (hj : j < l.length), ∃ gw, ao = some ⟨gw, 0, none⟩ ∧ gw < w.heap.size ∧ w.cell? ⟨gw, j * 2, none⟩ = some (.int .u64 (l[j].1 : Int)) ∧ w.cell? ⟨gw, j * 2 + 1, none⟩ = some (.int .u8 l[j].2)) := by rw [hll]; exact hp
  have HF : Hid (∀ (v : Value) (wr : World), Grow 244 2 histC w wr v (l.filter fun c => decide (c.1 ≠ z + 1)) → Turns w b D k nd.p.dropNext (wr.setCell ⟨g, k * 8 + 4, none⟩ v)) := fun v wr hG => by rw [hll, hzz] at hG; exact ⟨_, rfl, h.putWaits hnd ho _ v (hG.kept.mono (fun _ => False.elim)) hG.row hG.own⟩
  rw [← hll] at hl c7 HC
  rw [← hll, ← hzz]
  rw [← hzz] at hz c2
  obtain ⟨i0, hi, hz0, hz1, hz2⟩ := info_parts Tryz.infoHist
  have HI : Hid (Tryz.prog.info? 244 = some i0 ∧ i0.zero = some (.agg #[.int .u64 0, .int .u8 0]) ∧ i0.size = 2 ∧ i0.bytes = 16) := ⟨hi, hz0, hz1, hz2⟩
  have HKA : Hid (∀ j (hj : j < l.length), keysAt (l.take (j + 1)) (z + 1) = if l[j].1 = z + 1 then l[j].2 else keysAt (l.take j) (z + 1)) := fun j hj => keysAt_take hj
  clear hi hz0 hz1 hz2 h hnd ho hr hp hv hll f7 hzz
  go_enter Tryz.func154, Tryz.ntmps154
  go_wp2
  go_loopw [4, 5, 6, 14] (fun v kv bv iv wr => ∃ j : Nat, j ≤ l.length ∧ iv = .int .i64 j ∧ kv = .int .u8 (keysAt (l.take j) (z + 1)) ∧ bv = .bool (waitsB (l.take j) (z + 1)) ∧ Hid (Grow 244 2 histC w wr v ((l.take j).filter fun c => decide (c.1 ≠ z + 1)))) (fun _ _ _ iv _ => l.length - (intOf iv).toNat)
  case atStart => exact ⟨0, Nat.zero_le _, rfl, rfl, rfl, Grow.start _ _ _ _⟩
  case round =>
    obtain ⟨j, hj, rfl, rfl, rfl, HG⟩ := hrel
    obtain ⟨av, cv, hvv, _⟩ := HG.out.row.form
    have hfl := filter_len l (fun c => decide (c.1 ≠ z + 1)) j
    obtain ⟨n, hn⟩ : ∃ n, n = ((l.take j).filter fun c => decide (c.1 ≠ z + 1)).length := ⟨_, rfl⟩
    rw [← hn] at hvv hfl
    subst hvv
    by_cases hlt : j < l.length
    · obtain ⟨gw, hao, hgw, p0, p1⟩ := HP.out j hlt
      have HFT := filter_take l (fun c => decide (c.1 ≠ z + 1)) j hlt
      have HKT := HKA.out j hlt
      have HWT := waitsB_take (t := z + 1) hlt
      obtain ⟨x, hx⟩ : ∃ x, x = l[j] := ⟨_, rfl⟩
      rw [← hx] at p0 p1 HFT HKT HWT
      have d0 := HG.out.kept.hold p0
      have d1 := HG.out.kept.hold p1
      have d2 := HG.out.kept.hold c2
      have a0 : ∀ o : Obj, (wr.alloc o).cell? ⟨g, k * 8 + 2, none⟩ = some (.int .u64 (z : Int)) := fun o => hold_al d2
      have hj0 : (0 : Int) ≤ (j : Int) := by omega
      have hj1 : (j : Int) < (l.length : Int) := by omega
      obtain ⟨K, hK⟩ : ∃ K, K = keysAt (l.take j) (z + 1) := ⟨_, rfl⟩
      obtain ⟨B, hB⟩ : ∃ B, B = waitsB (l.take j) (z + 1) := ⟨_, rfl⟩
      rw [← hK, ← hB]
      rw [← hK] at HKT
      rw [← hB] at HWT
      clear hx p0 p1 hgw hK hB
      subst hao
      by_cases he : x.1 = z + 1
      · have HX : Hid ((l.take (j + 1)).filter (fun c => decide (c.1 ≠ z + 1)) = (l.take j).filter (fun c => decide (c.1 ≠ z + 1)) ∧ keysAt (l.take (j + 1)) (z + 1) = x.2 ∧ waitsB (l.take (j + 1)) (z + 1) = true) := ⟨by rw [HFT, if_neg (by simpa using he), List.append_nil], by rw [HKT, if_pos he], by rw [HWT, decide_eq_true he, Bool.or_true]⟩
        have hb : ((x.1 : Int) == (z : Int) + 1) = true := beq_iff_eq.mpr (by omega)
        clear HFT HKT HWT he hn
        go_wp2_with fail
        go_quiet (fail)
        go_wp2
        go_roundw
        case rel => exact ⟨j + 1, by omega, by go_num, by rw [HX.out.2.1], by rw [HX.out.2.2], by rw [HX.out.1]; exact HG.out.more ((Kept.alloc _ _ _).drewN _)⟩
        case measure => simp [intOf]; omega
      · have HX : Hid ((l.take (j + 1)).filter (fun c => decide (c.1 ≠ z + 1)) = (l.take j).filter (fun c => decide (c.1 ≠ z + 1)) ++ [x] ∧ keysAt (l.take (j + 1)) (z + 1) = K ∧ waitsB (l.take (j + 1)) (z + 1) = B) := ⟨by rw [HFT, if_pos (by simpa using he)], by rw [HKT, if_neg he], by rw [HWT, decide_eq_false he, Bool.or_false]⟩
        have hb : ((x.1 : Int) == (z : Int) + 1) = false := beq_eq_false_iff_ne.mpr (by omega)
        have HROW : Hid (∀ W, Kept (fun _ => False) wr W → Row W 244 2 (.slice av n cv) n (((l.take j).filter fun c => decide (c.1 ≠ z + 1)).flatMap histC)) := fun W hW => by have := HG.out.row.kept hW (fun _ _ => id); rw [← hn] at this; exact this
        have HNX : Hid (∀ (W w' : World) (v' : Value), Kept (fun _ => False) wr W → Appended W w' 244 2 (.slice av n cv) v' n 1 (((l.take j).filter fun c => decide (c.1 ≠ z + 1)).flatMap histC) (histC x) → Grow 244 2 histC w w' v' ((l.take j).filter (fun c => decide (c.1 ≠ z + 1)) ++ [x])) := by
          intro W w' v' hW hA
          rw [hn] at hA HG
          exact (HG.out.more hW).next hA
        have b1 : n + 1 ≤ maxLen := by unfold maxLen; omega
        have b2 : (n + 1) * 16 ≤ 140737488355328 := by omega
        clear HFT HKT HWT he hn
        go_wp2_with fail
        go_quiet (fail)
        go_wp2_with (at_builtin; go_must (refine wpList_append_mine _ rfl (.tmp 28) (.tmp 30) 130 rfl 244 i0 (.agg #[.int .u64 0, .int .u8 0]) 2 16 Tryz.underlying130 HI.out.1 HI.out.2.1 HI.out.2.2.1 HI.out.2.2.2 rfl (by decide) (.slice av n cv) n _ rfl (HROW.out _ (((Kept.alloc _ _ _).drewN _).allocNew _)) ⟨wr.heap.size + 1, 0, none⟩ 1 1 (histC x) rfl rfl (fun j u hj => by simpa using news_pair ((wr.alloc _).drewN _) x _ j u hj) (oneCell_pair x) b1 b2 ?_); intro v' w1 hA; have HA : Hid (Grow 244 2 histC w w1 v' ((l.take j).filter (fun c => decide (c.1 ≠ z + 1)) ++ [x])) := HNX.out _ _ _ (((Kept.alloc _ _ _).drewN _).allocNew _) hA; clear hA)
        go_roundw
        case rel => exact ⟨j + 1, by omega, by go_num, by rw [HX.out.2.1], by rw [HX.out.2.2], by rw [HX.out.1]; exact HA.out⟩
        case measure => simp [intOf]; omega
    · have hjn : j = l.length := by omega
      subst hjn
      obtain ⟨d7, e7⟩ := HC.out wr HG.out.kept
      have HZ : Hid (Turns w b D k nd.p.dropNext (wr.setCell ⟨g, k * 8 + 4, none⟩ (.slice av n cv))) := HF.out _ _ (by have := HG.out; rwa [List.take_length] at this)
      have HTK : Hid (l.take l.length = l) := List.take_length
      clear hn
      go_wp2
      go_ret2
      exact ⟨by rw [HTK.out]; rfl, HZ.out⟩

end Go.Proofs.YtpfcacedpkaihaaGreat
