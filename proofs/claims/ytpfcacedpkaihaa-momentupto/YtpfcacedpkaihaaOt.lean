/- Opening a script (a list of steps of the keeping laws: three numbers, a text, two lists of numbers) that comes in as an argument. -/
import Derived.Test.YtpfcacedpkaihaaKb
import Derived.Test.YtpfcacedpkaihaaRows
import Derived.ProofKit
import Derived.OpenShut
import Derived.ShutString
import Derived.ChangeOld
import Derived.Below
import Derived.JoinedCond
namespace Go.Proofs.Ytpfcacedpkaihaa
open Go.ChangeShapes Go.WideShapes Go.ChangeAt Go.RowKit

theorem Try.own : ownKnob Try.prog.godebug = none := by kernel_rfl
theorem Try.laidOut : laidOutB Try.prog = true := by kernel_rfl
theorem Try.cellsStep : Try.prog.cellsOf 48 = 6 := by kernel_rfl
theorem Try.cellsInt : Try.prog.cellsOf 3 = 1 := by kernel_rfl
theorem Try.cellsI32 : Try.prog.cellsOf 21 = 1 := by kernel_rfl
theorem Try.cellsStr : Try.prog.cellsOf 9 = 1 := by kernel_rfl
theorem Try.cellsIs : Try.prog.cellsOf 36 = 1 := by kernel_rfl
theorem Try.cellsI32s : Try.prog.cellsOf 33 = 1 := by kernel_rfl

theorem bulk_one {H : Type} (d : DataW H) : 1 ≤ Rows.uptoBulk d := by
  cases d with
  | lit l => cases l <;> simp [Rows.uptoBulk]
  | nil => simp [Rows.uptoBulk]
  | ptr d => simp [Rows.uptoBulk]
  | slice elems spare => simp [Rows.uptoBulk]
  | agg parts => simp [Rows.uptoBulk]
  | iface t d => simp [Rows.uptoBulk]
  | map entries => simp [Rows.uptoBulk]
  | held h => simp [Rows.uptoBulk]
theorem bulk_part {H : Type} {d : DataW H} {l : List (DataW H)} (h : d ∈ l) : Rows.uptoBulk d ≤ Rows.uptoBulkAll l := by
  induction l with
  | nil => cases h
  | cons x r ih =>
    simp only [Rows.uptoBulkAll]
    cases List.mem_cons.1 h with
    | inl e => subst e; omega
    | inr e => have := ih e; omega
theorem bulk_len {H : Type} (l : List (DataW H)) : l.length ≤ Rows.uptoBulkAll l := by
  induction l with
  | nil => simp [Rows.uptoBulkAll]
  | cons x r ih => have := bulk_one x; simp only [Rows.uptoBulkAll, List.length_cons]; omega

theorem choose_list {α : Type} (P : Nat → α → Prop) : ∀ n : Nat, (∀ i, i < n → ∃ x, P i x) → ∃ l : List α, l.length = n ∧ ∀ i (h : i < l.length), P i l[i]
  | 0, _ => ⟨[], rfl, fun i h => absurd h (Nat.not_lt_zero _)⟩
  | n + 1, h => by
    obtain ⟨l, hl, hp⟩ := choose_list P n fun i hi => h i (by omega)
    obtain ⟨x, hx⟩ := h n (by omega)
    refine ⟨l ++ [x], by simp [hl], fun i hi => ?_⟩
    by_cases e : i < l.length
    · rw [List.getElem_append_left e]; exact hp i e
    · have : i = n := by simp at hi; omega
      subst this
      rw [List.getElem_append_right (by omega)]
      simpa [hl] using hx

/-- a script in memory. -/
structure Sk (w : World) (ao : Option Addr) (n : Nat) (os : List StE) : Prop where
  len : os.length = n
  cell : ∀ j (h : j < os.length), ∃ bl off, ao = some ⟨bl, off, none⟩ ∧ bl < w.heap.size ∧ ∀ f, f < 6 → w.cell? ⟨bl, off + j * 6 + f, none⟩ = (stepC os[j])[f]?

section
variable {H : Type} {enc : TypeId × Value → H} {w : World} {fuel : Nat} {cs : List Value} {x : DataW H × List MemPlace}

theorem len6' {l : List Value} (h : l.length = 6) : ∃ a b c d e f, l = [a, b, c, d, e, f] := by
  match l, h with
  | [a, b, c, d, e, f], _ => exact ⟨a, b, c, d, e, f, rfl⟩
theorem add_off' (bl off j : Nat) : (⟨bl, off, none⟩ : Addr).add j = ⟨bl, off + j, none⟩ := by cases j <;> simp [Addr.add]
theorem addr_none' {a : Addr} {m : Nat} {c : List Value} (h : w.cells? 0 (a.add 0) (m + 1) = some c) : ∃ bl off, a = ⟨bl, off, none⟩ ∧ bl < w.heap.size := by
  obtain ⟨_, hl, hc⟩ := World.cells?_some h
  have h0 := hc 0 (by omega)
  rw [List.getElem?_eq_getElem (by omega)] at h0
  obtain ⟨bl, off, spot⟩ := a
  have hs : spot = none := by simpa [Addr.add] using World.cell?_spot h0
  subst hs
  refine ⟨bl, off, rfl, ?_⟩
  rw [add_off', add_off'] at h0
  exact World.block_lt_of_cell? w _ h0

/-- a list of numbers. -/
theorem open_ints {e T : TypeId} {k : IntKind} (hT : Try.prog.underlying T = some (.slice e)) (he : Try.prog.underlying e = some (.int k)) (hc : Try.prog.cellsOf e = 1) (h : DataW.trod enc Try.prog w 0 (fun _ => true) true fuel T cs = some x) (hs : Rows.uptoBulk x.1 ≤ 1048576) :
    ∃ (ao : Option Addr) (n cap : Nat), cs = [.slice ao n cap] ∧ n ≤ 1048576 ∧ ∀ j, j < n → ∃ (bl off : Nat) (v : Int), ao = some ⟨bl, off, none⟩ ∧ w.cell? ⟨bl, off + j, none⟩ = some (.int k v) ∧ (Lit.int k v).wf = true := by
  rcases DataW.trod_slice hT h with ⟨rfl, _⟩ | ⟨a, len, cap, elems, rest, n, _, rfl, rfl, _, hl, hm, hlen, hel, hsp, _⟩
  · exact ⟨none, 0, 0, rfl, by omega, fun j hj => absurd hj (Nat.not_lt_zero _)⟩
  · refine ⟨some a, len, cap, rfl, ?_, fun j hj => ?_⟩
    · have h1 := bulk_len (elems.map (·.1))
      simp only [Rows.uptoBulk] at hs
      rw [List.length_map, hlen] at h1
      omega
    · have row : ∀ i, i < len → ∃ ci y, w.cells? 0 (a.add i) 1 = some ci ∧ DataW.trod enc Try.prog w 0 (fun _ => true) true n e ci = some y := by
        intro i hi
        have h1 := hel i hi
        rw [List.getElem?_eq_getElem (by omega), hc, Nat.mul_one] at h1
        obtain ⟨ci, hci, htr⟩ := Option.bind_eq_some_iff.mp h1
        exact ⟨ci, _, hci, htr⟩
      obtain ⟨c0, _, hc0, _⟩ := row 0 (by omega)
      obtain ⟨bl, off, rfl, hb⟩ := addr_none' hc0
      obtain ⟨ci, y, hci, htr⟩ := row j hj
      obtain ⟨v, e1, _, bv⟩ := DataW.trod_int he htr
      obtain ⟨_, _, hcc⟩ := World.cells?_some hci
      have := hcc 0 (by omega)
      rw [add_off', add_off', e1] at this
      exact ⟨bl, off, v, rfl, this, bv⟩

set_option maxRecDepth 100000 in
/-- a step. -/
theorem open_step (h : DataW.trod enc Try.prog w 0 (fun _ => true) true fuel 48 cs = some x) (hs : Rows.uptoBulk x.1 ≤ 1048576) : ∃ o : StE, cs = stepC o ∧ StOk w o := by
  obtain ⟨xs, n, _, rfl, hl, hlen, hf⟩ := DataW.trod_struct Try.underlying48 h
  rw [Try.cellsStep] at hl
  clear h
  obtain ⟨c0, c1, c2, c3, c4, c5, rfl⟩ := len6' hl
  have hlen6 : xs.length = 6 := hlen
  have g0 := hf 0 _ rfl
  have g1 := hf 1 _ rfl
  have g2 := hf 2 _ rfl
  have g3 := hf 3 _ rfl
  have g4 := hf 4 _ rfl
  have g5 := hf 5 _ rfl
  have hpart : ∀ i (hi : i < xs.length), Rows.uptoBulk (xs[i]).1 ≤ 1048576 := fun i hi => by
    have h1 := bulk_part (d := (xs[i]).1) (l := xs.map (·.1)) (List.mem_map_of_mem (List.getElem_mem hi))
    simp only [Rows.uptoBulk] at hs
    omega
  rw [List.getElem?_eq_getElem (by omega)] at g0 g1 g2 g3 g4 g5
  obtain ⟨k0, e0, _, b0⟩ := DataW.trod_int Try.underlying3 g0
  obtain ⟨k1, e1, _, b1⟩ := DataW.trod_int Try.underlying3 g1
  obtain ⟨k2, e2, _, b2⟩ := DataW.trod_int Try.underlying3 g2
  obtain ⟨s, e3, hx3, hsz⟩ := DataW.trod_string Try.underlying9 g3
  obtain ⟨ka, kn, kc, e4, hk1, hk2⟩ := open_ints Try.underlying36 Try.underlying3 Try.cellsInt g4 (hpart 4 (by omega))
  obtain ⟨va, vn, vc, e5, hv1, hv2⟩ := open_ints Try.underlying33 Try.underlying21 Try.cellsI32 g5 (hpart 5 (by omega))
  have e0 : List.take (Try.prog.cellsOf 3) (List.drop 0 [c0, c1, c2, c3, c4, c5]) = [Value.int .i64 k0] := e0
  have e1 : List.take (Try.prog.cellsOf 3) (List.drop 1 [c0, c1, c2, c3, c4, c5]) = [Value.int .i64 k1] := e1
  have e2 : List.take (Try.prog.cellsOf 3) (List.drop 2 [c0, c1, c2, c3, c4, c5]) = [Value.int .i64 k2] := e2
  have e3 : List.take (Try.prog.cellsOf 9) (List.drop 3 [c0, c1, c2, c3, c4, c5]) = [Value.string s] := e3
  have e4 : List.take (Try.prog.cellsOf 36) (List.drop 4 [c0, c1, c2, c3, c4, c5]) = [Value.slice ka kn kc] := e4
  have e5 : List.take (Try.prog.cellsOf 33) (List.drop 5 [c0, c1, c2, c3, c4, c5]) = [Value.slice va vn vc] := e5
  rw [Try.cellsInt] at e0 e1 e2
  rw [Try.cellsStr] at e3
  rw [Try.cellsIs] at e4
  rw [Try.cellsI32s] at e5
  simp at e0 e1 e2 e3 e4 e5
  have bd1 := bounds_i64 b1
  have bd2 := bounds_i64 b2
  have hs3 : s.size ≤ 1048576 := by
    have h3 := hpart 3 (by omega)
    rw [hx3] at h3
    simp only [Rows.uptoBulk] at h3
    have e : s.data.toList.length = s.size := by rw [Array.length_toList]; rfl
    omega
  refine ⟨⟨k0, k1, k2, s, ka, kn, kc, va, vn, vc⟩, by simp [stepC, e0, e1, e2, e3, e4, e5], ⟨fun j hj => ?_, fun j hj => ?_, hk1, hv1, hs3, by dsimp only; omega, by dsimp only; omega, by dsimp only; omega, by dsimp only; omega⟩⟩
  · obtain ⟨bl, off, v, r1, r2, r3⟩ := hk2 j hj
    have bd := bounds_i64 r3
    exact ⟨bl, off, v, r1, r2, by omega, by omega⟩
  · obtain ⟨bl, off, v, r1, r2, r3⟩ := hv2 j hj
    exact ⟨bl, off, v, r1, r2⟩

/-- a script. -/
theorem open_steps (h : DataW.trod enc Try.prog w 0 (fun _ => true) true fuel 39 cs = some x) (hs : Rows.uptoBulk x.1 ≤ 1048576) :
    ∃ (ao : Option Addr) (n cap : Nat) (os : List StE), cs = [.slice ao n cap] ∧ Sk w ao n os ∧ n ≤ 1048576 ∧ ∀ o ∈ os, StOk w o := by
  rcases DataW.trod_slice Try.underlying39 h with ⟨rfl, _⟩ | ⟨a, len, cap, elems, rest, n, _, rfl, rfl, _, hl, hm, hlen, hel, hsp, _⟩
  · exact ⟨none, 0, 0, [], rfl, ⟨rfl, fun j hj => absurd hj (Nat.not_lt_zero _)⟩, by omega, fun o ho => by cases ho⟩
  · simp only [Rows.uptoBulk] at hs
    have hw : len ≤ 1048576 := by
      have h1 := bulk_len (elems.map (·.1))
      rw [List.length_map, hlen] at h1
      omega
    clear h
    by_cases h0 : 0 < len
    · have row : ∀ i, i < len → ∃ ci y, w.cells? 0 (a.add (i * 6)) 6 = some ci ∧ DataW.trod enc Try.prog w 0 (fun _ => true) true n 48 ci = some y ∧ elems[i]? = some y := by
        intro i hi
        have h1 := hel i hi
        rw [List.getElem?_eq_getElem (by omega), Try.cellsStep] at h1
        obtain ⟨ci, hci, htr⟩ := Option.bind_eq_some_iff.mp h1
        exact ⟨ci, _, hci, htr, List.getElem?_eq_getElem (by omega)⟩
      obtain ⟨c0, _, hc0, _⟩ := row 0 h0
      rw [Nat.zero_mul] at hc0
      obtain ⟨bl, off, rfl, hb⟩ := addr_none' hc0
      have each : ∀ i, i < len → ∃ o : StE, (∀ f, f < 6 → w.cell? ⟨bl, off + i * 6 + f, none⟩ = (stepC o)[f]?) ∧ StOk w o := by
        intro i hi
        obtain ⟨ci, y, hci, htr, hy⟩ := row i hi
        have hsy : Rows.uptoBulk y.1 ≤ 1048576 := by
          have h1 := bulk_part (d := y.1) (l := elems.map (·.1)) (List.mem_map_of_mem (List.mem_of_getElem? hy))
          omega
        obtain ⟨o, rfl, hok⟩ := open_step htr hsy
        obtain ⟨_, _, hc⟩ := World.cells?_some hci
        refine ⟨o, fun f hf => ?_, hok⟩
        have := hc f hf
        rwa [add_off', add_off'] at this
      obtain ⟨os, hol, hos⟩ := choose_list _ len each
      refine ⟨some ⟨bl, off, none⟩, len, cap, os, rfl, ⟨hol, fun j hj => ⟨bl, off, rfl, hb, (hos j hj).1⟩⟩, hw, fun o ho => ?_⟩
      obtain ⟨j, hj, rfl⟩ := List.getElem_of_mem ho
      exact (hos j hj).2
    · have e0 : len = 0 := by omega
      subst e0
      exact ⟨some a, 0, cap, [], rfl, ⟨rfl, fun j hj => absurd hj (Nat.not_lt_zero _)⟩, hw, fun o ho => by cases ho⟩

end

end Go.Proofs.Ytpfcacedpkaihaa
