import Derived.Test.YtpfcacedpkaihaaGreatRows
import Derived.WalkKit
import Derived.WalkSpells
import Derived.WalkLawsBesides
/- Plain mathematics of queries: what a text is cut into, and what it is worth. Nothing of the program stands here. -/
namespace Go.Proofs.YtpfcacedpkaihaaGreat
namespace Q

/-- is a byte one of the eight letters? -/
def isLet (c : UInt8) : Bool := decide (97 ≤ c.toNat) && decide (c.toNat ≤ 104)

/-- the sign that some bytes begin with, and its width (0: none). -/
def sgn : List UInt8 → Nat × Nat
  | [] => (0, 0)
  | c :: r =>
    if c.toNat = 43 then (0, 1) else if c.toNat = 45 then (1, 1) else if c.toNat = 195 then
      (match r with
       | [] => (0, 0)
       | d :: _ => if d.toNat = 151 then (2, 2) else if d.toNat = 183 then (3, 2) else (0, 0))
    else (0, 0)

/-- the terms of a text, of which the first bears the sign sg; none: it is no query. -/
def cutL : Nat → List UInt8 → Option (List (Nat × Nat))
  | _, [] => none
  | sg, [c] => if isLet c then some [(sg, c.toNat - 97)] else none
  | sg, c :: d :: r =>
    if isLet c then
      if d.toNat = 43 then (cutL 0 r).map ((sg, c.toNat - 97) :: ·)
      else if d.toNat = 45 then (cutL 1 r).map ((sg, c.toNat - 97) :: ·)
      else if d.toNat = 195 then
        match r with
        | [] => none
        | e :: r' =>
          if e.toNat = 151 then (cutL 2 r').map ((sg, c.toNat - 97) :: ·)
          else if e.toNat = 183 then (cutL 3 r').map ((sg, c.toNat - 97) :: ·) else none
      else none
    else none

theorem cutL_notlet (sg : Nat) (c : UInt8) (r : List UInt8) (h : isLet c = false) : cutL sg (c :: r) = none := by
  match r with
  | [] => simp [cutL, h]
  | [d] => simp [cutL, h]
  | d :: e :: r' => simp [cutL, h]

theorem cutL_one (sg : Nat) (c : UInt8) (h : isLet c = true) : cutL sg [c] = some [(sg, c.toNat - 97)] := by simp [cutL, h]

theorem cutL_more (sg : Nat) (c : UInt8) (r : List UInt8) (h : isLet c = true) (hr : r ≠ []) :
    cutL sg (c :: r) = if (sgn r).2 = 0 then none else (cutL (sgn r).1 (r.drop (sgn r).2)).map ((sg, c.toNat - 97) :: ·) := by
  match r, hr with
  | [d], _ =>
    by_cases h1 : d.toNat = 43
    · simp [cutL, sgn, h, h1]
    · by_cases h2 : d.toNat = 45
      · simp [cutL, sgn, h, h2]
      · by_cases h3 : d.toNat = 195 <;> simp [cutL, sgn, h, h1, h2, h3]
  | d :: e :: r', _ =>
    by_cases h1 : d.toNat = 43
    · simp [cutL, sgn, h, h1]
    · by_cases h2 : d.toNat = 45
      · simp [cutL, sgn, h, h2]
      · by_cases h3 : d.toNat = 195
        · by_cases h4 : e.toNat = 151
          · simp [cutL, sgn, h, h3, h4]
          · by_cases h5 : e.toNat = 183 <;> simp [cutL, sgn, h, h3, h4, h5]
        · simp [cutL, sgn, h, h1, h2, h3]

theorem sgn_le (r : List UInt8) : (sgn r).2 ≤ r.length ∧ (sgn r).1 ≤ 3 ∧ (sgn r).2 ≤ 2 := by
  match r with
  | [] => simp [sgn]
  | [d] => simp only [sgn]; split <;> (try split) <;> (try split) <;> simp
  | d :: e :: r' => simp only [sgn]; split <;> (try split) <;> (try split) <;> (try split) <;> (try split) <;> simp

theorem cutL_keys (sg : Nat) (l : List UInt8) (hs : sg ≤ 3) : ∀ ts, cutL sg l = some ts → ∀ t ∈ ts, t.1 ≤ 3 ∧ t.2 ≤ 7 := by
  induction hn : l.length using Nat.strongRecOn generalizing l sg with
  | _ n ih =>
    intro ts hts t ht
    match l with
    | [] => simp [cutL] at hts
    | c :: r =>
      by_cases hc : isLet c = true
      · have hk : c.toNat - 97 ≤ 7 := by simp [isLet] at hc; omega
        by_cases hr : r = []
        · subst hr
          rw [cutL_one sg c hc] at hts
          simp at hts; subst hts; simp at ht; subst ht; exact ⟨hs, hk⟩
        · rw [cutL_more sg c r hc hr] at hts
          by_cases hz : (sgn r).2 = 0
          · simp [hz] at hts
          · simp only [hz, if_false, Option.map_eq_some_iff] at hts
            obtain ⟨us, hus, rfl⟩ := hts
            have hb := sgn_le r
            simp at ht
            rcases ht with rfl | ht
            · exact ⟨hs, hk⟩
            · refine ih _ ?_ _ _ hb.2.1 rfl us hus t ht
              simp at hn ⊢; omega
      · rw [cutL_notlet sg c r (by simpa using hc)] at hts; simp at hts

theorem cutL_ne (sg : Nat) (l : List UInt8) : cutL sg l ≠ some [] := by
  match l with
  | [] => simp [cutL]
  | c :: r =>
    by_cases hc : isLet c = true
    · by_cases hr : r = []
      · subst hr; rw [cutL_one sg c hc]; simp
      · rw [cutL_more sg c r hc hr]
        by_cases hz : (sgn r).2 = 0 <;> simp [hz]
    · rw [cutL_notlet sg c r (by simpa using hc)]; simp

/-- what Parse and Eval make of a text: the error (3: too long; 4: no query; 0: none), the terms. -/
def readL (l : List UInt8) : Int × List (Nat × Nat) :=
  if 40 < l.length then (3, []) else
  match cutL 0 l with
  | none => (4, [])
  | some ts => if 8 < ts.length then (3, []) else (0, ts)

theorem readL_cases (l : List UInt8) : readL l = (3, []) ∨ readL l = (4, []) ∨ ∃ ts, readL l = (0, ts) ∧ ts ≠ [] ∧ ts.length ≤ 8 ∧ ∀ t ∈ ts, t.1 ≤ 3 ∧ t.2 ≤ 7 := by
  unfold readL
  by_cases h : 40 < l.length
  · simp [h]
  · simp only [h, if_false]
    cases hc : cutL 0 l with
    | none => simp
    | some ts =>
      by_cases h8 : 8 < ts.length
      · simp [h8]
      · refine .inr (.inr ⟨ts, by simp [h8], ?_, by omega, cutL_keys 0 l (by omega) ts hc⟩)
        intro he; subst he; exact cutL_ne 0 l hc

end Q
end Go.Proofs.YtpfcacedpkaihaaGreat

/- What the two readers of bytes of package queries answer: keyOf and signAt, at every byte and every place. -/
namespace Go.Proofs.YtpfcacedpkaihaaGreat
open Go.RowKit

theorem ret_two {k l : IntKind} {a b c d : Int} (h : a = c) (g : b = d) : Ending.returned (.tuple #[.int k a, .int l b]) = .returned (.tuple #[.int k c, .int l d]) := by rw [h, g]
theorem ret_intb {k : IntKind} {a c : Int} {b d : Bool} (h : a = c) (g : b = d) : Ending.returned (.tuple #[.int k a, .bool b]) = .returned (.tuple #[.int k c, .bool d]) := by rw [h, g]

set_option maxHeartbeats 400000 in
theorem keyOf_yes (c : UInt8) (w : World) (h : Q.isLet c = true) :
    Calls Tryz.prog 165 #[.int .u8 c.toNat] w fun e w' => e = .returned (.tuple #[.int .i64 ((c.toNat - 97 : Nat) : Int), .bool true]) ∧ w = w' := by
  have h1 : 97 ≤ (c.toNat : Int) := by simp [Q.isLet] at h; omega
  have h2 : (c.toNat : Int) ≤ 104 := by simp [Q.isLet] at h; omega
  clear h
  go_enter Tryz.func165, Tryz.ntmps165
  go_wp2
  go_ret2
  exact ⟨ret_intb (by omega) rfl, rfl⟩

set_option maxHeartbeats 400000 in
theorem keyOf_no (c : UInt8) (w : World) (h : Q.isLet c = false) :
    Calls Tryz.prog 165 #[.int .u8 c.toNat] w fun e w' => e = .returned (.tuple #[.int .i64 0, .bool false]) ∧ w = w' := by
  have h1 : (c.toNat : Int) < 97 ∨ (97 ≤ (c.toNat : Int) ∧ 105 ≤ (c.toNat : Int)) := by simp [Q.isLet] at h; omega
  clear h
  rcases h1 with h1 | ⟨h0, h1⟩
  all_goals
    go_enter Tryz.func165, Tryz.ntmps165
    go_wp2
    go_ret2
    exact ⟨rfl, rfl⟩

theorem drop_cons (s : ByteArray) (i : Nat) (h : i < s.size) : s.data.toList.drop i = s[i] :: s.data.toList.drop (i + 1) := by
  rw [List.drop_eq_getElem_cons (by simpa using h)]; rfl

/-- the seven ways through signAt, in the walk's own words. -/
theorem sg_plus (c : UInt8) (r : List UInt8) (h : ((c.toNat : Int) == 43) = true) : Q.sgn (c :: r) = (0, 1) := by
  have : c.toNat = 43 := by simp at h; omega
  simp [Q.sgn, this]
theorem sg_minus (c : UInt8) (r : List UInt8) (h : ((c.toNat : Int) == 45) = true) : Q.sgn (c :: r) = (1, 1) := by
  have : c.toNat = 45 := by simp at h; omega
  simp [Q.sgn, this]
theorem sg_alone (c : UInt8) (h : ((c.toNat : Int) == 43) = false) (h' : ((c.toNat : Int) == 45) = false) : Q.sgn [c] = (0, 0) := by
  have a : ¬ c.toNat = 43 := by simp at h; omega
  have b : ¬ c.toNat = 45 := by simp at h'; omega
  simp [Q.sgn, a, b]
theorem sg_times (c d : UInt8) (r : List UInt8) (h : (c.toNat : Int) = 195) (h' : ((d.toNat : Int) == 151) = true) : Q.sgn (c :: d :: r) = (2, 2) := by
  have a : c.toNat = 195 := by omega
  have b : d.toNat = 151 := by simp at h'; omega
  simp [Q.sgn, a, b]
theorem sg_over (c d : UInt8) (r : List UInt8) (h : (c.toNat : Int) = 195) (h' : ((d.toNat : Int) == 183) = true) : Q.sgn (c :: d :: r) = (3, 2) := by
  have a : c.toNat = 195 := by omega
  have b : d.toNat = 183 := by simp at h'; omega
  simp [Q.sgn, a, b]
theorem sg_none (c d : UInt8) (r : List UInt8) (h : (c.toNat : Int) = 195) (h' : ((d.toNat : Int) == 151) = false) (h2 : ((d.toNat : Int) == 183) = false) : Q.sgn (c :: d :: r) = (0, 0) := by
  have a : c.toNat = 195 := by omega
  have b : ¬ d.toNat = 151 := by simp at h'; omega
  have b' : ¬ d.toNat = 183 := by simp at h2; omega
  simp [Q.sgn, a, b, b']
theorem sg_other (c : UInt8) (r : List UInt8) (h : ((c.toNat : Int) == 43) = false) (h' : ((c.toNat : Int) == 45) = false) (h2 : ¬ (c.toNat : Int) = 195) : Q.sgn (c :: r) = (0, 0) := by
  have a : ¬ c.toNat = 43 := by simp at h; omega
  have b : ¬ c.toNat = 45 := by simp at h'; omega
  have b' : ¬ c.toNat = 195 := by omega
  simp [Q.sgn, a, b, b']
theorem ret_sgn {p : Nat × Nat} {a b : Int} {m n : Nat} (h : p = (m, n)) (ha : a = m) (hb : b = n) : Ending.returned (.tuple #[.int .i64 a, .int .i64 b]) = .returned (.tuple #[.int .i64 (p.1 : Int), .int .i64 (p.2 : Int)]) := by rw [h, ha, hb]

set_option maxHeartbeats 1000000 in
theorem signAt_any (s : ByteArray) (i : Nat) (w : World) (hs : s.size ≤ maxLen) (hi : i < s.size) :
    Calls Tryz.prog 166 #[.string s, .int .i64 i] w fun e w' =>
      e = .returned (.tuple #[.int .i64 ((Q.sgn (s.data.toList.drop i)).1 : Int), .int .i64 ((Q.sgn (s.data.toList.drop i)).2 : Int)]) ∧ w = w' := by
  unfold maxLen at hs
  have D : Hid (s.data.toList.drop i = s[i] :: s.data.toList.drop (i + 1)) := drop_cons s i hi
  have D1 : Hid (∀ h : i + 1 < s.size, s.data.toList.drop (i + 1) = s[i + 1] :: s.data.toList.drop (i + 1 + 1)) := fun h => drop_cons s (i + 1) h
  have D2 : Hid (¬ i + 1 < s.size → s.data.toList.drop (i + 1) = []) := fun h => List.drop_eq_nil_of_le (by simp; omega)
  go_enter Tryz.func166, Tryz.ntmps166
  go_wp2
  all_goals go_ret2
  · exact ⟨ret_sgn (by rw [D.out]; exact sg_plus _ _ ‹_›) rfl rfl, rfl⟩
  · exact ⟨ret_sgn (by rw [D.out]; exact sg_minus _ _ ‹_›) rfl rfl, rfl⟩
  · exact ⟨ret_sgn (by rw [D.out, D2.out (by omega)]; exact sg_alone _ ‹_› ‹_›) rfl rfl, rfl⟩
  · exact ⟨ret_sgn (by rw [D.out, D1.out (by omega)]; exact sg_times _ _ _ ‹_› ‹_›) rfl rfl, rfl⟩
  · exact ⟨ret_sgn (by rw [D.out, D1.out (by omega)]; exact sg_over _ _ _ ‹_› ‹_›) rfl rfl, rfl⟩
  · exact ⟨ret_sgn (by rw [D.out, D1.out (by omega)]; exact sg_none _ _ _ ‹_› ‹_› ‹_›) rfl rfl, rfl⟩
  · exact ⟨ret_sgn (by rw [D.out]; exact sg_other _ _ ‹_› ‹_› ‹_›) rfl rfl, rfl⟩

end Go.Proofs.YtpfcacedpkaihaaGreat
