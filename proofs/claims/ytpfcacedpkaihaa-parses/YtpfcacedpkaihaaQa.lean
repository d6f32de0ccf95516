/- What the two readers of bytes of package queries answer: keyOf and signAt, at every byte and every place. -/
import Derived.Test.YtpfcacedpkaihaaMath
import Derived.Test.YtpfcacedpkaihaaRows
import Derived.WalkKit
import Derived.WalkSpells
import Derived.WalkLawsBesides
namespace Go.Proofs.Ytpfcacedpkaihaa
open Go.RowKit

theorem ret_two {k l : IntKind} {a b c d : Int} (h : a = c) (g : b = d) : Ending.returned (.tuple #[.int k a, .int l b]) = .returned (.tuple #[.int k c, .int l d]) := by rw [h, g]
theorem ret_intb {k : IntKind} {a c : Int} {b d : Bool} (h : a = c) (g : b = d) : Ending.returned (.tuple #[.int k a, .bool b]) = .returned (.tuple #[.int k c, .bool d]) := by rw [h, g]

set_option maxHeartbeats 400000 in
theorem keyOf_yes (c : UInt8) (w : World) (h : Q.isLet c = true) :
    Calls Try.prog 85 #[.int .u8 c.toNat] w fun e w' => e = .returned (.tuple #[.int .i64 ((c.toNat - 97 : Nat) : Int), .bool true]) ∧ w = w' := by
  have h1 : 97 ≤ (c.toNat : Int) := by simp [Q.isLet] at h; omega
  have h2 : (c.toNat : Int) ≤ 104 := by simp [Q.isLet] at h; omega
  clear h
  go_enter Try.func85, Try.ntmps85
  go_wp2
  go_ret2
  exact ⟨ret_intb (by omega) rfl, rfl⟩

set_option maxHeartbeats 400000 in
theorem keyOf_no (c : UInt8) (w : World) (h : Q.isLet c = false) :
    Calls Try.prog 85 #[.int .u8 c.toNat] w fun e w' => e = .returned (.tuple #[.int .i64 0, .bool false]) ∧ w = w' := by
  have h1 : (c.toNat : Int) < 97 ∨ (97 ≤ (c.toNat : Int) ∧ 105 ≤ (c.toNat : Int)) := by simp [Q.isLet] at h; omega
  clear h
  rcases h1 with h1 | ⟨h0, h1⟩
  all_goals
    go_enter Try.func85, Try.ntmps85
    go_wp2
    go_ret2
    exact ⟨rfl, rfl⟩

theorem drop_cons (s : ByteArray) (i : Nat) (h : i < s.size) : s.data.toList.drop i = s[i] :: s.data.toList.drop (i + 1) := by
  rw [List.drop_eq_getElem_cons (by simpa using h)]; rfl

/-- the seven ways through signAt, in the walk's own words. -/
theorem sg_plus (c : UInt8) (r : List UInt8) (h : ((c.toNat : Int) == 43) = true) : Q.sgn (c :: r) = (0, 1) := by
  have : c.toNat = 43 := by simp at h; omega
  simp [Q.sgn, this]
theorem sg_minus (c : UInt8) (r : List UInt8) (h : ((c.toNat : Int) == 45) = true) : Q.sgn (c :: r) = (1, 1) := by
  have : c.toNat = 45 := by simp at h; omega
  simp [Q.sgn, this]
theorem sg_alone (c : UInt8) (h : ((c.toNat : Int) == 43) = false) (h' : ((c.toNat : Int) == 45) = false) : Q.sgn [c] = (0, 0) := by
  have a : ¬ c.toNat = 43 := by simp at h; omega
  have b : ¬ c.toNat = 45 := by simp at h'; omega
  simp [Q.sgn, a, b]
theorem sg_times (c d : UInt8) (r : List UInt8) (h : (c.toNat : Int) = 195) (h' : ((d.toNat : Int) == 151) = true) : Q.sgn (c :: d :: r) = (2, 2) := by
  have a : c.toNat = 195 := by omega
  have b : d.toNat = 151 := by simp at h'; omega
  simp [Q.sgn, a, b]
theorem sg_over (c d : UInt8) (r : List UInt8) (h : (c.toNat : Int) = 195) (h' : ((d.toNat : Int) == 183) = true) : Q.sgn (c :: d :: r) = (3, 2) := by
  have a : c.toNat = 195 := by omega
  have b : d.toNat = 183 := by simp at h'; omega
  simp [Q.sgn, a, b]
theorem sg_none (c d : UInt8) (r : List UInt8) (h : (c.toNat : Int) = 195) (h' : ((d.toNat : Int) == 151) = false) (h2 : ((d.toNat : Int) == 183) = false) : Q.sgn (c :: d :: r) = (0, 0) := by
  have a : c.toNat = 195 := by omega
  have b : ¬ d.toNat = 151 := by simp at h'; omega
  have b' : ¬ d.toNat = 183 := by simp at h2; omega
  simp [Q.sgn, a, b, b']
theorem sg_other (c : UInt8) (r : List UInt8) (h : ((c.toNat : Int) == 43) = false) (h' : ((c.toNat : Int) == 45) = false) (h2 : ¬ (c.toNat : Int) = 195) : Q.sgn (c :: r) = (0, 0) := by
  have a : ¬ c.toNat = 43 := by simp at h; omega
  have b : ¬ c.toNat = 45 := by simp at h'; omega
  have b' : ¬ c.toNat = 195 := by omega
  simp [Q.sgn, a, b, b']
theorem ret_sgn {p : Nat × Nat} {a b : Int} {m n : Nat} (h : p = (m, n)) (ha : a = m) (hb : b = n) : Ending.returned (.tuple #[.int .i64 a, .int .i64 b]) = .returned (.tuple #[.int .i64 (p.1 : Int), .int .i64 (p.2 : Int)]) := by rw [h, ha, hb]

set_option maxHeartbeats 1000000 in
theorem signAt_any (s : ByteArray) (i : Nat) (w : World) (hs : s.size ≤ maxLen) (hi : i < s.size) :
    Calls Try.prog 86 #[.string s, .int .i64 i] w fun e w' =>
      e = .returned (.tuple #[.int .i64 ((Q.sgn (s.data.toList.drop i)).1 : Int), .int .i64 ((Q.sgn (s.data.toList.drop i)).2 : Int)]) ∧ w = w' := by
  unfold maxLen at hs
  have D : Hid (s.data.toList.drop i = s[i] :: s.data.toList.drop (i + 1)) := drop_cons s i hi
  have D1 : Hid (∀ h : i + 1 < s.size, s.data.toList.drop (i + 1) = s[i + 1] :: s.data.toList.drop (i + 1 + 1)) := fun h => drop_cons s (i + 1) h
  have D2 : Hid (¬ i + 1 < s.size → s.data.toList.drop (i + 1) = []) := fun h => List.drop_eq_nil_of_le (by simp; omega)
  go_enter Try.func86, Try.ntmps86
  go_wp2
  all_goals go_ret2
  · exact ⟨ret_sgn (by rw [D.out]; exact sg_plus _ _ ‹_›) rfl rfl, rfl⟩
  · exact ⟨ret_sgn (by rw [D.out]; exact sg_minus _ _ ‹_›) rfl rfl, rfl⟩
  · exact ⟨ret_sgn (by rw [D.out, D2.out (by omega)]; exact sg_alone _ ‹_› ‹_›) rfl rfl, rfl⟩
  · exact ⟨ret_sgn (by rw [D.out, D1.out (by omega)]; exact sg_times _ _ _ ‹_› ‹_›) rfl rfl, rfl⟩
  · exact ⟨ret_sgn (by rw [D.out, D1.out (by omega)]; exact sg_over _ _ _ ‹_› ‹_›) rfl rfl, rfl⟩
  · exact ⟨ret_sgn (by rw [D.out, D1.out (by omega)]; exact sg_none _ _ _ ‹_› ‹_› ‹_›) rfl rfl, rfl⟩
  · exact ⟨ret_sgn (by rw [D.out]; exact sg_other _ _ ‹_› ‹_› ‹_›) rfl rfl, rfl⟩

end Go.Proofs.Ytpfcacedpkaihaa
