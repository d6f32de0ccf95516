/- The texts that the law Parsed makes: letters with signs between them; what they are cut into. -/
import Derived.Test.YtpfcacedpkaihaaQh
import Derived.Test.YtpfcacedpkaihaaRa
namespace Go.Proofs.Ytpfcacedpkaihaa
open Go.RowKit

/-- a sign's bytes, as the law's table has them. -/
def sgB : Nat → ByteArray
  | 0 => ⟨#[43]⟩
  | 1 => ⟨#[45]⟩
  | 2 => ⟨#[195, 151]⟩
  | _ => ⟨#[195, 183]⟩

def letB (k : Nat) : UInt8 := UInt8.ofNat (97 + k)
def rend (vs : List (Nat × Nat)) : List UInt8 := vs.flatMap fun t => (sgB t.1).data.toList ++ [letB t.2]

theorem let_toNat {k : Nat} (h : k ≤ 7) : (letB k).toNat = 97 + k := by
  simp [letB]; omega
theorem let_is {k : Nat} (h : k ≤ 7) : Q.isLet (letB k) = true := by simp [Q.isLet, let_toNat h]; omega

theorem cut_sign (sg a : Nat) (c : UInt8) (r : List UInt8) (hc : Q.isLet c = true) (ha : a ≤ 3) :
    Q.cutL sg (c :: ((sgB a).data.toList ++ r)) = (Q.cutL a r).map ((sg, c.toNat - 97) :: ·) := by
  have h : a = 0 ∨ a = 1 ∨ a = 2 ∨ a = 3 := by omega
  rw [Q.cutL_more _ _ _ hc (by rcases h with rfl | rfl | rfl | rfl <;> simp [sgB])]
  rcases h with rfl | rfl | rfl | rfl <;> simp [sgB, Q.sgn]

theorem cut_rend (vs : List (Nat × Nat)) (tail : List UInt8) : ∀ (sg : Nat) (c : UInt8), Q.isLet c = true → (∀ t ∈ vs, t.1 ≤ 3 ∧ t.2 ≤ 7) →
    Q.cutL sg (c :: (rend vs ++ tail)) = match vs.getLast? with
      | none => Q.cutL sg (c :: tail)
      | some t => (Q.cutL t.1 (letB t.2 :: tail)).map (fun l => (sg, c.toNat - 97) :: (vs.dropLast ++ l)) := by
  induction vs with
  | nil => intro sg c _ _; simp [rend]
  | cons t r ih =>
    intro sg c hc hv
    have ht := hv t (by simp)
    have e : rend (t :: r) ++ tail = (sgB t.1).data.toList ++ (letB t.2 :: (rend r ++ tail)) := by simp [rend]
    rw [e, cut_sign _ _ _ _ hc ht.1, ih t.1 (letB t.2) (let_is ht.2) (fun u hu => hv u (by simp [hu]))]
    cases hr : r.getLast? with
    | none =>
      have : r = [] := by simpa using hr
      subst this
      simp
    | some u =>
      have hne : r ≠ [] := by intro h; subst h; simp at hr
      have e2 : (t :: r).getLast? = some u := by rw [List.getLast?_cons, hr]; rfl
      rw [e2]
      simp only [Option.map_map]
      congr 1
      funext l
      simp [List.dropLast_cons_of_ne_nil hne, let_toNat ht.2]

theorem cut_good (vs : List (Nat × Nat)) (hv : ∀ t ∈ vs, t.1 ≤ 3 ∧ t.2 ≤ 7) : Q.cutL 0 (99 :: rend vs) = some ((0, 2) :: vs) := by
  have h := cut_rend vs [] 0 99 (by decide) hv
  rw [List.append_nil] at h
  rw [h]
  cases hr : vs.getLast? with
  | none => have : vs = [] := by simpa using hr
            subst this; rfl
  | some t =>
    have hm := hv t (List.mem_of_getLast? hr)
    have hne : vs ≠ [] := by intro h; subst h; simp at hr
    simp only [Q.cutL_one _ _ (let_is hm.2), Option.map_some, let_toNat hm.2]
    have e := List.dropLast_concat_getLast hne
    have e3 : vs.getLast hne = t := by rw [List.getLast?_eq_some_getLast hne] at hr; simpa using hr
    rw [e3] at e
    simp [e]

theorem cut_letter (vs : List (Nat × Nat)) (hv : ∀ t ∈ vs, t.1 ≤ 3 ∧ t.2 ≤ 7) (z : UInt8) (hz : z = 97 ∨ z = 43) : Q.cutL 0 (99 :: (rend vs ++ [z])) = none := by
  rw [cut_rend vs [z] 0 99 (by decide) hv]
  have key : ∀ sg (c : UInt8), Q.isLet c = true → Q.cutL sg [c, z] = none := by
    intro sg c hc
    rcases hz with rfl | rfl
    · rw [Q.cutL_more _ _ _ hc (by simp)]; rfl
    · rw [Q.cutL_more _ _ _ hc (by simp)]; rfl
  cases hr : vs.getLast? with
  | none => exact key _ _ (by decide)
  | some t =>
    have hm := hv t (List.mem_of_getLast? hr)
    simp [key _ _ (let_is hm.2)]

theorem cut_minus (l : List UInt8) : Q.cutL 0 (45 :: l) = none := Q.cutL_notlet _ _ _ (by decide)

theorem rend_length (vs : List (Nat × Nat)) : (rend vs).length ≤ 3 * vs.length := by
  induction vs with
  | nil => simp [rend]
  | cons t r ih =>
    have h : (sgB t.1).data.toList.length ≤ 2 := by
      unfold sgB; split <;> decide
    simp only [rend, List.flatMap_cons, List.length_append, List.length_cons, List.length_nil] at ih ⊢
    simp only [Array.length_toList] at h
    simp only [Array.length_toList] at ih ⊢
    omega

/-- what Parse reads in the four texts of the law. -/
theorem read_text (t : ByteArray) (vs : List (Nat × Nat)) (ht : t.data.toList = 99 :: rend vs) (hv : ∀ t ∈ vs, t.1 ≤ 3 ∧ t.2 ≤ 7) (h7 : vs.length ≤ 7) :
    Q.readL t.data.toList = (0, (0, 2) :: vs) := by
  have hl := rend_length vs
  unfold Q.readL
  rw [ht, if_neg (by simp; omega), cut_good vs hv]
  simp only
  rw [if_neg (by simp; omega)]
theorem read_more (t : List UInt8) (z : UInt8) (vs : List (Nat × Nat)) (ht : t = 99 :: rend vs) (hv : ∀ t ∈ vs, t.1 ≤ 3 ∧ t.2 ≤ 7) (h7 : vs.length ≤ 7) (hz : z = 97 ∨ z = 43) :
    Q.readL (t ++ [z]) = (4, []) := by
  have hl := rend_length vs
  unfold Q.readL
  rw [ht, if_neg (by simp; omega), List.cons_append, cut_letter vs hv z hz]
theorem read_less (t : List UInt8) (vs : List (Nat × Nat)) (ht : t = 99 :: rend vs) (h7 : vs.length ≤ 7) : Q.readL (45 :: t) = (4, []) := by
  have hl := rend_length vs
  unfold Q.readL
  rw [if_neg (by rw [ht]; simp; omega), cut_minus]

end Go.Proofs.Ytpfcacedpkaihaa
