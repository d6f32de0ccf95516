/- The program's world beside the document's: what both hold of the same (mathematics alone). -/
import Derived.Test.YtkednbbjofeecaaGreatDh
namespace Go.Proofs.YtkednbbjofeecaaGreat
open Go.RowKit

/-- how many of six seats are taken. -/
def seatN (s : Nat → SeatE) : Nat := (if (s 0).reads then 1 else 0) + (if (s 1).reads then 1 else 0) + (if (s 2).reads then 1 else 0) + (if (s 3).reads then 1 else 0) + (if (s 4).reads then 1 else 0) + (if (s 5).reads then 1 else 0)
theorem putSeat_self (s : Nat → SeatE) (j : Nat) (x : SeatE) : putSeat s j x j = x := by simp [putSeat]
theorem putSeat_ne (s : Nat → SeatE) (j i : Nat) (x : SeatE) (h : i ≠ j) : putSeat s j x i = s i := by simp [putSeat, h]

theorem seatN_put (s : Nat → SeatE) (j : Nat) (x : SeatE) (h : j < 6) : seatN (putSeat s j x) + (if (s j).reads then 1 else 0) = seatN s + (if x.reads then 1 else 0) := by
  rcases six h with rfl | rfl | rfl | rfl | rfl | rfl <;> simp [seatN, putSeat] <;> omega
theorem seatN_all {s : Nat → SeatE} (h : ∀ i, i < 6 → (s i).reads = true) : seatN s = 6 := by
  simp [seatN, h 0 (by omega), h 1 (by omega), h 2 (by omega), h 3 (by omega), h 4 (by omega), h 5 (by omega)]
theorem seatN_free {s : Nat → SeatE} {j : Nat} (hj : j < 6) (h : (s j).reads = false) : seatN s < 6 := by
  have := seatN_put s j ⟨true, 0, 0, 0⟩ hj
  rw [h] at this
  have h6 : seatN (putSeat s j ⟨true, 0, 0, 0⟩) ≤ 6 := by unfold seatN; split <;> split <;> split <;> split <;> split <;> split <;> omega
  simp at this; omega

theorem openN_append (l : List RdrE) (x : RdrE) : openN (l ++ [x]) = openN l + if x.ended then 0 else 1 := by
  unfold openN
  rw [List.filter_append, List.length_append]
  cases h : x.ended <;> simp [h]
theorem openN_set (l : List RdrE) (j : Nat) (x y : RdrE) (h : l[j]? = some x) : openN (l.set j y) + (if x.ended then 0 else 1) = openN l + (if y.ended then 0 else 1) := by
  induction l generalizing j with
  | nil => simp at h
  | cons a r ih =>
    match j with
    | 0 => simp at h; subst h; cases ha : a.ended <;> cases hy : y.ended <;> simp [openN, ha, hy]
    | j + 1 =>
      have := ih j (by simpa using h)
      cases ha : a.ended <;> simp [openN, ha] at this ⊢ <;> omega

/-- the readers of both. -/
structure SimR (begun : Nat) (s : Nat → SeatE) (l : List RdrE) (top : Nat) : Prop where
  begun : begun = l.length
  seat : ∀ i, i < 6 → (s i).reads = true → ∃ (j : Nat) (x : RdrE), (s i).num = j ∧ l[j]? = some x ∧ x.ended = false ∧ x.lo = (s i).lo ∧ x.hi = (s i).hi
  back : ∀ (j : Nat) (x : RdrE), l[j]? = some x → x.ended = false → ∃ i, i < 6 ∧ (s i).reads = true ∧ (s i).num = j
  one : ∀ i k, i < 6 → k < 6 → (s i).reads = true → (s k).reads = true → (s i).num = (s k).num → i = k
  count : openN l = seatN s
  span : ∀ x ∈ l, x.lo ≤ x.hi ∧ x.hi ≤ top

theorem SimR.beginS {b top : Nat} {s : Nat → SeatE} {l : List RdrE} (h : SimR b s l top) {j : Nat} (hj : j < 6) (hf : (s j).reads = false) (lo : Nat) (hlo : lo ≤ top) :
    SimR (b + 1) (putSeat s j ⟨true, b, lo, top⟩) (l ++ [⟨lo, top, false⟩]) top := by
  have hb := h.begun
  refine ⟨by simp [hb], ?_, ?_, ?_, ?_, ?_⟩
  · intro i hi hr
    by_cases e : i = j
    · subst e
      rw [putSeat_self]
      exact ⟨b, ⟨lo, top, false⟩, rfl, by rw [hb]; simp, rfl, rfl, rfl⟩
    · rw [putSeat_ne _ _ _ _ e] at hr ⊢
      obtain ⟨k, x, h1, h2, h3⟩ := h.seat i hi hr
      exact ⟨k, x, h1, by rw [List.getElem?_append_left (List.getElem?_eq_some_iff.mp h2).1]; exact h2, h3⟩
  · intro k x hx he
    by_cases hk : k < l.length
    · rw [List.getElem?_append_left hk] at hx
      obtain ⟨i, hi, hr, hn⟩ := h.back k x hx he
      have e : i ≠ j := by intro e; subst e; rw [hf] at hr; cases hr
      exact ⟨i, hi, by rw [putSeat_ne _ _ _ _ e]; exact hr, by rw [putSeat_ne _ _ _ _ e]; exact hn⟩
    · have hk2 : k < (l ++ [(⟨lo, top, false⟩ : RdrE)]).length := (List.getElem?_eq_some_iff.mp hx).1
      have : k = b := by simp at hk2; omega
      exact ⟨j, hj, by rw [putSeat_self], by rw [putSeat_self, this]⟩
  · intro i k hi hk hri hrk hn
    have key : ∀ i, i < 6 → i ≠ j → (s i).reads = true → (s i).num ≠ (b : Int) := by
      intro i hi _ hr e
      obtain ⟨q, x, h1, h2, _⟩ := h.seat i hi hr
      have := (List.getElem?_eq_some_iff.mp h2).1
      rw [e] at h1; omega
    by_cases ei : i = j
    · by_cases ek : k = j
      · omega
      · subst ei
        rw [putSeat_self, putSeat_ne _ _ _ _ ek] at hn
        rw [putSeat_ne _ _ _ _ ek] at hrk
        exact absurd hn.symm (key k hk ek hrk)
    · by_cases ek : k = j
      · subst ek
        rw [putSeat_self, putSeat_ne _ _ _ _ ei] at hn
        rw [putSeat_ne _ _ _ _ ei] at hri
        exact absurd hn (key i hi ei hri)
      · rw [putSeat_ne _ _ _ _ ei, putSeat_ne _ _ _ _ ek] at hn
        rw [putSeat_ne _ _ _ _ ei] at hri
        rw [putSeat_ne _ _ _ _ ek] at hrk
        exact h.one i k hi hk hri hrk hn
  · rw [openN_append, h.count]
    have := seatN_put s j ⟨true, b, lo, top⟩ hj
    rw [hf] at this
    simpa using this.symm
  · intro x hx
    rw [List.mem_append] at hx
    rcases hx with hx | hx
    · exact h.span x hx
    · simp at hx; subst hx; exact ⟨hlo, Nat.le_refl _⟩

theorem SimR.top {b t t' : Nat} {s : Nat → SeatE} {l : List RdrE} (h : SimR b s l t) (ht : t ≤ t') : SimR b s l t' :=
  ⟨h.begun, h.seat, h.back, h.one, h.count, fun x hx => ⟨(h.span x hx).1, Nat.le_trans (h.span x hx).2 ht⟩⟩

/-- a reader has another span, at both. -/
theorem SimR.endS {b top : Nat} {s : Nat → SeatE} {l : List RdrE} (h : SimR b s l top) {i j : Nat} {x : RdrE} (hi : i < 6) (hr : (s i).reads = true) (hn : (s i).num = j) (hx : l[j]? = some x) (he : x.ended = false) :
    SimR b (putSeat s i ⟨false, 0, 0, 0⟩) (l.set j { x with ended := true }) top := by
  have hlt := (List.getElem?_eq_some_iff.mp hx).1
  refine ⟨by simp [h.begun], ?_, ?_, ?_, ?_, ?_⟩
  · intro k hk hrk
    by_cases e : k = i
    · subst e; rw [putSeat_self] at hrk; cases hrk
    · rw [putSeat_ne _ _ _ _ e] at hrk ⊢
      obtain ⟨q, y, h1, h2, h3⟩ := h.seat k hk hrk
      have hq : q ≠ j := fun eq => e (h.one k i hk hi hrk hr (by rw [h1, hn, eq]))
      exact ⟨q, y, h1, by rw [List.getElem?_set_ne (fun z => hq z.symm)]; exact h2, h3⟩
  · intro q y hy hye
    by_cases e : q = j
    · subst e
      rw [List.getElem?_set_self hlt] at hy
      injection hy with hy; subst hy; cases hye
    · rw [List.getElem?_set_ne (fun z => e z.symm)] at hy
      obtain ⟨k, hk, hrk, hnk⟩ := h.back q y hy hye
      have hki : k ≠ i := by intro eq; subst eq; rw [hn] at hnk; omega
      exact ⟨k, hk, by rw [putSeat_ne _ _ _ _ hki]; exact hrk, by rw [putSeat_ne _ _ _ _ hki]; exact hnk⟩
  · intro p q hp hq hrp hrq hnn
    by_cases ep : p = i
    · subst ep; rw [putSeat_self] at hrp; cases hrp
    · by_cases eq : q = i
      · subst eq; rw [putSeat_self] at hrq; cases hrq
      · rw [putSeat_ne _ _ _ _ ep, putSeat_ne _ _ _ _ eq] at hnn
        rw [putSeat_ne _ _ _ _ ep] at hrp
        rw [putSeat_ne _ _ _ _ eq] at hrq
        exact h.one p q hp hq hrp hrq hnn
  · have a := openN_set l j x { x with ended := true } hx
    have c := seatN_put s i ⟨false, 0, 0, 0⟩ hi
    have d := h.count
    rw [he] at a
    rw [hr] at c
    simp at a c
    omega
  · intro y hy
    rcases List.mem_or_eq_of_mem_set hy with hy | rfl
    · exact h.span y hy
    · exact h.span x (List.mem_of_getElem? hx)

/-- the least stamp from a tick on: the first commit at the tick or later ends what was newest. -/
theorem least_cons {l : List PastE} {tick : Int} {j : Nat} (hj : j ≤ l.length) (hb : ∀ i (h : i < l.length), i < j → l[i].tick < tick) (hs : ∀ (h : j < l.length), tick ≤ l[j].tick) (z : PastE) : Least (z :: l) tick j := by
  refine ⟨by simp; omega, ?_, ?_⟩
  · by_cases e : j < l.length
    · have := hs e
      simp [freshB, List.getElem?_eq_getElem e, this]
    · have : j = l.length := by omega
      simp [freshB, this]
  · intro i hi
    have hil : i < l.length := by omega
    have := hb i hil hi
    have h2 : ¬ i = l.length := by omega
    simp [freshB, List.getElem?_eq_getElem hil, h2]
    omega
theorem Least.unique {l : List PastE} {tick : Int} {a b : Nat} (h : Least l tick a) (k : Least l tick b) : a = b := by
  rcases Nat.lt_trichotomy a b with x | x | x
  · have := k.2.2 a x; rw [h.2.1] at this; cases this
  · exact x
  · have := h.2.2 b x; rw [k.2.1] at this; cases this

/-- both worlds hold the same; no node remembers anything. -/
structure Sim (D : DevS) (R : RefS) : Prop where
  past : R.past = zeroP :: D.past
  clock : R.clock = D.clock
  rdr : SimR D.begun D.seats R.rdrs D.past.length
  puts : R.puts = D.puts
  calm : ∀ nd ∈ R.nodes, nd.wts = [] ∧ nd.ents = [] ∧ nd.nms = []

theorem Sim.len {D : DevS} {R : RefS} (h : Sim D R) : R.past.length = D.past.length + 1 := by rw [h.past]; simp

theorem told_calm {l l' : List NodeE} {t : Nat} (h : ToldTo l l' t l.length) (hc : ∀ nd ∈ l, nd.wts = [] ∧ nd.ents = [] ∧ nd.nms = []) : ∀ nd ∈ l', nd.wts = [] ∧ nd.ents = [] ∧ nd.nms = [] := by
  intro nd hnd
  obtain ⟨j, hj⟩ := List.getElem?_of_mem hnd
  have hlt : j < l.length := by rw [← h.1]; exact (List.getElem?_eq_some_iff.mp hj).1
  obtain ⟨v, hv⟩ := (h.2 j l[j] (List.getElem?_eq_getElem hlt)).1 hlt
  rw [hj] at hv
  injection hv with hv
  subst hv
  have hm := hc l[j] (List.getElem_mem hlt)
  unfold tellN leftN
  split
  · exact ⟨rfl, rfl, rfl⟩
  · exact hm

theorem last_st {D : DevS} {R : RefS} {p : PastE} (h : Sim D R) (hp : R.past[R.past.length - 1]? = some p) : stAt D.past D.past.length = p.st := by
  rw [h.len, h.past, Nat.add_sub_cancel] at hp
  unfold stAt
  by_cases e : D.past.length = 0
  · rw [e] at hp
    simp at hp
    rw [if_pos e, ← hp]; rfl
  · rw [if_neg e]
    obtain ⟨m, hm⟩ : ∃ m, D.past.length = m + 1 := ⟨D.past.length - 1, by omega⟩
    rw [hm] at hp ⊢
    rw [List.getElem?_cons_succ] at hp
    rw [Nat.add_sub_cancel, hp]; rfl

theorem Sim.commit {D : DevS} {R : RefS} {p : PastE} {ws : List (Int × Int)} {v v' : Value} {l : List NodeE} (h : Sim D R) (hp : R.past[R.past.length - 1]? = some p) (ht : ToldTo R.nodes l R.past.length R.nodes.length) :
    Sim (D.pushP (D.nextP ws) v) { R.pushP (writesP { p with keys := 0, tick := R.clock } ws) v' with nodes := l } := by
  refine ⟨?_, h.clock, ?_, h.puts, told_calm ht h.calm⟩
  · show R.past ++ [_] = zeroP :: (D.past ++ [_])
    rw [h.past]
    have e : ({ p with keys := 0, tick := R.clock } : PastE) = ⟨stAt D.past D.past.length, 0, D.clock⟩ := by rw [last_st h hp, h.clock]
    rw [e]; rfl
  · show SimR D.begun D.seats R.rdrs (D.past ++ [_]).length
    exact h.rdr.top (by simp)

end Go.Proofs.YtkednbbjofeecaaGreat
