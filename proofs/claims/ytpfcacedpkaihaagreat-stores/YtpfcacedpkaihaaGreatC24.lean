import Derived.Test.YtpfcacedpkaihaaGreatC23
namespace Go.Proofs.YtpfcacedpkaihaaGreat
open Go.RowKit
set_option maxRecDepth 100000
set_option maxHeartbeats 16000000
def seatN (s : Nat → SeatE) : Nat := (if (s 0).reads then 1 else 0) + (if (s 1).reads then 1 else 0) + (if (s 2).reads then 1 else 0) + (if (s 3).reads then 1 else 0) + (if (s 4).reads then 1 else 0) + (if (s 5).reads then 1 else 0)
theorem putSeat_self (s : Nat → SeatE) (j : Nat) (x : SeatE) : putSeat s j x j = x := by simp [putSeat]
theorem putSeat_ne (s : Nat → SeatE) (j i : Nat) (x : SeatE) (h : i ≠ j) : putSeat s j x i = s i := by simp [putSeat, h]
theorem seatN_put (s : Nat → SeatE) (j : Nat) (x : SeatE) (h : j < 6) : seatN (putSeat s j x) + (if (s j).reads then 1 else 0) = seatN s + (if x.reads then 1 else 0) := by
 rcases six h with rfl | rfl | rfl | rfl | rfl | rfl <;> simp [seatN, putSeat] <;> omega
theorem seatN_all {s : Nat → SeatE} (h : ∀ i, i < 6 → (s i).reads = true) : seatN s = 6 := by
 simp [seatN, h 0 (by omega), h 1 (by omega), h 2 (by omega), h 3 (by omega), h 4 (by omega), h 5 (by omega)]
theorem seatN_free {s : Nat → SeatE} {j : Nat} (hj : j < 6) (h : (s j).reads = false) : seatN s < 6 := by
 have := seatN_put s j ⟨true, 0, 0, 0⟩ hj
 rw [h] at this
 have h6 : seatN (putSeat s j ⟨true, 0, 0, 0⟩) ≤ 6 := by unfold seatN; split <;> split <;> split <;> split <;> split <;> split <;> omega
 simp at this; omega
theorem openN_append (l : List RdrE) (x : RdrE) : openN (l ++ [x]) = openN l + if x.ended then 0 else 1 := by
 unfold openN
 rw [List.filter_append, List.length_append]
 cases h : x.ended <;> simp [h]
theorem openN_set (l : List RdrE) (j : Nat) (x y : RdrE) (h : l[j]? = some x) : openN (l.set j y) + (if x.ended then 0 else 1) = openN l + (if y.ended then 0 else 1) := by
 induction l generalizing j with
 | nil => simp at h
 | cons a r ih =>
  match j with
  | 0 => simp at h; subst h; cases ha : a.ended <;> cases hy : y.ended <;> simp [openN, ha, hy]
  | j + 1 =>
   have := ih j (by simpa using h)
   cases ha : a.ended <;> simp [openN, ha] at this ⊢ <;> omega
structure SimR (begun : Nat) (s : Nat → SeatE) (l : List RdrE) (top : Nat) : Prop where
 begun : begun = l.length
 seat : ∀ i, i < 6 → (s i).reads = true → ∃ (j : Nat) (x : RdrE), (s i).num = j ∧ l[j]? = some x ∧ x.ended = false ∧ x.lo = (s i).lo ∧ x.hi = (s i).hi
 back : ∀ (j : Nat) (x : RdrE), l[j]? = some x → x.ended = false → ∃ i, i < 6 ∧ (s i).reads = true ∧ (s i).num = j
 one : ∀ i k, i < 6 → k < 6 → (s i).reads = true → (s k).reads = true → (s i).num = (s k).num → i = k
 count : openN l = seatN s
 span : ∀ x ∈ l, x.lo ≤ x.hi ∧ x.hi ≤ top
theorem SimR.beginS {b top : Nat} {s : Nat → SeatE} {l : List RdrE} (h : SimR b s l top) {j : Nat} (hj : j < 6) (hf : (s j).reads = false) (lo : Nat) (hlo : lo ≤ top) :
 SimR (b + 1) (putSeat s j ⟨true, b, lo, top⟩) (l ++ [⟨lo, top, false⟩]) top := by
 have hb := h.begun
 refine ⟨by simp [hb], ?_, ?_, ?_, ?_, ?_⟩
 · intro i hi hr
   by_cases e : i = j
   · subst e
     rw [putSeat_self]
     exact ⟨b, ⟨lo, top, false⟩, rfl, by rw [hb]; simp, rfl, rfl, rfl⟩
   · rw [putSeat_ne _ _ _ _ e] at hr ⊢
     obtain ⟨k, x, h1, h2, h3⟩ := h.seat i hi hr
     exact ⟨k, x, h1, by rw [List.getElem?_append_left (List.getElem?_eq_some_iff.mp h2).1]; exact h2, h3⟩
 · intro k x hx he
   by_cases hk : k < l.length
   · rw [List.getElem?_append_left hk] at hx
     obtain ⟨i, hi, hr, hn⟩ := h.back k x hx he
     have e : i ≠ j := by intro e; subst e; rw [hf] at hr; cases hr
     exact ⟨i, hi, by rw [putSeat_ne _ _ _ _ e]; exact hr, by rw [putSeat_ne _ _ _ _ e]; exact hn⟩
   · have hk2 : k < (l ++ [(⟨lo, top, false⟩ : RdrE)]).length := (List.getElem?_eq_some_iff.mp hx).1
     have : k = b := by simp at hk2; omega
     exact ⟨j, hj, by rw [putSeat_self], by rw [putSeat_self, this]⟩
 · intro i k hi hk hri hrk hn
   have key : ∀ i, i < 6 → i ≠ j → (s i).reads = true → (s i).num ≠ (b : Int) := by
    intro i hi _ hr e
    obtain ⟨q, x, h1, h2, _⟩ := h.seat i hi hr
    have := (List.getElem?_eq_some_iff.mp h2).1
    rw [e] at h1; omega
   by_cases ei : i = j
   · by_cases ek : k = j
     · omega
     · subst ei
       rw [putSeat_self, putSeat_ne _ _ _ _ ek] at hn
       rw [putSeat_ne _ _ _ _ ek] at hrk
       exact absurd hn.symm (key k hk ek hrk)
   · by_cases ek : k = j
     · subst ek
       rw [putSeat_self, putSeat_ne _ _ _ _ ei] at hn
       rw [putSeat_ne _ _ _ _ ei] at hri
       exact absurd hn (key i hi ei hri)
     · rw [putSeat_ne _ _ _ _ ei, putSeat_ne _ _ _ _ ek] at hn
       rw [putSeat_ne _ _ _ _ ei] at hri
       rw [putSeat_ne _ _ _ _ ek] at hrk
       exact h.one i k hi hk hri hrk hn
 · rw [openN_append, h.count]
   have := seatN_put s j ⟨true, b, lo, top⟩ hj
   rw [hf] at this
   simpa using this.symm
 · intro x hx
   rw [List.mem_append] at hx
   rcases hx with hx | hx
   · exact h.span x hx
   · simp at hx; subst hx; exact ⟨hlo, Nat.le_refl _⟩
theorem SimR.top {b t t' : Nat} {s : Nat → SeatE} {l : List RdrE} (h : SimR b s l t) (ht : t ≤ t') : SimR b s l t' :=
 ⟨h.begun, h.seat, h.back, h.one, h.count, fun x hx => ⟨(h.span x hx).1, Nat.le_trans (h.span x hx).2 ht⟩⟩
theorem SimR.endS {b top : Nat} {s : Nat → SeatE} {l : List RdrE} (h : SimR b s l top) {i j : Nat} {x : RdrE} (hi : i < 6) (hr : (s i).reads = true) (hn : (s i).num = j) (hx : l[j]? = some x) (he : x.ended = false) :
 SimR b (putSeat s i ⟨false, 0, 0, 0⟩) (l.set j { x with ended := true }) top := by
 have hlt := (List.getElem?_eq_some_iff.mp hx).1
 refine ⟨by simp [h.begun], ?_, ?_, ?_, ?_, ?_⟩
 · intro k hk hrk
   by_cases e : k = i
   · subst e; rw [putSeat_self] at hrk; cases hrk
   · rw [putSeat_ne _ _ _ _ e] at hrk ⊢
     obtain ⟨q, y, h1, h2, h3⟩ := h.seat k hk hrk
     have hq : q ≠ j := fun eq => e (h.one k i hk hi hrk hr (by rw [h1, hn, eq]))
     exact ⟨q, y, h1, by rw [List.getElem?_set_ne (fun z => hq z.symm)]; exact h2, h3⟩
 · intro q y hy hye
   by_cases e : q = j
   · subst e
     rw [List.getElem?_set_self hlt] at hy
     injection hy with hy; subst hy; cases hye
   · rw [List.getElem?_set_ne (fun z => e z.symm)] at hy
     obtain ⟨k, hk, hrk, hnk⟩ := h.back q y hy hye
     have hki : k ≠ i := by intro eq; subst eq; rw [hn] at hnk; omega
     exact ⟨k, hk, by rw [putSeat_ne _ _ _ _ hki]; exact hrk, by rw [putSeat_ne _ _ _ _ hki]; exact hnk⟩
 · intro p q hp hq hrp hrq hnn
   by_cases ep : p = i
   · subst ep; rw [putSeat_self] at hrp; cases hrp
   · by_cases eq : q = i
     · subst eq; rw [putSeat_self] at hrq; cases hrq
     · rw [putSeat_ne _ _ _ _ ep, putSeat_ne _ _ _ _ eq] at hnn
       rw [putSeat_ne _ _ _ _ ep] at hrp
       rw [putSeat_ne _ _ _ _ eq] at hrq
       exact h.one p q hp hq hrp hrq hnn
 · have a := openN_set l j x { x with ended := true } hx
   have c := seatN_put s i ⟨false, 0, 0, 0⟩ hi
   have d := h.count
   rw [he] at a
   rw [hr] at c
   simp at a c
   omega
 · intro y hy
   rcases List.mem_or_eq_of_mem_set hy with hy | rfl
   · exact h.span y hy
   · exact h.span x (List.mem_of_getElem? hx)
theorem SimR.cutS {b top : Nat} {s : Nat → SeatE} {l : List RdrE} (h : SimR b s l top) {i j f g : Nat} {x : RdrE} (hi : i < 6) (hr : (s i).reads = true) (hn : (s i).num = j) (hx : l[j]? = some x) (hf : max x.lo f ≤ min x.hi g) (hlo : x.lo = (s i).lo) (hhi : x.hi = (s i).hi) (he : x.ended = false) :
 SimR b (putSeat s i ((s i).cut f g)) (l.set j { x with lo := max x.lo f, hi := min x.hi g }) top := by
 have hlt := (List.getElem?_eq_some_iff.mp hx).1
 have rd : ∀ k, (putSeat s i ((s i).cut f g) k).reads = (s k).reads := fun k => by by_cases e : k = i <;> simp [putSeat, e, SeatE.cut]
 have nm : ∀ k, (putSeat s i ((s i).cut f g) k).num = (s k).num := fun k => by by_cases e : k = i <;> simp [putSeat, e, SeatE.cut]
 refine ⟨by simp [h.begun], ?_, ?_, ?_, ?_, ?_⟩
 · intro k hk hrk
   rw [rd] at hrk
   rw [nm]
   by_cases e : k = i
   · subst e
     refine ⟨j, { x with lo := max x.lo f, hi := min x.hi g }, hn, List.getElem?_set_self hlt, he, ?_, ?_⟩
     · rw [putSeat_self]; show max x.lo f = max (s k).lo f; rw [hlo]
     · rw [putSeat_self]; show min x.hi g = min (s k).hi g; rw [hhi]
   · obtain ⟨q, y, h1, h2, h3⟩ := h.seat k hk hrk
     have hq : q ≠ j := fun eq => e (h.one k i hk hi hrk hr (by rw [h1, hn, eq]))
     rw [putSeat_ne _ _ _ _ e]
     exact ⟨q, y, h1, by rw [List.getElem?_set_ne (fun z => hq z.symm)]; exact h2, h3⟩
 · intro q y hy hye
   by_cases e : q = j
   · subst e
     exact ⟨i, hi, by rw [rd]; exact hr, by rw [nm]; exact hn⟩
   · rw [List.getElem?_set_ne (fun z => e z.symm)] at hy
     obtain ⟨k, hk, hrk, hnk⟩ := h.back q y hy hye
     exact ⟨k, hk, by rw [rd]; exact hrk, by rw [nm]; exact hnk⟩
 · intro p q hp hq hrp hrq hnn
   rw [rd] at hrp hrq
   rw [nm, nm] at hnn
   exact h.one p q hp hq hrp hrq hnn
 · have a := openN_set l j x { x with lo := max x.lo f, hi := min x.hi g } hx
   have c := seatN_put s i ((s i).cut f g) hi
   have d := h.count
   have e : ((s i).cut f g).reads = (s i).reads := rfl
   rw [e] at c
   have e2 : ({ x with lo := max x.lo f, hi := min x.hi g } : RdrE).ended = x.ended := rfl
   rw [e2] at a
   omega
 · intro y hy
   rcases List.mem_or_eq_of_mem_set hy with hy | rfl
   · exact h.span y hy
   · have := h.span x (List.mem_of_getElem? hx)
     refine ⟨hf, ?_⟩
     show min x.hi g ≤ top
     omega
end Go.Proofs.YtpfcacedpkaihaaGreat
