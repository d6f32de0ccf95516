import Derived.Test.YtpfcacedpkaihaaGreatC30
namespace Go.Proofs.YtpfcacedpkaihaaGreat
open Go.RowKit
set_option maxRecDepth 100000
set_option maxHeartbeats 16000000
theorem lastN_le (l : List Int) (x : Int) : ∀ n, lastN l x n < (n : Int)
 | 0 => by simp [lastN]
 | n + 1 => by
  have := lastN_le l x n
  simp only [lastN]
  split <;> omega
theorem lastN_app (l m : List Int) (x : Int) : ∀ n, n ≤ l.length → lastN (l ++ m) x n = lastN l x n
 | 0, _ => rfl
 | n + 1, h => by
  simp only [lastN]
  rw [List.getElem?_append_left (by omega), lastN_app l m x n (by omega)]
theorem lastP_lt (us : List Int) (x : Int) : lastP us x < (us.length : Int) := lastN_le us x _
theorem lastP_self (us : List Int) (x : Int) : lastP (us ++ [x]) x = (us.length : Int) := by
 unfold lastP
 rw [List.length_append, List.length_singleton, lastN, List.getElem?_append_right (Nat.le_refl _)]
 simp
theorem lastP_ne {us : List Int} {x a : Int} (h : a ≠ x) : lastP (us ++ [x]) a = lastP us a := by
 unfold lastP
 rw [List.length_append, List.length_singleton, lastN, List.getElem?_append_right (Nat.le_refl _)]
 have : ¬ ([x][us.length - us.length]? = some a) := by simp; exact fun e => h e.symm
 rw [if_neg this, lastN_app _ _ _ _ (Nat.le_refl _)]
theorem flat_names {l : List NodeE} : (l.flatMap (·.nms)).Nodup → (∀ nd ∈ l, nd.nms.Nodup) ∧ ∀ (k k' : Nat) (nd nd' : NodeE), l[k]? = some nd → l[k']? = some nd' → k ≠ k' → ∀ a ∈ nd.nms, ∀ b ∈ nd'.nms, a ≠ b := by
 induction l with
 | nil => intro _; exact ⟨fun _ h => (by cases h), fun k k' nd nd' h => by simp at h⟩
 | cons x r ih =>
  intro hn
  rw [List.flatMap_cons, List.nodup_append] at hn
  obtain ⟨h1, h2, h3⟩ := hn
  obtain ⟨i1, i2⟩ := ih h2
  refine ⟨fun nd hm => ?_, fun k k' nd nd' hk hk' hne a ha b hb => ?_⟩
  · rcases List.mem_cons.mp hm with rfl | hm
   · exact h1
   · exact i1 nd hm
  · match k, k' with
   | 0, 0 => exact absurd rfl hne
   | 0, k' + 1 =>
    simp at hk hk'
    subst hk
    exact h3 a ha b (List.mem_flatMap.mpr ⟨nd', List.mem_of_getElem? hk', hb⟩)
   | k + 1, 0 =>
    simp at hk hk'
    subst hk'
    exact fun e => h3 b hb a (List.mem_flatMap.mpr ⟨nd, List.mem_of_getElem? hk, ha⟩) e.symm
   | k + 1, k' + 1 =>
    simp at hk hk'
    exact i2 k k' nd nd' hk hk' (by omega) a ha b hb
theorem nodup_at {l : List Int} (h : l.Nodup) {i j : Nat} {a : Int} (hi : l[i]? = some a) (hj : l[j]? = some a) : i = j := by
 obtain ⟨h1, h2⟩ := List.getElem?_eq_some_iff.mp hi
 obtain ⟨h3, h4⟩ := List.getElem?_eq_some_iff.mp hj
 have hp := List.pairwise_iff_getElem.mp h
 rcases Nat.lt_trichotomy i j with x | x | x
 · exact absurd (h2.trans h4.symm) (hp i j h1 h3 x)
 · exact x
 · exact absurd (h4.trans h2.symm) (hp j i h3 h1 x)
theorem NSim.other {l : List PastE} {us : List Int} {s : NodeP} {n : RNode} (h : NSim l us s n) {nm : Int} (hne : ∀ a ∈ n.nms, a ≠ nm) : NSim l (us ++ [nm]) s n :=
 ⟨h.up, h.hz, h.since, h.ents, h.fls, h.flk, h.wts, h.wtk, h.hist, h.top, h.nml, h.used, fun i j x y a b hx hy ha hb => by
  rw [lastP_ne (hne a (List.mem_of_getElem? ha)), lastP_ne (hne b (List.mem_of_getElem? hb))]
  exact h.order i j x y a b hx hy ha hb⟩
theorem NSim.use {l : List PastE} {us : List Int} {s : NodeP} {n : RNode} (h : NSim l us s n) {i : Nat} {x : HeldE} {nm : Int} (hx : s.ents[i]? = some x) (hm : n.nms[i]? = some nm) (hn : n.nms.Nodup) : NSim l (us ++ [nm]) (s.use i x) n := by
 obtain ⟨hi, hx'⟩ := List.getElem?_eq_some_iff.mp hx
 have far : ∀ (j : Nat) (a : Int), n.nms[j]? = some a → j ≠ i → a ≠ nm := fun j a ha hj e => by
  subst e
  exact hj (nodup_at hn ha hm)
 refine ⟨h.up, h.hz, h.since, ?_, h.fls, h.flk, h.wts, h.wtk, h.hist, h.top, ?_, ?_, ?_⟩
 · show n.ents = (s.ents.set i { x with used := s.uses + 1 }).map (·.e)
  rw [List.map_set, h.ents]
  have : (s.ents.map (·.e))[i]? = some x.e := by rw [List.getElem?_map, hx]; rfl
  obtain ⟨hl, he⟩ := List.getElem?_eq_some_iff.mp this
  show _ = (s.ents.map (·.e)).set i x.e
  rw [← he, List.set_getElem_self]
 · show n.nms.length = (s.ents.set i _).length
  rw [List.length_set]; exact h.nml
 · intro y hy
  show y.used ≤ s.uses + 1
  rcases List.mem_or_eq_of_mem_set hy with hy | rfl
  · exact Nat.le_succ_of_le (h.used y hy)
  · exact Nat.le_refl _
 · intro p q y z a b hy hz ha hb
  have hy' : (s.ents.set i { x with used := s.uses + 1 })[p]? = some y := hy
  have hz' : (s.ents.set i { x with used := s.uses + 1 })[q]? = some z := hz
  by_cases hp : p = i
  · subst hp
   rw [List.getElem?_set_self hi] at hy'
   injection hy' with hy'
   rw [hm] at ha
   injection ha with ha
   subst ha hy'
   rw [lastP_self]
   by_cases hq : q = p
   · subst hq
    rw [List.getElem?_set_self hi] at hz'
    injection hz' with hz'
    rw [hm] at hb
    injection hb with hb
    subst hb hz'
    rw [lastP_self]
    simp
   · rw [List.getElem?_set_ne (fun e => hq e.symm)] at hz'
    rw [lastP_ne (far q b hb hq)]
    have h1 := h.used z (List.mem_of_getElem? hz')
    have h2 := lastP_lt us b
    show s.uses + 1 < z.used ↔ _
    omega
  · rw [List.getElem?_set_ne (fun e => hp e.symm)] at hy'
   rw [lastP_ne (far p a ha hp)]
   by_cases hq : q = i
   · subst hq
    rw [List.getElem?_set_self hi] at hz'
    injection hz' with hz'
    rw [hm] at hb
    injection hb with hb
    subst hb hz'
    rw [lastP_self]
    have h1 := h.used y (List.mem_of_getElem? hy')
    have h2 := lastP_lt us a
    show y.used < s.uses + 1 ↔ _
    omega
   · rw [List.getElem?_set_ne (fun e => hq e.symm)] at hz'
    rw [lastP_ne (far q b hb hq)]
    exact h.order p q y z a b hy' hz' ha hb
theorem ansN_meets (up : Bool) (hz : Nat) (q : ByteArray) (lo hi : Nat) (l : List EntE) : ∀ (n i : Nat) (x : EntE), ansN up hz q lo hi l n = (i : Int) → l[i]? = some x → meetsE hz q lo hi x
 | 0, i, x, h, _ => by simp only [ansN] at h; omega
 | n + 1, i, x, h, hx => by
  simp only [ansN] at h
  split at h
  · rename_i y hy
   split at h
   · rename_i hc
    obtain rfl : n = i := by omega
    rw [hy] at hx
    injection hx with hx
    subst hx
    exact hc.2.1
   · exact ansN_meets up hz q lo hi l n i x h hx
  · exact ansN_meets up hz q lo hi l n i x h hx
theorem NSim.ans {l : List PastE} {us : List Int} {s : NodeP} {nd : NodeE} {t n : Nat} (h : NSim l us s nd.p) (hg : s.Good t n) (q : ByteArray) (lo hi : Nat) : ansN nd.up nd.horizon q lo hi nd.ents nd.ents.length = s.ans q lo hi s.ents.length := by
 have h1 : nd.up = s.up := h.up
 have h2 : nd.horizon = s.horizon := h.hz
 have h3 : nd.ents = s.ents.map (·.e) := h.ents
 unfold NodeP.ans
 rw [h1, h2, h3, List.length_map]
 cases hu : s.up with
 | true => rfl
 | false => rw [(hg.dn hu).1]; rfl
end Go.Proofs.YtpfcacedpkaihaaGreat
