import Derived.Test.YtpfcacedpkaihaaGreatNpWpIv
import Derived.Test.YtpfcacedpkaihaaGreatEl
import Derived.Test.YtpfcacedpkaihaaGreatDjDkQe
import Derived.Test.YtpfcacedpkaihaaGreatDfDgDh
import Derived.Deep.RegionLawGrows
import Derived.Deep.RegionWith
/- The bounds that the program's world keeps, whatever is called (mathematics alone). -/
namespace Go.Proofs.YtpfcacedpkaihaaGreat
open Go.RowKit

structure DP.Good (P : DP) (n : Nat) : Prop where
  pmax : P.past.length ≤ 700
  clk0 : 0 ≤ P.clock
  clk1 : P.clock ≤ 100000
  bmax : P.begun ≤ 200
  qmax : P.puts.length ≤ 10
  s1 : 0 < P.sites.length
  s3 : P.sites.length ≤ 3
  sites : ∀ s ∈ P.sites, s.Good P.past.length n
  puts : ∀ e ∈ P.puts, EntOk e P.past.length

theorem DP.Good.walk {D : DevS} {n : Nat} (h : D.pu.Good n) (hn : n < 9223372036854775807) : D.Walk := by
  have e : D.pu.sites = D.nodes.map (·.p) := rfl
  have hl : D.pu.sites.length = D.nodes.length := by rw [e, List.length_map]
  refine ⟨⟨h.pmax, h.clk0, h.clk1, h.bmax, h.qmax⟩, by rw [← hl]; exact h.s1, by rw [← hl]; exact h.s3, fun nd hnd => ?_, fun x hx => (h.puts x hx).q40⟩
  exact (h.sites nd.p (by rw [e]; exact List.mem_map_of_mem hnd)).walk h.pmax hn
theorem DP.Good.more {P : DP} {n n' : Nat} (h : P.Good n) (hn : n ≤ n') : P.Good n' :=
  ⟨h.pmax, h.clk0, h.clk1, h.bmax, h.qmax, h.s1, h.s3, fun s hs => (h.sites s hs).more (Nat.le_refl _) hn, h.puts⟩
theorem DP.Good.site {P : DP} {n : Nat} {k : Int} {s : NodeP} (h : P.Good n) (hs : P.site? k = some s) : s.Good P.past.length n := by
  unfold DP.site? at hs
  split at hs
  · cases hs
  · exact h.sites s (List.mem_of_getElem? hs)
theorem DP.Good.put {P : DP} {n : Nat} (h : P.Good n) (k : Int) {s : NodeP} (hs : s.Good P.past.length n) : (P.put k s).Good n := by
  refine ⟨h.pmax, h.clk0, h.clk1, h.bmax, h.qmax, by show 0 < (P.sites.set _ _).length; rw [List.length_set]; exact h.s1, by show (P.sites.set _ _).length ≤ 3; rw [List.length_set]; exact h.s3, fun x hx => ?_, h.puts⟩
  rcases List.mem_or_eq_of_mem_set hx with hx | rfl
  · exact h.sites x hx
  · exact hs
theorem DP.Good.evict {P : DP} {n : Nat} (h : P.Good n) (k i : Int) : (P.evict k i).2.Good n := by
  unfold DP.evict
  cases hs : P.site? k with
  | none => exact h
  | some s =>
    dsimp only
    split
    · exact h
    · exact h.put k ((h.site hs).remove _)
theorem DP.Good.lose {P : DP} {n : Nat} (h : P.Good n) (k i : Int) : (P.lose k i).2.Good n := by
  unfold DP.lose
  cases hs : P.site? k with
  | none => exact h
  | some s =>
    dsimp only
    split
    · exact h
    · exact h.put k ((h.site hs).take _)
theorem DP.Good.copy {P : DP} {n : Nat} (h : P.Good n) (k i : Int) : (P.copy k i).2.Good n := by
  unfold DP.copy
  cases hs : P.site? k with
  | none => exact h
  | some s =>
    dsimp only
    split
    · exact h
    · cases hc : s.flight[i.toNat]? with
      | none => exact h
      | some c =>
        dsimp only
        split
        · exact h
        · exact h.put k ((h.site hs).copy (by omega) hc)
theorem DP.Good.deliver {P : DP} {n : Nat} (h : P.Good n) (k i : Int) : (P.deliver k i).2.Good n := by
  unfold DP.deliver
  cases hs : P.site? k with
  | none => exact h
  | some s =>
    dsimp only
    split
    · exact h
    · cases hc : s.flight[i.toNat]? with
      | none => exact h
      | some c => exact h.put k (((h.site hs).take _).arrive _ _ ((h.site hs).fs c (List.mem_of_getElem? hc)))
theorem DP.Good.restart {P : DP} {n : Nat} (h : P.Good n) (k : Int) : (P.restart k).2.Good n := by
  unfold DP.restart
  cases hs : P.site? k with
  | none => exact h
  | some s => exact h.put k (h.site hs).fell
theorem DP.Good.askS {P : DP} {n : Nat} {s : NodeP} (hs : s.Good P.past.length n) : (P.askS s).Good P.past.length n := by
  unfold DP.askS
  split
  · exact hs.rise (Nat.le_refl _)
  · rename_i hu
    split
    · rename_i hl
      exact hs.hear (by cases h : s.up with
        | true => rfl
        | false => exact absurd h hu) hl _
    · exact hs
theorem DP.Good.ask {P : DP} {n : Nat} (h : P.Good n) (k : Int) : (P.ask k).2.2.Good n := by
  unfold DP.ask
  cases hs : P.site? k with
  | none => exact h
  | some s => exact h.put k (DP.Good.askS (h.site hs))
theorem DP.Good.drop {P : DP} {n : Nat} (h : P.Good n) (i : Int) : (P.drop i).2.Good n := by
  unfold DP.drop
  split
  · exact h
  · have hle := List.length_eraseIdx_le P.puts i.toNat
    exact ⟨h.pmax, h.clk0, h.clk1, h.bmax, by have := h.qmax; show (P.puts.eraseIdx _).length ≤ 10; omega, h.s1, h.s3, h.sites, fun e he => h.puts e (List.mem_of_mem_eraseIdx he)⟩
theorem DP.Good.store {P : DP} {n : Nat} (h : P.Good n) (i : Int) : (P.store i).2.2.Good (n + 1) := by
  unfold DP.store
  split
  · exact h.more (Nat.le_succ _)
  · cases he : P.puts[i.toNat]? with
    | none => exact h.more (Nat.le_succ _)
    | some e =>
      dsimp only
      cases hs : P.sites[P.nodeN e.q]? with
      | none => exact h.more (Nat.le_succ _)
      | some s =>
        dsimp only
        have hle := List.length_eraseIdx_le P.puts i.toNat
        refine ⟨h.pmax, h.clk0, h.clk1, h.bmax, by have := h.qmax; show (P.puts.eraseIdx _).length ≤ 10; omega, by show 0 < (P.sites.set _ _).length; rw [List.length_set]; exact h.s1, by show (P.sites.set _ _).length ≤ 3; rw [List.length_set]; exact h.s3, fun x hx => ?_, fun y hy => h.puts y (List.mem_of_mem_eraseIdx hy)⟩
        rcases List.mem_or_eq_of_mem_set hx with hx | rfl
        · exact (h.sites x hx).more (Nat.le_refl _) (Nat.le_succ _)
        · exact (h.sites s (List.mem_of_getElem? hs)).store (h.puts e (List.mem_of_getElem? he))
theorem DP.Good.tick {P : DP} {n : Nat} (h : P.Good n) : P.tick.2.Good n := by
  unfold DP.tick
  split
  · exact h
  · exact ⟨h.pmax, by have := h.clk0; show 0 ≤ P.clock + 1; omega, by have := h.clk1; show P.clock + 1 ≤ 100000; omega, h.bmax, h.qmax, h.s1, h.s3, h.sites, h.puts⟩
theorem DP.Good.push {P : DP} {n : Nat} (h : P.Good n) (q : PastE) (hp : P.past.length < 700) : (P.push q).Good n := by
  have e : (P.past ++ [q]).length = P.past.length + 1 := by simp
  refine ⟨by show (P.past ++ [q]).length ≤ 700; omega, h.clk0, h.clk1, h.bmax, h.qmax, by show 0 < (P.sites.map _).length; rw [List.length_map]; exact h.s1, by show (P.sites.map _).length ≤ 3; rw [List.length_map]; exact h.s3, fun x hx => ?_, fun y hy => (h.puts y hy).more (by show P.past.length ≤ (P.past ++ [q]).length; omega)⟩
  obtain ⟨s, hs, rfl⟩ := List.mem_map.mp hx
  show NodeP.Good _ (P.past ++ [q]).length n
  rw [e]
  exact (h.sites s hs).tell q.keys
theorem DP.Good.commit {P : DP} {n : Nat} (h : P.Good n) (m : Nat) (ws : List (Int × Int)) : (P.commit m ws).2.2.Good n := by
  unfold DP.commit
  split
  · exact h
  · split
    · exact h
    · split
      · exact h
      · exact h.push _ (by omega)
theorem till_le {l : List PastE} {K : Int} {s : Nat} : ∀ n, tillN l K n = some s → s ≤ l.length - 1
  | 0, h => by simp [tillN] at h
  | n + 1, h => by
    simp only [tillN] at h
    split at h
    · injection h with h; omega
    · exact till_le n h
theorem readL_len {l : List UInt8} {ts : List (Nat × Nat)} (h : Q.readL l = (0, ts)) : l.length ≤ 40 := by
  unfold Q.readL at h
  split at h
  · simp at h
  · omega
theorem answer_ok {P : DP} {q : ByteArray} {ts : List (Nat × Nat)} {t : Nat} (hq : Q.readL q.data.toList = (0, ts)) (ht : t ≤ P.past.length) : EntOk (P.answer q ts t) P.past.length := by
  have hl := readL_len hq
  have hql : q.data.toList.length = q.size := by rw [Array.length_toList]; rfl
  have e : (zeroP :: P.past).length - 1 = P.past.length := by simp
  have hfr := fromN_le (zeroP :: P.past) (keysL ts) t
  refine ⟨by show q.size ≤ 40; omega, by show (zeroP :: P.past).length - 1 ≤ _; omega, ?_, fun ho => ?_, fun ho => ?_⟩
  · show (tillN (zeroP :: P.past) (keysL ts) ((zeroP :: P.past).length - 1 - t)).getD 0 ≤ _
    cases h : tillN (zeroP :: P.past) (keysL ts) ((zeroP :: P.past).length - 1 - t) with
    | none => simp
    | some s => have := till_le _ h; simp only [Option.getD_some]; omega
  · have ho' : (tillN (zeroP :: P.past) (keysL ts) ((zeroP :: P.past).length - 1 - t)).isNone = false := ho
    show fromN _ _ t < (tillN (zeroP :: P.past) (keysL ts) ((zeroP :: P.past).length - 1 - t)).getD 0
    cases h : tillN (zeroP :: P.past) (keysL ts) ((zeroP :: P.past).length - 1 - t) with
    | none => rw [h] at ho'; cases ho'
    | some s => have := till_pos _ (by omega) h; simp only [Option.getD_some]; omega
  · show fromN _ _ t ≤ (zeroP :: P.past).length - 1
    omega
theorem DP.Good.hit {P : DP} {n j k i : Nat} {s : NodeP} {x : HeldE} (h : P.Good n) (hs : P.sites[k]? = some s) (hx : s.ents[i]? = some x) : (P.hit j k i s x).Good (n + 1) := by
  refine ⟨h.pmax, h.clk0, h.clk1, h.bmax, h.qmax, by show 0 < (P.sites.set _ _).length; rw [List.length_set]; exact h.s1, by show (P.sites.set _ _).length ≤ 3; rw [List.length_set]; exact h.s3, fun y hy => ?_, h.puts⟩
  rcases List.mem_or_eq_of_mem_set hy with hy | rfl
  · exact (h.sites y hy).more (Nat.le_refl _) (Nat.le_succ _)
  · exact (h.sites s (List.mem_of_getElem? hs)).use hx
theorem DP.Good.miss {P : DP} {n j : Nat} {e : EntE} (h : P.Good n) (he : EntOk e P.past.length) : (P.miss j e).Good n := by
  have hq := h.qmax
  refine ⟨h.pmax, h.clk0, h.clk1, h.bmax, ?_, h.s1, h.s3, h.sites, fun y hy => ?_⟩
  · show (if P.puts.length < 10 then P.puts ++ [e] else P.puts).length ≤ 10
    split
    · simp; omega
    · exact hq
  · have hy' : y ∈ (if P.puts.length < 10 then P.puts ++ [e] else P.puts) := hy
    split at hy'
    · rw [List.mem_append, List.mem_singleton] at hy'
      rcases hy' with hy' | rfl
      · exact h.puts y hy'
      · exact he
    · exact h.puts y hy'
theorem DP.Good.seats {P : DP} {n : Nat} (h : P.Good n) (f : Nat → SeatE) (m : Nat) (hm : m ≤ 200) : ({ P with seats := f, begun := m } : DP).Good n := ⟨h.pmax, h.clk0, h.clk1, hm, h.qmax, h.s1, h.s3, h.sites, h.puts⟩

end Go.Proofs.YtpfcacedpkaihaaGreat

/- The program's seats beside a list of readers (mathematics alone). -/
namespace Go.Proofs.YtpfcacedpkaihaaGreat
open Go.RowKit

/-- how many of six seats are taken. -/
def seatN (s : Nat → SeatE) : Nat := (if (s 0).reads then 1 else 0) + (if (s 1).reads then 1 else 0) + (if (s 2).reads then 1 else 0) + (if (s 3).reads then 1 else 0) + (if (s 4).reads then 1 else 0) + (if (s 5).reads then 1 else 0)
theorem putSeat_self (s : Nat → SeatE) (j : Nat) (x : SeatE) : putSeat s j x j = x := by simp [putSeat]
theorem putSeat_ne (s : Nat → SeatE) (j i : Nat) (x : SeatE) (h : i ≠ j) : putSeat s j x i = s i := by simp [putSeat, h]

theorem seatN_put (s : Nat → SeatE) (j : Nat) (x : SeatE) (h : j < 6) : seatN (putSeat s j x) + (if (s j).reads then 1 else 0) = seatN s + (if x.reads then 1 else 0) := by
  rcases six h with rfl | rfl | rfl | rfl | rfl | rfl <;> simp [seatN, putSeat] <;> omega
theorem seatN_all {s : Nat → SeatE} (h : ∀ i, i < 6 → (s i).reads = true) : seatN s = 6 := by
  simp [seatN, h 0 (by omega), h 1 (by omega), h 2 (by omega), h 3 (by omega), h 4 (by omega), h 5 (by omega)]
theorem seatN_free {s : Nat → SeatE} {j : Nat} (hj : j < 6) (h : (s j).reads = false) : seatN s < 6 := by
  have := seatN_put s j ⟨true, 0, 0, 0⟩ hj
  rw [h] at this
  have h6 : seatN (putSeat s j ⟨true, 0, 0, 0⟩) ≤ 6 := by unfold seatN; split <;> split <;> split <;> split <;> split <;> split <;> omega
  simp at this; omega

theorem openN_append (l : List RdrE) (x : RdrE) : openN (l ++ [x]) = openN l + if x.ended then 0 else 1 := by
  unfold openN
  rw [List.filter_append, List.length_append]
  cases h : x.ended <;> simp [h]
theorem openN_set (l : List RdrE) (j : Nat) (x y : RdrE) (h : l[j]? = some x) : openN (l.set j y) + (if x.ended then 0 else 1) = openN l + (if y.ended then 0 else 1) := by
  induction l generalizing j with
  | nil => simp at h
  | cons a r ih =>
    match j with
    | 0 => simp at h; subst h; cases ha : a.ended <;> cases hy : y.ended <;> simp [openN, ha, hy]
    | j + 1 =>
      have := ih j (by simpa using h)
      cases ha : a.ended <;> simp [openN, ha] at this ⊢ <;> omega

/-- the readers of both. -/
structure SimR (begun : Nat) (s : Nat → SeatE) (l : List RdrE) (top : Nat) : Prop where
  begun : begun = l.length
  seat : ∀ i, i < 6 → (s i).reads = true → ∃ (j : Nat) (x : RdrE), (s i).num = j ∧ l[j]? = some x ∧ x.ended = false ∧ x.lo = (s i).lo ∧ x.hi = (s i).hi
  back : ∀ (j : Nat) (x : RdrE), l[j]? = some x → x.ended = false → ∃ i, i < 6 ∧ (s i).reads = true ∧ (s i).num = j
  one : ∀ i k, i < 6 → k < 6 → (s i).reads = true → (s k).reads = true → (s i).num = (s k).num → i = k
  count : openN l = seatN s
  span : ∀ x ∈ l, x.lo ≤ x.hi ∧ x.hi ≤ top

theorem SimR.beginS {b top : Nat} {s : Nat → SeatE} {l : List RdrE} (h : SimR b s l top) {j : Nat} (hj : j < 6) (hf : (s j).reads = false) (lo : Nat) (hlo : lo ≤ top) :
    SimR (b + 1) (putSeat s j ⟨true, b, lo, top⟩) (l ++ [⟨lo, top, false⟩]) top := by
  have hb := h.begun
  refine ⟨by simp [hb], ?_, ?_, ?_, ?_, ?_⟩
  · intro i hi hr
    by_cases e : i = j
    · subst e
      rw [putSeat_self]
      exact ⟨b, ⟨lo, top, false⟩, rfl, by rw [hb]; simp, rfl, rfl, rfl⟩
    · rw [putSeat_ne _ _ _ _ e] at hr ⊢
      obtain ⟨k, x, h1, h2, h3⟩ := h.seat i hi hr
      exact ⟨k, x, h1, by rw [List.getElem?_append_left (List.getElem?_eq_some_iff.mp h2).1]; exact h2, h3⟩
  · intro k x hx he
    by_cases hk : k < l.length
    · rw [List.getElem?_append_left hk] at hx
      obtain ⟨i, hi, hr, hn⟩ := h.back k x hx he
      have e : i ≠ j := by intro e; subst e; rw [hf] at hr; cases hr
      exact ⟨i, hi, by rw [putSeat_ne _ _ _ _ e]; exact hr, by rw [putSeat_ne _ _ _ _ e]; exact hn⟩
    · have hk2 : k < (l ++ [(⟨lo, top, false⟩ : RdrE)]).length := (List.getElem?_eq_some_iff.mp hx).1
      have : k = b := by simp at hk2; omega
      exact ⟨j, hj, by rw [putSeat_self], by rw [putSeat_self, this]⟩
  · intro i k hi hk hri hrk hn
    have key : ∀ i, i < 6 → i ≠ j → (s i).reads = true → (s i).num ≠ (b : Int) := by
      intro i hi _ hr e
      obtain ⟨q, x, h1, h2, _⟩ := h.seat i hi hr
      have := (List.getElem?_eq_some_iff.mp h2).1
      rw [e] at h1; omega
    by_cases ei : i = j
    · by_cases ek : k = j
      · omega
      · subst ei
        rw [putSeat_self, putSeat_ne _ _ _ _ ek] at hn
        rw [putSeat_ne _ _ _ _ ek] at hrk
        exact absurd hn.symm (key k hk ek hrk)
    · by_cases ek : k = j
      · subst ek
        rw [putSeat_self, putSeat_ne _ _ _ _ ei] at hn
        rw [putSeat_ne _ _ _ _ ei] at hri
        exact absurd hn (key i hi ei hri)
      · rw [putSeat_ne _ _ _ _ ei, putSeat_ne _ _ _ _ ek] at hn
        rw [putSeat_ne _ _ _ _ ei] at hri
        rw [putSeat_ne _ _ _ _ ek] at hrk
        exact h.one i k hi hk hri hrk hn
  · rw [openN_append, h.count]
    have := seatN_put s j ⟨true, b, lo, top⟩ hj
    rw [hf] at this
    simpa using this.symm
  · intro x hx
    rw [List.mem_append] at hx
    rcases hx with hx | hx
    · exact h.span x hx
    · simp at hx; subst hx; exact ⟨hlo, Nat.le_refl _⟩

theorem SimR.top {b t t' : Nat} {s : Nat → SeatE} {l : List RdrE} (h : SimR b s l t) (ht : t ≤ t') : SimR b s l t' :=
  ⟨h.begun, h.seat, h.back, h.one, h.count, fun x hx => ⟨(h.span x hx).1, Nat.le_trans (h.span x hx).2 ht⟩⟩

/-- a reader has another span, at both. -/
theorem SimR.endS {b top : Nat} {s : Nat → SeatE} {l : List RdrE} (h : SimR b s l top) {i j : Nat} {x : RdrE} (hi : i < 6) (hr : (s i).reads = true) (hn : (s i).num = j) (hx : l[j]? = some x) (he : x.ended = false) :
    SimR b (putSeat s i ⟨false, 0, 0, 0⟩) (l.set j { x with ended := true }) top := by
  have hlt := (List.getElem?_eq_some_iff.mp hx).1
  refine ⟨by simp [h.begun], ?_, ?_, ?_, ?_, ?_⟩
  · intro k hk hrk
    by_cases e : k = i
    · subst e; rw [putSeat_self] at hrk; cases hrk
    · rw [putSeat_ne _ _ _ _ e] at hrk ⊢
      obtain ⟨q, y, h1, h2, h3⟩ := h.seat k hk hrk
      have hq : q ≠ j := fun eq => e (h.one k i hk hi hrk hr (by rw [h1, hn, eq]))
      exact ⟨q, y, h1, by rw [List.getElem?_set_ne (fun z => hq z.symm)]; exact h2, h3⟩
  · intro q y hy hye
    by_cases e : q = j
    · subst e
      rw [List.getElem?_set_self hlt] at hy
      injection hy with hy; subst hy; cases hye
    · rw [List.getElem?_set_ne (fun z => e z.symm)] at hy
      obtain ⟨k, hk, hrk, hnk⟩ := h.back q y hy hye
      have hki : k ≠ i := by intro eq; subst eq; rw [hn] at hnk; omega
      exact ⟨k, hk, by rw [putSeat_ne _ _ _ _ hki]; exact hrk, by rw [putSeat_ne _ _ _ _ hki]; exact hnk⟩
  · intro p q hp hq hrp hrq hnn
    by_cases ep : p = i
    · subst ep; rw [putSeat_self] at hrp; cases hrp
    · by_cases eq : q = i
      · subst eq; rw [putSeat_self] at hrq; cases hrq
      · rw [putSeat_ne _ _ _ _ ep, putSeat_ne _ _ _ _ eq] at hnn
        rw [putSeat_ne _ _ _ _ ep] at hrp
        rw [putSeat_ne _ _ _ _ eq] at hrq
        exact h.one p q hp hq hrp hrq hnn
  · have a := openN_set l j x { x with ended := true } hx
    have c := seatN_put s i ⟨false, 0, 0, 0⟩ hi
    have d := h.count
    rw [he] at a
    rw [hr] at c
    simp at a c
    omega
  · intro y hy
    rcases List.mem_or_eq_of_mem_set hy with hy | rfl
    · exact h.span y hy
    · exact h.span x (List.mem_of_getElem? hx)

/-- a reader's span is cut, at both. -/
theorem SimR.cutS {b top : Nat} {s : Nat → SeatE} {l : List RdrE} (h : SimR b s l top) {i j f g : Nat} {x : RdrE} (hi : i < 6) (hr : (s i).reads = true) (hn : (s i).num = j) (hx : l[j]? = some x) (hf : max x.lo f ≤ min x.hi g) (hlo : x.lo = (s i).lo) (hhi : x.hi = (s i).hi) (he : x.ended = false) :
    SimR b (putSeat s i ((s i).cut f g)) (l.set j { x with lo := max x.lo f, hi := min x.hi g }) top := by
  have hlt := (List.getElem?_eq_some_iff.mp hx).1
  have rd : ∀ k, (putSeat s i ((s i).cut f g) k).reads = (s k).reads := fun k => by by_cases e : k = i <;> simp [putSeat, e, SeatE.cut]
  have nm : ∀ k, (putSeat s i ((s i).cut f g) k).num = (s k).num := fun k => by by_cases e : k = i <;> simp [putSeat, e, SeatE.cut]
  refine ⟨by simp [h.begun], ?_, ?_, ?_, ?_, ?_⟩
  · intro k hk hrk
    rw [rd] at hrk
    rw [nm]
    by_cases e : k = i
    · subst e
      refine ⟨j, { x with lo := max x.lo f, hi := min x.hi g }, hn, List.getElem?_set_self hlt, he, ?_, ?_⟩
      · rw [putSeat_self]; show max x.lo f = max (s k).lo f; rw [hlo]
      · rw [putSeat_self]; show min x.hi g = min (s k).hi g; rw [hhi]
    · obtain ⟨q, y, h1, h2, h3⟩ := h.seat k hk hrk
      have hq : q ≠ j := fun eq => e (h.one k i hk hi hrk hr (by rw [h1, hn, eq]))
      rw [putSeat_ne _ _ _ _ e]
      exact ⟨q, y, h1, by rw [List.getElem?_set_ne (fun z => hq z.symm)]; exact h2, h3⟩
  · intro q y hy hye
    by_cases e : q = j
    · subst e
      exact ⟨i, hi, by rw [rd]; exact hr, by rw [nm]; exact hn⟩
    · rw [List.getElem?_set_ne (fun z => e z.symm)] at hy
      obtain ⟨k, hk, hrk, hnk⟩ := h.back q y hy hye
      exact ⟨k, hk, by rw [rd]; exact hrk, by rw [nm]; exact hnk⟩
  · intro p q hp hq hrp hrq hnn
    rw [rd] at hrp hrq
    rw [nm, nm] at hnn
    exact h.one p q hp hq hrp hrq hnn
  · have a := openN_set l j x { x with lo := max x.lo f, hi := min x.hi g } hx
    have c := seatN_put s i ((s i).cut f g) hi
    have d := h.count
    have e : ((s i).cut f g).reads = (s i).reads := rfl
    rw [e] at c
    have e2 : ({ x with lo := max x.lo f, hi := min x.hi g } : RdrE).ended = x.ended := rfl
    rw [e2] at a
    omega
  · intro y hy
    rcases List.mem_or_eq_of_mem_set hy with hy | rfl
    · exact h.span y hy
    · have := h.span x (List.mem_of_getElem? hx)
      refine ⟨hf, ?_⟩
      show min x.hi g ≤ top
      omega

end Go.Proofs.YtpfcacedpkaihaaGreat

/- The program's New (packages almanac, memory), walked. -/
namespace Go.Proofs.YtpfcacedpkaihaaGreat
open Go.RowKit

/-- a node that is up and empty. -/
def newP (room : Int) : NodeP := ⟨true, room, 0, [], [], [], 0, []⟩
def newDN (room : Int) : DNodeE := ⟨newP room, nilV, nilV, nilV, nilV⟩
def newD (room : Int) (k : Nat) (vn : Value) : DevS := ⟨0, [], 0, fun _ => ⟨false, 0, 0, 0⟩, [], nilV, nilV, List.replicate k (newDN room), vn⟩
theorem newDN_nil (room : Int) : ∀ r ∈ dnodeR (newDN room), r.v = .slice none 0 0 ∧ r.n = 0 ∧ r.xs = [] := by
  intro r hr
  simp only [dnodeR, newDN, List.mem_cons, List.not_mem_nil, or_false] at hr
  rcases hr with rfl | rfl | rfl | rfl <;> exact ⟨rfl, rfl, rfl⟩
theorem newD_fp {room : Int} {k b x : Nat} {vn : Value} (h : (newD room k vn).fp b x) : x = b ∨ vn.ownBlock = some x := by
  rcases h with h | ⟨r, hr, hx⟩
  · exact .inl h
  · simp only [DevS.rows, newD, List.mem_cons, List.mem_flatMap] at hr
    rcases hr with rfl | rfl | rfl | ⟨nd, hnd, hr⟩
    · simp [nilV, Value.ownBlock] at hx
    · simp [nilV, Value.ownBlock] at hx
    · exact .inr hx
    · obtain rfl := List.eq_of_mem_replicate hnd
      rw [(newDN_nil room r hr).1] at hx; simp [Value.ownBlock] at hx
theorem newD_fit (room : Int) (k : Nat) (vn : Value) : (newD room k vn).Fit := ⟨by simp [newD], by simp [newD], by simp [newD], by simp [newD], by simp [newD]⟩

structure NewDL (w wr : World) (room : Int) (k : Nat) (vn : Value) : Prop where
  dev : Dev wr w.heap.size (newD room k vn)
  kept : Kept (fun _ => False) w wr
  own : ∀ x, vn.ownBlock = some x → w.heap.size ≤ x

theorem NewDL.start (w : World) (room : Int) : NewDL w (w.alloc (.cells (newD room 0 nilV).cells 129)) room 0 nilV := by
  refine ⟨⟨Blk.new _ _ _, rows_nil fun r hr => ?_⟩, Kept.alloc _ _ _, fun x hx => by simp [nilV, Value.ownBlock] at hx⟩
  simp only [DevS.rows, newD, List.replicate_zero, List.flatMap_nil, List.mem_cons, List.not_mem_nil, or_false] at hr
  rcases hr with rfl | rfl | rfl <;> exact ⟨rfl, rfl, rfl⟩

theorem NewDL.next {w wr w' : World} {room : Int} {k : Nat} {vn v : Value} (h : NewDL w wr room k vn) (hA : Appended wr w' 139 8 vn v k 1 ((List.replicate k (newDN room)).flatMap dnodeC) (dnodeC (newDN room))) :
    NewDL w (w'.setCell ⟨w.heap.size, 28, none⟩ v) room (k + 1) v := by
  have r := h.dev
  have k1 := hA.kept
  have k2 := Kept.setCell w' ⟨w.heap.size, 28, none⟩ v
  have ownv : ∀ x, v.ownBlock = some x → vn.ownBlock = some x ∨ wr.heap.size ≤ x := fun x hx => hA.own.imp (fun e => by rw [← e]; exact hx) (fun e => e x hx)
  have blk1 : Blk w' w.heap.size _ _ := r.blk.kept k1 fun he => r.nodes.ne_block r.blk (by decide) he
  have hn : RowD.Is w' ⟨139, 8, v, (List.replicate (k + 1) (newDN room)).length, (List.replicate (k + 1) (newDN room)).flatMap dnodeC⟩ := by
    show Row w' _ 8 v (List.replicate (k + 1) (newDN room)).length ((List.replicate (k + 1) (newDN room)).flatMap dnodeC)
    rw [List.length_replicate, List.replicate_succ', List.flatMap_append]
    simpa using hA.row
  have all1 := (r.all.put 2 (newD room k vn).nodeD ⟨139, 8, v, (List.replicate (k + 1) (newDN room)).length, (List.replicate (k + 1) (newDN room)).flatMap dnodeC⟩ rfl k1 hn ownv).more (newDN_nil room)
  have er : (newD room (k + 1) v).rows = ((newD room k vn).rows.set 2 ⟨139, 8, v, (List.replicate (k + 1) (newDN room)).length, (List.replicate (k + 1) (newDN room)).flatMap dnodeC⟩) ++ dnodeR (newDN room) := by
    show _ :: _ :: _ :: (List.replicate (k + 1) (newDN room)).flatMap dnodeR = _ :: _ :: _ :: ((List.replicate k (newDN room)).flatMap dnodeR ++ dnodeR (newDN room))
    have e : (List.replicate (k + 1) (newDN room)).flatMap dnodeR = (List.replicate k (newDN room)).flatMap dnodeR ++ dnodeR (newDN room) := by rw [List.replicate_succ', List.flatMap_append]; simp
    rw [e]; rfl
  refine ⟨⟨blk1.set 28 v, ?_⟩, h.kept.trans (k1.trans k2 (H := fun x => vn.ownBlock = some x ∨ x = w.heap.size) (fun x hx => .inl hx) (fun x _ hx => .inr hx)) (fun _ => id) (fun x hx hf => ?_), fun x hx => ?_⟩
  · rw [er]
    refine all1.kept k2 ?_
    rintro j ⟨a, ha, hj⟩ he
    subst he
    exact (all1.row a ha).ne_block blk1 (drows_ne_world (D := newD room (k + 1) v) (by rw [er]; exact ha)) hj
  · rcases hf with hf | hf
    · have := h.own x hf; omega
    · omega
  · rcases ownv x hx with e | e
    · exact h.own x e
    · exact Nat.le_trans h.kept.size e

def newA (room : Int) : Array Value := #[.bool true, .int .i64 room, .int .u64 0, .slice none 0 0, .slice none 0 0, .slice none 0 0, .int .u64 0]
set_option maxHeartbeats 400000 in
theorem dmnew (room : Int) (w : World) : Calls Tryz.prog 70 #[.int .i64 room] w fun e w' => e = .returned (.agg (newA room)) ∧ Kept (fun _ => False) w w' := by
  go_enter Tryz.func70, Tryz.ntmps70
  go_wp2
  exact bodyPost_ret (v := .agg (newA room)) (by simp [results, Tryz.results70, go_sem, newA]) rfl ⟨rfl, Kept.alloc _ _ _⟩

theorem Tryz.infoSite : (Tryz.prog.info? 139).map (fun i => (i.zero, i.size, i.bytes)) = some (some (.agg #[.bool false, .int .i64 0, .int .u64 0, .slice none 0 0, .slice none 0 0, .slice none 0 0, .int .u64 0, .slice none 0 0]), 8, 128) := by kernel_rfl
theorem oneCell_dnode (room : Int) : ∀ u ∈ dnodeC (newDN room), u.oneCell' = true := by
  intro u hu; simp [dnodeC, newDN, nilV] at hu; rcases hu with rfl | rfl | rfl | rfl | rfl | rfl | rfl | rfl <;> rfl
theorem news_dnode (w : World) (room : Int) (t : TypeId) : ∀ j u, (dnodeC (newDN room))[j]? = some u → (w.alloc (.cells #[.bool true, .int .i64 room, .int .u64 0, .slice none 0 0, .slice none 0 0, .slice none 0 0, .int .u64 0, .slice none 0 0] t)).cell? ((⟨w.heap.size, 0, none⟩ : Addr).add j) = some u := by
  intro j u hj
  have e : (⟨w.heap.size, 0, none⟩ : Addr).add j = ⟨w.heap.size, j, none⟩ := by cases j <;> simp [Addr.add]
  rw [e, World.cell?_alloc_at _ _ _ _ rfl]
  simpa [dnodeC, newDN, newP, nilV] using hj

/-- a call of a function by its contract, as one step of a region that draws its order. -/
theorem step_call {P : Program} {w : World} {ops : Array Oper} {o : Oper} {a : Act} {K : Act → World → Prop} {Q : Exit → Act → World → Prop} {E : Prop} (hgd : o.guard = none) (f : FuncId) (A : Array Operand) (ts : Array TypeId) (ho : o.op = .call { callee := .value (.func f), args := A, argTypes := ts }) (args : Array Value) (hargs : A.toList.map a.eval = args.toList) (v : Value) (Post : World → Prop)
    (hrun : (Deferred.ofValue (a.eval (.func f)) args).run P w = .ok ⟨.fn (.func f) #[], args⟩ w) (hrun2 : (invoke (.fn (.func f) #[]) args).run P w = .ok (.enter f args) w) (hc : Calls P f args w fun e w' => e = .returned v ∧ Post w') (h : ∀ w', Post w' → K (a.put o.dst v) w') : if Region.wanted o (yielded ops a.tmps) = true then Oper.wp P o a w K Q else E := by
  have hw : Region.wanted o (yielded ops a.tmps) = true := by simp [Region.wanted, hgd]
  rw [if_pos hw]
  unfold Oper.wp
  have hargs : A.map a.eval = args := Array.ext' (by rw [Array.toList_map]; exact hargs)
  have hr : (execOp a.eval o).run P w = .ok (.enter f args) w := by
    simp [execOp, ho, resolve, hargs, hrun, hrun2, Result.andThen]
  rw [hr, Oper.upon_enter]
  refine hc.mono fun e w'' hh => ?_
  obtain ⟨rfl, hp⟩ := hh
  exact h _ hp
theorem kdrew0 {W w : World} {n : Nat} (h : Kept (fun _ => False) (W.drewN n) w) : Kept (fun _ => False) W w := ((Kept.refl (fun _ => False) W).drewN n).trans h (fun _ => id) (fun _ _ => id)
theorem NewDL.row {w wr : World} {r : Int} {k : Nat} {v : Value} (h : NewDL w wr r k v) (o : Obj) : Row (wr.alloc o) 139 8 v k ((List.replicate k (newDN r)).flatMap dnodeC) := by
  have := h.dev.nodes.kept (Kept.alloc wr o (fun _ => False)) (fun _ _ => id)
  have e : (newD r k v).nodes.length = k := by simp [newD]
  rw [e] at this
  exact this
theorem NewDL.after {w wr w' : World} {r : Int} {k : Nat} {v v' : Value} {o : Obj} (h : NewDL w wr r k v) (hA : Appended (wr.alloc o) w' 139 8 v v' k 1 ((List.replicate k (newDN r)).flatMap dnodeC) (dnodeC (newDN r))) :
    w'.cell? ⟨w.heap.size, 28, none⟩ = some v ∧ w'.frozen? ⟨w.heap.size, 28, none⟩ = false ∧ Hid (NewDL w (w'.setCell ⟨w.heap.size, 28, none⟩ v') r (k + 1) v') := by
  have hA := hA.of_alloc
  have bb := h.dev.blk.kept hA.kept fun he => h.dev.nodes.ne_block h.dev.blk (by decide) he
  exact ⟨bb.cell 28, bb.free 28, h.next hA⟩

def DNewPost (w : World) (n : Nat) (room : Int) (e : Ending) (w' : World) : Prop :=
  e = .returned (.tuple #[.pointer (some ⟨w.heap.size, 0, none⟩), .int .i64 0]) ∧ ∃ vn, NewDL w w' room n vn

set_option maxRecDepth 100000 in
set_option maxHeartbeats 2000000 in
theorem dnew (n : Nat) (r : Int) (w : World) (h1 : 1 ≤ n) (h2 : n ≤ 3) (h3 : 1 ≤ r) (h4 : r ≤ 6) :
    Calls Tryz.prog 23 #[.int .i64 n, .int .i64 r] w fun e w' => DNewPost w n r e w' := by
  have hd0 : decide ((n : Int) < 1) = false := by simp; omega
  have hd1 : decide (r < 1) = false := by simp; omega
  obtain ⟨i1, hi, hz0, hz1, hz2⟩ := info_parts Tryz.infoSite
  have HN : Hid (Tryz.prog.info? 139 = some i1 ∧ i1.zero = some (.agg #[.bool false, .int .i64 0, .int .u64 0, .slice none 0 0, .slice none 0 0, .slice none 0 0, .int .u64 0, .slice none 0 0]) ∧ i1.size = 8 ∧ i1.bytes = 128) := ⟨hi, hz0, hz1, hz2⟩
  clear hi hz0 hz1 hz2
  have HNEW : Hid (∀ W, Calls Tryz.prog 70 #[.int .i64 r] W fun e w' => e = .returned (.agg #[.bool true, .int .i64 r, .int .u64 0, .slice none 0 0, .slice none 0 0, .slice none 0 0, .int .u64 0]) ∧ Kept (fun _ => False) W w') := fun W => dmnew r W
  have HST : Hid (NewDL w (w.alloc (.cells (newD r 0 nilV).cells 129)) r 0 nilV) := NewDL.start w r
  go_enter Tryz.func23, Tryz.ntmps23
  go_wp2
  go_loopw [22] (fun i wr => ∃ k : Nat, k ≤ n ∧ i = .int .i64 k ∧ Hid (∃ vn, NewDL w wr r k vn)) (fun i _ => n - (intOf i).toNat)
  case atStart => exact ⟨0, Nat.zero_le _, rfl, _, HST.out⟩
  case round =>
    obtain ⟨k, hk, rfl, HL⟩ := hrel
    obtain ⟨vn, hL⟩ := HL.out
    obtain ⟨ao, cap, hvn, _⟩ := hL.dev.nodes.form
    have hvn' : vn = .slice ao k cap := by have : (newD r k vn).nodes.length = k := by simp [newD]
                                           rw [this] at hvn; exact hvn
    subst hvn'
    have c28 : wr.cell? ⟨w.heap.size, 28, none⟩ = some (.slice ao k cap) := hL.dev.blk.cell 28
    have hz := hL.dev.blk.lt
    have HLL : Hid (NewDL w wr r k (.slice ao k cap)) := hL
    by_cases hlt : k < n
    · have HKW : Hid (∀ W, Kept (fun _ => False) wr W → NewDL w W r k (.slice ao k cap)) := fun W hW => ⟨hL.dev.kept hW (fun _ _ => id), hL.kept.trans hW (fun _ => id) (fun _ _ => id), hL.own⟩
      have k1 : k + 1 ≤ maxLen := by unfold maxLen; omega
      have k2 : (k + 1) * 128 ≤ 140737488355328 := by omega
      clear hL hvn
      go_wp2_with fail
      go_region_law first
        | (refine step_call rfl 70 #[.tmp 29] #[3] rfl #[.int .i64 r] rfl _ _ rfl (by simp [invoke, go_sem]) (HNEW.out _) ?_; intro w1 hk1; have HL1 : Hid (NewDL w w1 r k (.slice ao k cap)) := HKW.out _ (kdrew0 hk1); have d28 : w1.cell? ⟨w.heap.size, 28, none⟩ = some (.slice ao k cap) := HL1.out.dev.blk.cell 28; have e28 : ∀ o : Obj, (w1.alloc o).cell? ⟨w.heap.size, 28, none⟩ = some (.slice ao k cap) := fun o => (Kept.alloc w1 o (fun _ => False)).keep id d28; have HROW : Hid (∀ (o : Obj), Row (w1.alloc o) 139 8 (.slice ao k cap) k ((List.replicate k (newDN r)).flatMap dnodeC)) := fun o => HL1.out.row o; have HAFT : Hid (∀ (o : Obj) (w' : World) (v' : Value), Appended (w1.alloc o) w' 139 8 (.slice ao k cap) v' k 1 ((List.replicate k (newDN r)).flatMap dnodeC) (dnodeC (newDN r)) → w'.cell? ⟨w.heap.size, 28, none⟩ = some (.slice ao k cap) ∧ w'.frozen? ⟨w.heap.size, 28, none⟩ = false ∧ Hid (NewDL w (w'.setCell ⟨w.heap.size, 28, none⟩ v') r (k + 1) v')) := fun o w' v' hA => HL1.out.after hA; clear hk1)
        | (refine step_append_mine rfl (.tmp 28) (.tmp 32) 127 rfl 139 i1 (.agg #[.bool false, .int .i64 0, .int .u64 0, .slice none 0 0, .slice none 0 0, .slice none 0 0, .int .u64 0, .slice none 0 0]) 8 128 Tryz.underlying127 HN.out.1 HN.out.2.1 HN.out.2.2.1 HN.out.2.2.2 rfl (Nat.succ_pos 7) (.slice ao k cap) k ((List.replicate k (newDN r)).flatMap dnodeC) rfl (HROW.out _) ⟨w1.heap.size, 0, none⟩ 1 1 (dnodeC (newDN r)) rfl rfl (fun j u hj => news_dnode w1 r _ j u hj) (oneCell_dnode r) k1 k2 ?_; intro v' w' hA; obtain ⟨p1, p2, p3⟩ := HAFT.out _ _ _ hA; obtain ⟨ao', cap', hv', _⟩ := hA.row.form; clear hA; subst hv')
      all_goals
        go_wp2
        go_roundw
        case rel => exact ⟨k + 1, by omega, by go_num, _, p3.out⟩
        case measure => simp [intOf]; omega
    · have hkk : k = n := by omega
      subst hkk
      clear hL hvn
      go_wp2
      go_ret2
      exact ⟨rfl, _, HLL.out⟩

end Go.Proofs.YtpfcacedpkaihaaGreat
