import Derived.Test.YtpfcacedpkaihaaGreatC18
import Derived.Deep.RegionWith
import Derived.Test.YtpfcacedpkaihaaGreatC2
namespace Go.Proofs.YtpfcacedpkaihaaGreat
open Go.RowKit
set_option maxRecDepth 100000
set_option maxHeartbeats 16000000
def seatN (s : Nat → SeatE) : Nat := (if (s 0).reads then 1 else 0) + (if (s 1).reads then 1 else 0) + (if (s 2).reads then 1 else 0) + (if (s 3).reads then 1 else 0) + (if (s 4).reads then 1 else 0) + (if (s 5).reads then 1 else 0)
theorem putSeat_self (s : Nat → SeatE) (j : Nat) (x : SeatE) : putSeat s j x j = x := by simp [putSeat]
theorem putSeat_ne (s : Nat → SeatE) (j i : Nat) (x : SeatE) (h : i ≠ j) : putSeat s j x i = s i := by simp [putSeat, h]
theorem seatN_put (s : Nat → SeatE) (j : Nat) (x : SeatE) (h : j < 6) : seatN (putSeat s j x) + (if (s j).reads then 1 else 0) = seatN s + (if x.reads then 1 else 0) := by
 rcases six h with rfl | rfl | rfl | rfl | rfl | rfl <;> simp [seatN, putSeat] <;> omega
theorem seatN_all {s : Nat → SeatE} (h : ∀ i, i < 6 → (s i).reads = true) : seatN s = 6 := by
 simp [seatN, h 0 (by omega), h 1 (by omega), h 2 (by omega), h 3 (by omega), h 4 (by omega), h 5 (by omega)]
theorem seatN_free {s : Nat → SeatE} {j : Nat} (hj : j < 6) (h : (s j).reads = false) : seatN s < 6 := by
 have := seatN_put s j ⟨true, 0, 0, 0⟩ hj
 rw [h] at this
 have h6 : seatN (putSeat s j ⟨true, 0, 0, 0⟩) ≤ 6 := by unfold seatN; split <;> split <;> split <;> split <;> split <;> split <;> omega
 simp at this; omega
theorem openN_append (l : List RdrE) (x : RdrE) : openN (l ++ [x]) = openN l + if x.ended then 0 else 1 := by
 unfold openN
 rw [List.filter_append, List.length_append]
 cases h : x.ended <;> simp [h]
theorem openN_set (l : List RdrE) (j : Nat) (x y : RdrE) (h : l[j]? = some x) : openN (l.set j y) + (if x.ended then 0 else 1) = openN l + (if y.ended then 0 else 1) := by
 induction l generalizing j with
 | nil => simp at h
 | cons a r ih =>
  match j with
  | 0 => simp at h; subst h; cases ha : a.ended <;> cases hy : y.ended <;> simp [openN, ha, hy]
  | j + 1 =>
   have := ih j (by simpa using h)
   cases ha : a.ended <;> simp [openN, ha] at this ⊢ <;> omega
structure SimR (begun : Nat) (s : Nat → SeatE) (l : List RdrE) (top : Nat) : Prop where
 begun : begun = l.length
 seat : ∀ i, i < 6 → (s i).reads = true → ∃ (j : Nat) (x : RdrE), (s i).num = j ∧ l[j]? = some x ∧ x.ended = false ∧ x.lo = (s i).lo ∧ x.hi = (s i).hi
 back : ∀ (j : Nat) (x : RdrE), l[j]? = some x → x.ended = false → ∃ i, i < 6 ∧ (s i).reads = true ∧ (s i).num = j
 one : ∀ i k, i < 6 → k < 6 → (s i).reads = true → (s k).reads = true → (s i).num = (s k).num → i = k
 count : openN l = seatN s
 span : ∀ x ∈ l, x.lo ≤ x.hi ∧ x.hi ≤ top
theorem SimR.beginS {b top : Nat} {s : Nat → SeatE} {l : List RdrE} (h : SimR b s l top) {j : Nat} (hj : j < 6) (hf : (s j).reads = false) (lo : Nat) (hlo : lo ≤ top) :
  SimR (b + 1) (putSeat s j ⟨true, b, lo, top⟩) (l ++ [⟨lo, top, false⟩]) top := by
 have hb := h.begun
 refine ⟨by simp [hb], ?_, ?_, ?_, ?_, ?_⟩
 · intro i hi hr
  by_cases e : i = j
  · subst e
   rw [putSeat_self]
   exact ⟨b, ⟨lo, top, false⟩, rfl, by rw [hb]; simp, rfl, rfl, rfl⟩
  · rw [putSeat_ne _ _ _ _ e] at hr ⊢
   obtain ⟨k, x, h1, h2, h3⟩ := h.seat i hi hr
   exact ⟨k, x, h1, by rw [List.getElem?_append_left (List.getElem?_eq_some_iff.mp h2).1]; exact h2, h3⟩
 · intro k x hx he
  by_cases hk : k < l.length
  · rw [List.getElem?_append_left hk] at hx
   obtain ⟨i, hi, hr, hn⟩ := h.back k x hx he
   have e : i ≠ j := by intro e; subst e; rw [hf] at hr; cases hr
   exact ⟨i, hi, by rw [putSeat_ne _ _ _ _ e]; exact hr, by rw [putSeat_ne _ _ _ _ e]; exact hn⟩
  · have hk2 : k < (l ++ [(⟨lo, top, false⟩ : RdrE)]).length := (List.getElem?_eq_some_iff.mp hx).1
   have : k = b := by simp at hk2; omega
   exact ⟨j, hj, by rw [putSeat_self], by rw [putSeat_self, this]⟩
 · intro i k hi hk hri hrk hn
  have key : ∀ i, i < 6 → i ≠ j → (s i).reads = true → (s i).num ≠ (b : Int) := by
   intro i hi _ hr e
   obtain ⟨q, x, h1, h2, _⟩ := h.seat i hi hr
   have := (List.getElem?_eq_some_iff.mp h2).1
   rw [e] at h1; omega
  by_cases ei : i = j
  · by_cases ek : k = j
   · omega
   · subst ei
    rw [putSeat_self, putSeat_ne _ _ _ _ ek] at hn
    rw [putSeat_ne _ _ _ _ ek] at hrk
    exact absurd hn.symm (key k hk ek hrk)
  · by_cases ek : k = j
   · subst ek
    rw [putSeat_self, putSeat_ne _ _ _ _ ei] at hn
    rw [putSeat_ne _ _ _ _ ei] at hri
    exact absurd hn (key i hi ei hri)
   · rw [putSeat_ne _ _ _ _ ei, putSeat_ne _ _ _ _ ek] at hn
    rw [putSeat_ne _ _ _ _ ei] at hri
    rw [putSeat_ne _ _ _ _ ek] at hrk
    exact h.one i k hi hk hri hrk hn
 · rw [openN_append, h.count]
  have := seatN_put s j ⟨true, b, lo, top⟩ hj
  rw [hf] at this
  simpa using this.symm
 · intro x hx
  rw [List.mem_append] at hx
  rcases hx with hx | hx
  · exact h.span x hx
  · simp at hx; subst hx; exact ⟨hlo, Nat.le_refl _⟩
theorem SimR.top {b t t' : Nat} {s : Nat → SeatE} {l : List RdrE} (h : SimR b s l t) (ht : t ≤ t') : SimR b s l t' :=
 ⟨h.begun, h.seat, h.back, h.one, h.count, fun x hx => ⟨(h.span x hx).1, Nat.le_trans (h.span x hx).2 ht⟩⟩
theorem SimR.endS {b top : Nat} {s : Nat → SeatE} {l : List RdrE} (h : SimR b s l top) {i j : Nat} {x : RdrE} (hi : i < 6) (hr : (s i).reads = true) (hn : (s i).num = j) (hx : l[j]? = some x) (he : x.ended = false) :
  SimR b (putSeat s i ⟨false, 0, 0, 0⟩) (l.set j { x with ended := true }) top := by
 have hlt := (List.getElem?_eq_some_iff.mp hx).1
 refine ⟨by simp [h.begun], ?_, ?_, ?_, ?_, ?_⟩
 · intro k hk hrk
  by_cases e : k = i
  · subst e; rw [putSeat_self] at hrk; cases hrk
  · rw [putSeat_ne _ _ _ _ e] at hrk ⊢
   obtain ⟨q, y, h1, h2, h3⟩ := h.seat k hk hrk
   have hq : q ≠ j := fun eq => e (h.one k i hk hi hrk hr (by rw [h1, hn, eq]))
   exact ⟨q, y, h1, by rw [List.getElem?_set_ne (fun z => hq z.symm)]; exact h2, h3⟩
 · intro q y hy hye
  by_cases e : q = j
  · subst e
   rw [List.getElem?_set_self hlt] at hy
   injection hy with hy; subst hy; cases hye
  · rw [List.getElem?_set_ne (fun z => e z.symm)] at hy
   obtain ⟨k, hk, hrk, hnk⟩ := h.back q y hy hye
   have hki : k ≠ i := by intro eq; subst eq; rw [hn] at hnk; omega
   exact ⟨k, hk, by rw [putSeat_ne _ _ _ _ hki]; exact hrk, by rw [putSeat_ne _ _ _ _ hki]; exact hnk⟩
 · intro p q hp hq hrp hrq hnn
  by_cases ep : p = i
  · subst ep; rw [putSeat_self] at hrp; cases hrp
  · by_cases eq : q = i
   · subst eq; rw [putSeat_self] at hrq; cases hrq
   · rw [putSeat_ne _ _ _ _ ep, putSeat_ne _ _ _ _ eq] at hnn
    rw [putSeat_ne _ _ _ _ ep] at hrp
    rw [putSeat_ne _ _ _ _ eq] at hrq
    exact h.one p q hp hq hrp hrq hnn
 · have a := openN_set l j x { x with ended := true } hx
  have c := seatN_put s i ⟨false, 0, 0, 0⟩ hi
  have d := h.count
  rw [he] at a
  rw [hr] at c
  simp at a c
  omega
 · intro y hy
  rcases List.mem_or_eq_of_mem_set hy with hy | rfl
  · exact h.span y hy
  · exact h.span x (List.mem_of_getElem? hx)
theorem SimR.cutS {b top : Nat} {s : Nat → SeatE} {l : List RdrE} (h : SimR b s l top) {i j f g : Nat} {x : RdrE} (hi : i < 6) (hr : (s i).reads = true) (hn : (s i).num = j) (hx : l[j]? = some x) (hf : max x.lo f ≤ min x.hi g) (hlo : x.lo = (s i).lo) (hhi : x.hi = (s i).hi) (he : x.ended = false) :
  SimR b (putSeat s i ((s i).cut f g)) (l.set j { x with lo := max x.lo f, hi := min x.hi g }) top := by
 have hlt := (List.getElem?_eq_some_iff.mp hx).1
 have rd : ∀ k, (putSeat s i ((s i).cut f g) k).reads = (s k).reads := fun k => by by_cases e : k = i <;> simp [putSeat, e, SeatE.cut]
 have nm : ∀ k, (putSeat s i ((s i).cut f g) k).num = (s k).num := fun k => by by_cases e : k = i <;> simp [putSeat, e, SeatE.cut]
 refine ⟨by simp [h.begun], ?_, ?_, ?_, ?_, ?_⟩
 · intro k hk hrk
  rw [rd] at hrk
  rw [nm]
  by_cases e : k = i
  · subst e
   refine ⟨j, { x with lo := max x.lo f, hi := min x.hi g }, hn, List.getElem?_set_self hlt, he, ?_, ?_⟩
   · rw [putSeat_self]; show max x.lo f = max (s k).lo f; rw [hlo]
   · rw [putSeat_self]; show min x.hi g = min (s k).hi g; rw [hhi]
  · obtain ⟨q, y, h1, h2, h3⟩ := h.seat k hk hrk
   have hq : q ≠ j := fun eq => e (h.one k i hk hi hrk hr (by rw [h1, hn, eq]))
   rw [putSeat_ne _ _ _ _ e]
   exact ⟨q, y, h1, by rw [List.getElem?_set_ne (fun z => hq z.symm)]; exact h2, h3⟩
 · intro q y hy hye
  by_cases e : q = j
  · subst e
   exact ⟨i, hi, by rw [rd]; exact hr, by rw [nm]; exact hn⟩
  · rw [List.getElem?_set_ne (fun z => e z.symm)] at hy
   obtain ⟨k, hk, hrk, hnk⟩ := h.back q y hy hye
   exact ⟨k, hk, by rw [rd]; exact hrk, by rw [nm]; exact hnk⟩
 · intro p q hp hq hrp hrq hnn
  rw [rd] at hrp hrq
  rw [nm, nm] at hnn
  exact h.one p q hp hq hrp hrq hnn
 · have a := openN_set l j x { x with lo := max x.lo f, hi := min x.hi g } hx
  have c := seatN_put s i ((s i).cut f g) hi
  have d := h.count
  have e : ((s i).cut f g).reads = (s i).reads := rfl
  rw [e] at c
  have e2 : ({ x with lo := max x.lo f, hi := min x.hi g } : RdrE).ended = x.ended := rfl
  rw [e2] at a
  omega
 · intro y hy
  rcases List.mem_or_eq_of_mem_set hy with hy | rfl
  · exact h.span y hy
  · have := h.span x (List.mem_of_getElem? hx)
   refine ⟨hf, ?_⟩
   show min x.hi g ≤ top
   omega
theorem rcommit_long (w : World) (b : Nat) (ao : Option Addr) (n cap : Nat) (hn : 8 < n) (hm : n ≤ maxLen) :
  Calls Tryz.prog 29 #[.pointer (some ⟨b, 0, none⟩), .slice ao n cap] w fun e w' => e = .returned (.tuple #[.int .u64 0, .int .i64 3]) ∧ w = w' := by
 unfold maxLen at hm
 go_enter Tryz.func29, Tryz.ntmps29
 go_wp2
 go_ret2
 exact ⟨rfl, rfl⟩
def KeyPost (w : World) (e : Ending) (w' : World) : Prop := e = .returned (.tuple #[.int .u64 0, .int .i64 5]) ∧ w = w'
theorem rcommit_key (w : World) (b : Nat) (ao : Option Addr) (n cap : Nat) (ws : List (Int × Int)) (hw : Wr w ao n ws) (hn : n ≤ 8) (hk : ws.all keyOk = false) :
  Calls Tryz.prog 29 #[.pointer (some ⟨b, 0, none⟩), .slice ao n cap] w fun e w' => KeyPost w e w' := by
 have HW : Hid (Wr w ao n ws) := hw
 have HB : Hid (ws.all keyOk = false) := hk
 have hl := hw.len
 clear hw hk
 go_enter Tryz.func29, Tryz.ntmps29
 go_wp2
 go_loop [6] (fun i => ∃ k : Nat, k ≤ n ∧ i = .int .i64 k ∧ Hid (∀ j (h : j < ws.length), j < k → keyOk ws[j] = true)) (fun i => n - (intOf i).toNat)
 case atStart => exact ⟨0, Nat.zero_le _, rfl, fun j _ hj => absurd hj (Nat.not_lt_zero _)⟩
 case round =>
  obtain ⟨k, hkn, rfl, HP⟩ := hrel
  by_cases hlt : k < n
  · have hlt' : k < ws.length := by omega
   obtain ⟨bl, off, hao, c0, _⟩ := HW.out.cell k hlt'
   obtain ⟨x, hx⟩ : ∃ x, x = ws[k].1 := ⟨_, rfl⟩
   rw [← hx] at c0
   have HX : Hid (keyOk ws[k] = (decide (0 ≤ x) && decide (x < 8))) := by simp [Hid, keyOk, hx]
   have HAO : Hid (ao = some ⟨bl, off, none⟩) := hao
   subst hao
   clear hx
   by_cases h0 : x < 0
   · have hd : decide (x < 0) = true := by simpa using h0
    go_wp2
    go_ret2
    exact ⟨rfl, rfl⟩
   · have hd : decide (x < 0) = false := by simpa using h0
    by_cases h8 : 8 ≤ x
    · go_wp2
     go_ret2
     exact ⟨rfl, rfl⟩
    · go_wp2
     go_round
     case rel =>
      refine ⟨k + 1, by omega, by go_num, fun j hj hjk => ?_⟩
      by_cases e : j = k
      · subst e; rw [HX.out]; simp; omega
      · exact HP.out j hj (by omega)
     case measure => simp [intOf]; omega
  · exfalso
   have : ws.all keyOk = true := by
    rw [List.all_eq_true]
    intro y hy
    obtain ⟨j, hj, rfl⟩ := List.getElem_of_mem hy
    exact HP.out j hj (by omega)
   rw [HB.out] at this
   cases this
def zeroN : NodeE := ⟨false, 0, 0, .slice none 0 0, .slice none 0 0, .slice none 0 0, .slice none 0 0, [], [], [], []⟩
theorem nilD (w : World) (T size : Nat) : RowD.Is w ⟨T, size, .slice none 0 0, 0, []⟩ := Row.nil w T size
theorem Ref.putZero {w w' : World} {b k : Nat} {R : RefS} {nd : NodeE} (h : Ref w b R) (hnd : R.nodes[k]? = some nd) (kn : Kept (fun j => R.vn.ownBlock = some j) w w')
  (hn : Row w' 146 7 R.vn (R.nodes.set k zeroN).length ((R.nodes.set k zeroN).flatMap nodeC)) : Ref w' b (R.putN k zeroN) := by
 obtain ⟨hk, hnd'⟩ := List.getElem?_eq_some_iff.mp hnd
 have nown : ∀ (r : RowD) (x : Nat), (Value.slice none 0 0).ownBlock = some x → r.v.ownBlock = some x ∨ w.heap.size ≤ x := fun _ x hx => by simp [Value.ownBlock] at hx
 have g0 : R.rows[(k * 4 + 0) + 5]? = _ := rows_at hnd 0 (by omega)
 have g1 : R.rows[(k * 4 + 1) + 5]? = _ := rows_at hnd 1 (by omega)
 have g2 : R.rows[(k * 4 + 2) + 5]? = _ := rows_at hnd 2 (by omega)
 have g3 : R.rows[(k * 4 + 3) + 5]? = _ := rows_at hnd 3 (by omega)
 have a0 := h.all.put _ _ ⟨53, 1, .slice none 0 0, 0, []⟩ g0 (Kept.refl _ w) (nilD w _ _) (nown _)
 have a1 := a0.put ((k * 4 + 1) + 5) _ ⟨53, 1, .slice none 0 0, 0, []⟩ (by rw [List.getElem?_set_ne (by omega)]; exact g1) (Kept.refl _ w) (nilD w _ _) (nown _)
 have a2 := a1.put ((k * 4 + 2) + 5) _ ⟨55, 6, .slice none 0 0, 0, []⟩ (by rw [List.getElem?_set_ne (by omega), List.getElem?_set_ne (by omega)]; exact g2) (Kept.refl _ w) (nilD w _ _) (nown _)
 have a3 := a2.put ((k * 4 + 3) + 5) _ ⟨3, 1, .slice none 0 0, 0, []⟩ (by rw [List.getElem?_set_ne (by omega), List.getElem?_set_ne (by omega), List.getElem?_set_ne (by omega)]; exact g3) (Kept.refl _ w) (nilD w _ _) (nown _)
 have a4 := a3.put 2 R.nodeD (R.putN k zeroN).nodeD (by rw [List.getElem?_set_ne (by omega), List.getElem?_set_ne (by omega), List.getElem?_set_ne (by omega), List.getElem?_set_ne (by omega)]; rfl) kn hn (fun x hx => .inl hx)
 have s0 := flat_set nodeR 4 (fun _ => rfl) R.nodes k hk 0 (by omega) ⟨53, 1, .slice none 0 0, 0, []⟩ { nd with fl := .slice none 0 0, fls := [] } (by rw [hnd']; rfl)
 have s1 := flat_set nodeR 4 (fun _ => rfl) (R.nodes.set k { nd with fl := .slice none 0 0, fls := [] }) k (by simpa using hk) 1 (by omega) ⟨53, 1, .slice none 0 0, 0, []⟩ { nd with fl := .slice none 0 0, fls := [], wt := .slice none 0 0, wts := [] } (by rw [List.getElem_set_self]; rfl)
 have s2 := flat_set nodeR 4 (fun _ => rfl) (R.nodes.set k { nd with fl := .slice none 0 0, fls := [], wt := .slice none 0 0, wts := [] }) k (by simpa using hk) 2 (by omega) ⟨55, 6, .slice none 0 0, 0, []⟩ { nd with fl := .slice none 0 0, fls := [], wt := .slice none 0 0, wts := [], en := .slice none 0 0, ents := [] } (by rw [List.getElem_set_self]; rfl)
 have s3 := flat_set nodeR 4 (fun _ => rfl) (R.nodes.set k { nd with fl := .slice none 0 0, fls := [], wt := .slice none 0 0, wts := [], en := .slice none 0 0, ents := [] }) k (by simpa using hk) 3 (by omega) ⟨3, 1, .slice none 0 0, 0, []⟩ zeroN (by rw [List.getElem_set_self]; rfl)
 rw [List.set_set] at s1 s2 s3
 have er : (R.putN k zeroN).rows = ((((R.rows.set ((k * 4 + 0) + 5) ⟨53, 1, .slice none 0 0, 0, []⟩).set ((k * 4 + 1) + 5) ⟨53, 1, .slice none 0 0, 0, []⟩).set ((k * 4 + 2) + 5) ⟨55, 6, .slice none 0 0, 0, []⟩).set ((k * 4 + 3) + 5) ⟨3, 1, .slice none 0 0, 0, []⟩).set 2 (R.putN k zeroN).nodeD := by
  show _ :: _ :: _ :: _ :: _ :: (R.nodes.set k zeroN).flatMap nodeR = _ :: _ :: _ :: _ :: _ :: ((((R.nodes.flatMap nodeR).set (k * 4 + 0) _).set (k * 4 + 1) _).set (k * 4 + 2) _).set (k * 4 + 3) _
  rw [s0, s1, s2, s3]; rfl
 exact ⟨h.blk.kept kn fun he => h.nodes.ne_block h.blk (by decide) he, by rw [er]; exact a4⟩
theorem node_put {l : List NodeE} {k : Nat} (hk : k < l.length) (nd : NodeE) :
  (((((((l.flatMap nodeC).set (k * 7) (.bool nd.up)).set (k * 7 + 1) (.int .u64 (nd.since : Int))).set (k * 7 + 2) (.int .u64 (nd.horizon : Int))).set (k * 7 + 3) nd.fl).set (k * 7 + 4) nd.wt).set (k * 7 + 5) nd.en).set (k * 7 + 6) nd.nm = (l.set k nd).flatMap nodeC := by
 obtain ⟨y, hy⟩ : ∃ y, y = l[k] := ⟨_, rfl⟩
 have s0 := flat_set nodeC 7 (fun _ => rfl) l k hk 0 (by omega) (.bool nd.up) { y with up := nd.up } (by rw [← hy]; rfl)
 have s1 := flat_set nodeC 7 (fun _ => rfl) (l.set k { y with up := nd.up }) k (by simpa using hk) 1 (by omega) (.int .u64 (nd.since : Int)) { y with up := nd.up, since := nd.since } (by rw [List.getElem_set_self]; rfl)
 have s2 := flat_set nodeC 7 (fun _ => rfl) (l.set k { y with up := nd.up, since := nd.since }) k (by simpa using hk) 2 (by omega) (.int .u64 (nd.horizon : Int)) { y with up := nd.up, since := nd.since, horizon := nd.horizon } (by rw [List.getElem_set_self]; rfl)
 have s3 := flat_set nodeC 7 (fun _ => rfl) (l.set k { y with up := nd.up, since := nd.since, horizon := nd.horizon }) k (by simpa using hk) 3 (by omega) nd.fl { y with up := nd.up, since := nd.since, horizon := nd.horizon, fl := nd.fl } (by rw [List.getElem_set_self]; rfl)
 have s4 := flat_set nodeC 7 (fun _ => rfl) (l.set k { y with up := nd.up, since := nd.since, horizon := nd.horizon, fl := nd.fl }) k (by simpa using hk) 4 (by omega) nd.wt { y with up := nd.up, since := nd.since, horizon := nd.horizon, fl := nd.fl, wt := nd.wt } (by rw [List.getElem_set_self]; rfl)
 have s5 := flat_set nodeC 7 (fun _ => rfl) (l.set k { y with up := nd.up, since := nd.since, horizon := nd.horizon, fl := nd.fl, wt := nd.wt }) k (by simpa using hk) 5 (by omega) nd.en { y with up := nd.up, since := nd.since, horizon := nd.horizon, fl := nd.fl, wt := nd.wt, en := nd.en } (by rw [List.getElem_set_self]; rfl)
 have s6 := flat_set nodeC 7 (fun _ => rfl) (l.set k { y with up := nd.up, since := nd.since, horizon := nd.horizon, fl := nd.fl, wt := nd.wt, en := nd.en }) k (by simpa using hk) 6 (by omega) nd.nm nd (by rw [List.getElem_set_self]; rfl)
 rw [Nat.add_zero] at s0
 rw [List.set_set] at s1 s2 s3 s4 s5 s6
 rw [s0, s1, s2, s3, s4, s5, s6]
theorem rfall (w : World) (b : Nat) (R : RefS) (k : Nat) (h : Ref w b R) (hm : R.nodes.length ≤ 3) (hk : k < R.nodes.length) :
  Calls Tryz.prog 123 #[.pointer (some ⟨b, 0, none⟩), .int .i64 k] w fun e w' => e = .returned (.tuple #[]) ∧ Ref w' b (R.putN k zeroN) ∧ Kept (fun j => R.vn.ownBlock = some j) w w' := by
 obtain ⟨g, cap, hv, ho, hgl⟩ := h.nodes.block (by omega)
 have c3 := h.c3
 rw [hv] at c3
 have a0 := h.nodes.cell ho (k * 7) _ (by have := node_at R.nodes k hk 0 (by omega); rw [Nat.add_zero] at this; rw [this]; rfl)
 have a1 := h.nodes.cell ho (k * 7 + 1) _ (by rw [node_at R.nodes k hk 1 (by omega)]; rfl)
 have a2 := h.nodes.cell ho (k * 7 + 2) _ (by rw [node_at R.nodes k hk 2 (by omega)]; rfl)
 have a3 := h.nodes.cell ho (k * 7 + 3) _ (by rw [node_at R.nodes k hk 3 (by omega)]; rfl)
 have a4 := h.nodes.cell ho (k * 7 + 4) _ (by rw [node_at R.nodes k hk 4 (by omega)]; rfl)
 have a5 := h.nodes.cell ho (k * 7 + 5) _ (by rw [node_at R.nodes k hk 5 (by omega)]; rfl)
 have a6 := h.nodes.cell ho (k * 7 + 6) _ (by rw [node_at R.nodes k hk 6 (by omega)]; rfl)
 have f0 := h.nodes.free ho (k * 7)
 have f1 := h.nodes.free ho (k * 7 + 1)
 have f2 := h.nodes.free ho (k * 7 + 2)
 have f3 := h.nodes.free ho (k * 7 + 3)
 have f4 := h.nodes.free ho (k * 7 + 4)
 have f5 := h.nodes.free ho (k * 7 + 5)
 have f6 := h.nodes.free ho (k * 7 + 6)
 have r0 := (((((((h.nodes.set ho (k * 7) (.bool false)).set ho (k * 7 + 1) (.int .u64 0)).set ho (k * 7 + 2) (.int .u64 0)).set ho (k * 7 + 3) (.slice none 0 0)).set ho (k * 7 + 4) (.slice none 0 0)).set ho (k * 7 + 5) (.slice none 0 0)).set ho (k * 7 + 6) (.slice none 0 0))
 have e0 := node_put hk zeroN
 have k0 : Kept (fun j => R.vn.ownBlock = some j) w (((((((w.setCell ⟨g, k * 7, none⟩ (.bool false)).setCell ⟨g, k * 7 + 1, none⟩ (.int .u64 0)).setCell ⟨g, k * 7 + 2, none⟩ (.int .u64 0)).setCell ⟨g, k * 7 + 3, none⟩ (.slice none 0 0)).setCell ⟨g, k * 7 + 4, none⟩ (.slice none 0 0)).setCell ⟨g, k * 7 + 5, none⟩ (.slice none 0 0)).setCell ⟨g, k * 7 + 6, none⟩ (.slice none 0 0)) := by
  have one : ∀ (u : World) (o : Nat) (v : Value), Kept (fun j => R.vn.ownBlock = some j) u (u.setCell ⟨g, o, none⟩ v) := fun u o v => (Kept.setCell u _ _).mono fun j hj => by rw [ho, hj]
  have tr : ∀ {a b c : World}, Kept (fun j => R.vn.ownBlock = some j) a b → Kept (fun j => R.vn.ownBlock = some j) b c → Kept (fun j => R.vn.ownBlock = some j) a c := fun p q => p.trans q (fun _ => id) (fun _ _ => id)
  exact tr (tr (tr (tr (tr (tr (one _ _ _) (one _ _ _)) (one _ _ _)) (one _ _ _)) (one _ _ _)) (one _ _ _)) (one _ _ _)
 have HZ := h.putZero (List.getElem?_eq_getElem hk) k0 (by rw [List.length_set, ← e0]; exact r0)
 have HZ' : Hid (Ref (((((((w.setCell ⟨g, k * 7, none⟩ (.bool false)).setCell ⟨g, k * 7 + 1, none⟩ (.int .u64 0)).setCell ⟨g, k * 7 + 2, none⟩ (.int .u64 0)).setCell ⟨g, k * 7 + 3, none⟩ (.slice none 0 0)).setCell ⟨g, k * 7 + 4, none⟩ (.slice none 0 0)).setCell ⟨g, k * 7 + 5, none⟩ (.slice none 0 0)).setCell ⟨g, k * 7 + 6, none⟩ (.slice none 0 0)) b (R.putN k zeroN)) := HZ
 have HK : Hid (Kept (fun j => R.vn.ownBlock = some j) w (((((((w.setCell ⟨g, k * 7, none⟩ (.bool false)).setCell ⟨g, k * 7 + 1, none⟩ (.int .u64 0)).setCell ⟨g, k * 7 + 2, none⟩ (.int .u64 0)).setCell ⟨g, k * 7 + 3, none⟩ (.slice none 0 0)).setCell ⟨g, k * 7 + 4, none⟩ (.slice none 0 0)).setCell ⟨g, k * 7 + 5, none⟩ (.slice none 0 0)).setCell ⟨g, k * 7 + 6, none⟩ (.slice none 0 0))) := k0
 clear r0 e0 k0 HZ h hv ho
 go_enter Tryz.func123, Tryz.ntmps123
 go_wp2
 go_end0
 exact ⟨rfl, HZ'.out, HK.out⟩
end Go.Proofs.YtpfcacedpkaihaaGreat
