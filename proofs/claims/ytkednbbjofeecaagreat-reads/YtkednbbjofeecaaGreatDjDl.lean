import Derived.Test.YtkednbbjofeecaaGreatDc
import Derived.Test.YtkednbbjofeecaaGreatHf
import Derived.Test.YtkednbbjofeecaaGreatGj
import Derived.Test.YtkednbbjofeecaaGreatDh
import Derived.Deep.DeepCutAuto
/- The program's Right (package store), walked. -/
namespace Go.Proofs.YtkednbbjofeecaaGreat
open Go.RowKit

theorem till_none {l : List PastE} {K : Int} : ∀ n, n ≤ l.length - 1 → (∀ s, l.length - 1 - n < s → s ≤ l.length - 1 → touchB l K s = false) → tillN l K n = none
  | 0, _, _ => rfl
  | n + 1, hn, h => by
    have h1 := h (l.length - 1 - n) (by omega) (by omega)
    simp only [tillN, h1]
    exact till_none n (by omega) fun s hs1 hs2 => h s (by omega) hs2
theorem till_some {l : List PastE} {K : Int} {s : Nat} : ∀ n, n ≤ l.length - 1 → l.length - 1 - n < s → s ≤ l.length - 1 → touchB l K s = true → (∀ r, l.length - 1 - n < r → r < s → touchB l K r = false) → tillN l K n = some s
  | 0, _, h1, h2, _, _ => by omega
  | n + 1, hn, h1, h2, ht, h => by
    by_cases e : s = l.length - 1 - n
    · subst e; simp only [tillN, ht, if_true]
    · have h3 := h (l.length - 1 - n) (by omega) (by omega)
      simp only [tillN, h3]
      exact till_some n (by omega) (by omega) h2 ht fun r hr1 hr2 => h r (by omega) hr2

def RightPost (w : World) (l : List PastE) (K : Int) (t : Nat) (e : Ending) (w' : World) : Prop :=
  e = .returned (.tuple #[.int .u64 (fromN (zeroP :: l) K t : Int), .int .u64 (((tillN (zeroP :: l) K (l.length - t)).getD 0 : Nat) : Int)]) ∧ Kept (fun _ => False) w w'

theorem fromN_step {l : List PastE} {K : Int} {k t : Nat} (hk : k + 1 ≤ t) : fromN l K (min (k + 1) t) = if touchB l K (k + 1) then k + 1 else fromN l K (min k t) := by
  have e1 : min (k + 1) t = k + 1 := by omega
  have e2 : min k t = k := by omega
  rw [e1, e2]; rfl
theorem fromN_past {l : List PastE} {K : Int} {k t : Nat} (hk : t < k + 1) : fromN l K (min (k + 1) t) = fromN l K (min k t) := by
  have e1 : min (k + 1) t = t := by omega
  have e2 : min k t = t := by omega
  rw [e1, e2]

set_option maxRecDepth 100000 in
set_option maxHeartbeats 1000000 in
theorem dright (w : World) (b : Nat) (D : DevS) (K : Int) (t : Nat) (h : Dev w b D) (hf : D.Fit) (ht : t ≤ D.past.length) :
    Calls Tryz.prog 114 #[.pointer (some ⟨b, 0, none⟩), .int .u8 K, .int .u64 t] w fun e w' => RightPost w D.past K t e w' := by
  have hm := hf.pmax
  obtain ⟨ao, cap, hv, hno⟩ := h.past.form
  have c1 := h.c1
  rw [hv] at c1
  have HCELL : Hid (∀ k (hk : k < D.past.length), ∃ g, ao = some ⟨g, 0, none⟩ ∧ ∀ f, f < 10 → w.cell? ⟨g, k * 10 + f, none⟩ = (pastC D.past[k])[f]?) := by
    intro k hk
    obtain ⟨g, cap', hv', ho, _⟩ := h.past.block (by omega)
    rw [hv] at hv'
    injection hv' with e1 _ _
    refine ⟨g, e1, fun f hf => ?_⟩
    have e := past_at D.past k hk f hf
    obtain ⟨u, hu⟩ : ∃ u, (pastC D.past[k])[f]? = some u := ⟨(pastC D.past[k])[f]'(by simpa [pastC] using hf), List.getElem?_eq_getElem _⟩
    rw [hu]
    exact h.past.cell ho _ u (e.trans hu)
  obtain ⟨L, hL⟩ : ∃ L, L = zeroP :: D.past := ⟨_, rfl⟩
  have hll : L.length = D.past.length + 1 := by rw [hL]; rfl
  have HT : Hid (∀ k (hk : k < D.past.length), touchB L K (k + 1) = (bits .and .u8 D.past[k].keys K != 0)) := fun k hk => touchB_some K (by rw [hL, List.getElem?_cons_succ]; exact List.getElem?_eq_getElem hk)
  have HPO : Hid (∀ (e : Ending) (w' : World), e = .returned (.tuple #[.int .u64 (fromN L K t : Int), .int .u64 (((tillN L K (D.past.length - t)).getD 0 : Nat) : Int)]) → Kept (fun _ => False) w w' → RightPost w D.past K t e w') := fun e w' h1 h2 => ⟨by rw [← hL]; exact h1, h2⟩
  clear h hf hv hno hL
  go_enter Tryz.func114, Tryz.ntmps114
  go_wp2
  go_loopw [8, 17] (fun fr i wr => ∃ k : Nat, k ≤ D.past.length ∧ i = .int .i64 k ∧ fr = .int .u64 (fromN L K (min k t) : Int) ∧ Hid (∀ s, t < s → s ≤ k → touchB L K s = false) ∧ Hid (Kept (fun _ => False) w wr)) (fun _ i _ => D.past.length - (intOf i).toNat)
  case atStart => exact ⟨0, Nat.zero_le _, rfl, by simp [fromN], fun s h1 h2 => by omega, Kept.refl _ _⟩
  case round =>
    obtain ⟨k, hk, rfl, rfl, HB, HK⟩ := hrel
    have hfl := fromN_le L K (min k t)
    by_cases hlt : k < D.past.length
    · obtain ⟨g, hg, hcell⟩ := HCELL.out k hlt
      have HTK := HT.out k hlt
      obtain ⟨p, hp⟩ : ∃ p, p = D.past[k] := ⟨_, rfl⟩
      rw [← hp] at hcell HTK
      have s0 : wr.cell? ⟨g, k * 10, none⟩ = some (.int .i32 (p.st 0)) := HK.out.keep id (hcell 0 (by omega))
      have s1 : wr.cell? ⟨g, k * 10 + 1, none⟩ = some (.int .i32 (p.st 1)) := HK.out.keep id (hcell 1 (by omega))
      have s2 : wr.cell? ⟨g, k * 10 + 2, none⟩ = some (.int .i32 (p.st 2)) := HK.out.keep id (hcell 2 (by omega))
      have s3 : wr.cell? ⟨g, k * 10 + 3, none⟩ = some (.int .i32 (p.st 3)) := HK.out.keep id (hcell 3 (by omega))
      have s4 : wr.cell? ⟨g, k * 10 + 4, none⟩ = some (.int .i32 (p.st 4)) := HK.out.keep id (hcell 4 (by omega))
      have s5 : wr.cell? ⟨g, k * 10 + 5, none⟩ = some (.int .i32 (p.st 5)) := HK.out.keep id (hcell 5 (by omega))
      have s6 : wr.cell? ⟨g, k * 10 + 6, none⟩ = some (.int .i32 (p.st 6)) := HK.out.keep id (hcell 6 (by omega))
      have s7 : wr.cell? ⟨g, k * 10 + 7, none⟩ = some (.int .i32 (p.st 7)) := HK.out.keep id (hcell 7 (by omega))
      have s8 : wr.cell? ⟨g, k * 10 + 8, none⟩ = some (.int .u8 p.keys) := HK.out.keep id (hcell 8 (by omega))
      have s9 : wr.cell? ⟨g, k * 10 + 9, none⟩ = some (.int .i64 p.tick) := HK.out.keep id (hcell 9 (by omega))
      clear hcell hp c1
      subst hg
      obtain ⟨fr, hfr⟩ : ∃ fr, fr = fromN L K (min k t) := ⟨_, rfl⟩
      rw [← hfr] at hfl ⊢
      have HFR : Hid (fr = fromN L K (min k t)) := hfr
      clear hfr
      cases hbz : (bits .and .u8 p.keys K == 0) with
      | true =>
        have HTB : Hid (touchB L K (k + 1) = false) := by show _ = _; rw [HTK]; simp [bne, hbz]
        have HNX : Hid (fromN L K (min (k + 1) t) = fr) := by
          show _ = _
          by_cases hkt : k + 1 ≤ t
          · rw [fromN_step hkt, HTB.out, HFR.out]; rfl
          · rw [fromN_past (by omega), HFR.out]
        clear HTK
        go_wp2
        go_roundw
        case rel =>
          refine ⟨k + 1, by omega, by go_num, by rw [HNX.out], fun s h1 h2 => ?_, HK.out.allocNew _⟩
          by_cases e : s = k + 1
          · subst e; exact HTB.out
          · exact HB.out s h1 (by omega)
        case measure => simp [intOf]; omega
      | false =>
        have HTB : Hid (touchB L K (k + 1) = true) := by show _ = _; rw [HTK]; simp [bne, hbz]
        clear HTK
        by_cases hkt : k + 1 ≤ t
        · have HNX : Hid (fromN L K (min (k + 1) t) = k + 1) := by show _ = _; rw [fromN_step hkt, HTB.out]; rfl
          go_wp2
          go_roundw
          case rel => exact ⟨k + 1, by omega, by go_num, by rw [HNX.out]; go_num, fun s h1 h2 => by omega, HK.out.allocNew _⟩
          case measure => simp [intOf]; omega
        · have HNX : Hid (fromN L K t = fr ∧ tillN L K (D.past.length - t) = some (k + 1)) := by
            refine ⟨by rw [HFR.out]; congr 1; omega, ?_⟩
            exact till_some _ (by omega) (by omega) (by omega) HTB.out fun r h1 h2 => HB.out r (by omega) (by omega)
          go_wp2
          go_ret2
          refine HPO.out _ _ ?_ (HK.out.allocNew _)
          rw [HNX.out.1, HNX.out.2]
          rfl
    · have hkk : k = D.past.length := by omega
      subst hkk
      have HNX : Hid (fromN L K (min D.past.length t) = fromN L K t ∧ tillN L K (D.past.length - t) = none) := by
        refine ⟨by congr 1; omega, till_none _ (by omega) fun s h1 h2 => HB.out s (by omega) (by omega)⟩
      go_wp2
      go_ret2
      refine HPO.out _ _ ?_ HK.out
      rw [HNX.out.2, ← HNX.out.1]
      rfl

end Go.Proofs.YtkednbbjofeecaaGreat

/- The program's puts (package puts): Join, List, Take, walked. -/
namespace Go.Proofs.YtkednbbjofeecaaGreat
open Go.RowKit

def DevS.setPuts (D : DevS) (l : List EntE) (v : Value) : DevS := { D with puts := l, vq := v }
theorem Dev.c27 {w : World} {b : Nat} {D : DevS} (h : Dev w b D) : w.cell? ⟨b, 27, none⟩ = some D.vq := h.blk.cell 27

/-- another list of puts, in its old row's block or in a new one. -/
theorem Dev.setPuts {w w' : World} {b : Nat} {D : DevS} (h : Dev w b D) (l : List EntE) (v : Value) (k : Kept (fun j => D.vq.ownBlock = some j) w w') (hr : Row w' 55 6 v l.length (l.flatMap entC)) (hown : ∀ x, v.ownBlock = some x → D.vq.ownBlock = some x ∨ w.heap.size ≤ x) :
    Dev (w'.setCell ⟨b, 27, none⟩ v) b (D.setPuts l v) ∧ Kept (D.fp b) w (w'.setCell ⟨b, 27, none⟩ v) ∧ (∀ x, (D.setPuts l v).fp b x → D.fp b x ∨ w.heap.size ≤ x) :=
  h.put 1 27 ⟨55, 6, D.vq, D.puts.length, D.puts.flatMap entC⟩ ⟨55, 6, v, l.length, l.flatMap entC⟩ rfl k hr hown rfl (by dsimp only; decide) rfl

theorem oneCell_put (e : EntE) : ∀ u ∈ entC e, u.oneCell' = true := by
  intro u hu; simp [entC] at hu; rcases hu with rfl | rfl | rfl | rfl | rfl | rfl <;> rfl
theorem news_put (w : World) (e : EntE) (t : TypeId) : ∀ j u, (entC e)[j]? = some u → (w.alloc (.cells #[.string e.q, .int .i32 e.val, .int .u64 (e.fr : Int), .int .u64 (e.till : Int), .bool e.op, .int .u64 (e.kn : Int)] t)).cell? ((⟨w.heap.size, 0, none⟩ : Addr).add j) = some u := by
  intro j u hj
  have e' : (⟨w.heap.size, 0, none⟩ : Addr).add j = ⟨w.heap.size, j, none⟩ := by cases j <;> simp [Addr.add]
  rw [e', World.cell?_alloc_at _ _ _ _ rfl]
  simpa [entC] using hj

theorem dput_in {W w' : World} {b : Nat} {D : DevS} {v v' : Value} {news xs : List Value} {n : Nat} {o : Obj} (h : Dev W b D) (hv : D.vq = v) (hA : Appended ((W.alloc o).drew) w' 55 6 v v' n 1 xs news) :
    w'.cell? ⟨b, 27, none⟩ = some v ∧ w'.frozen? ⟨b, 27, none⟩ = false ∧ Appended W w' 55 6 v v' n 1 xs news := by
  have hk : Kept (fun x => v.ownBlock = some x) W w' := (((Kept.alloc W o (fun _ => False)).drew).trans hA.kept (fun _ => False.elim) (fun _ _ => id))
  have blk1 := h.blk.kept hk fun e => h.puts.ne_block h.blk (by decide) (by rw [hv, e])
  refine ⟨by rw [blk1.cell 27, ← hv]; rfl, blk1.free 27, hA.row, hk, ?_⟩
  rcases hA.own with e | e
  · exact .inl e
  · refine .inr fun x hx => ?_
    have h1 := e x hx
    have h2 : W.heap.size + 1 ≤ x := by simpa using h1
    omega

def DJoinPost (w : World) (b : Nat) (D : DevS) (en : EntE) (e : Ending) (w' : World) : Prop :=
  e = .returned (.tuple #[]) ∧ ∃ v, Dev w' b (D.setPuts (if D.puts.length < 10 then D.puts ++ [en] else D.puts) v) ∧ Kept (D.fp b) w w' ∧ (∀ x, (D.setPuts (if D.puts.length < 10 then D.puts ++ [en] else D.puts) v).fp b x → D.fp b x ∨ w.heap.size ≤ x)

set_option maxRecDepth 100000 in
set_option maxHeartbeats 2000000 in
theorem djoin (w : World) (b : Nat) (D : DevS) (en : EntE) (h : Dev w b D) (hf : D.Fit) :
    Calls Tryz.prog 87 #[.pointer (some ⟨b, 27, none⟩), .agg #[.string en.q, .int .i32 en.val, .int .u64 (en.fr : Int), .int .u64 (en.till : Int), .bool en.op, .int .u64 (en.kn : Int)]] w fun e w' => DJoinPost w b D en e w' := by
  have hqm := hf.qmax
  obtain ⟨av, cv, hv, _⟩ := h.puts.form
  have c27 := h.c27
  rw [hv] at c27
  have hbl := h.blk.lt
  have HD : Hid (Dev w b D) := h
  have HV : Hid (D.vq = .slice av D.puts.length cv) := hv
  by_cases h10 : D.puts.length < 10
  · have HPO : Hid (∀ w' v, Dev w' b (D.setPuts (D.puts ++ [en]) v) ∧ Kept (D.fp b) w w' ∧ (∀ x, (D.setPuts (D.puts ++ [en]) v).fp b x → D.fp b x ∨ w.heap.size ≤ x) → DJoinPost w b D en (.returned (.tuple #[])) w') := fun w' v hz => ⟨rfl, v, by rw [if_pos h10]; exact hz⟩
    clear h hf hv
    go_enter Tryz.func87, Tryz.ntmps87
    go_wp2_with fail
    obtain ⟨W, hW⟩ : ∃ W, W = w.alloc (.cells #[.string en.q, .int .i32 en.val, .int .u64 (en.fr : Int), .int .u64 (en.till : Int), .bool en.op, .int .u64 (en.kn : Int)] 55) := ⟨_, rfl⟩
    have kW : Kept (fun _ => False) w W := by rw [hW]; exact Kept.alloc _ _ _
    have bW : Blk W w.heap.size 55 #[.string en.q, .int .i32 en.val, .int .u64 (en.fr : Int), .int .u64 (en.till : Int), .bool en.op, .int .u64 (en.kn : Int)] := by rw [hW]; exact Blk.new _ _ _
    rw [← hW]
    have HDW : Hid (Dev W b D) := HD.out.kept kW (fun _ _ => id)
    have HKW : Hid (Kept (fun _ => False) w W) := kW
    have hbw : b < W.heap.size := HDW.out.blk.lt
    have d27 := kW.keep id c27
    have z0 : W.cell? ⟨w.heap.size, 0, none⟩ = some (.string en.q) := bW.cell 0
    have z1 : W.cell? ⟨w.heap.size, 1, none⟩ = some (.int .i32 en.val) := bW.cell 1
    have z2 : W.cell? ⟨w.heap.size, 2, none⟩ = some (.int .u64 (en.fr : Int)) := bW.cell 2
    have z3 : W.cell? ⟨w.heap.size, 3, none⟩ = some (.int .u64 (en.till : Int)) := bW.cell 3
    have z4 : W.cell? ⟨w.heap.size, 4, none⟩ = some (.bool en.op) := bW.cell 4
    have z5 : W.cell? ⟨w.heap.size, 5, none⟩ = some (.int .u64 (en.kn : Int)) := bW.cell 5
    clear hW kW bW c27
    obtain ⟨i0, hi, hz0, hz1, hz2⟩ := info_parts Tryz.infoEntry
    have HI : Hid (Tryz.prog.info? 55 = some i0 ∧ i0.zero = some (.agg #[.string ByteArray.empty, .int .i32 0, .int .u64 0, .int .u64 0, .bool false, .int .u64 0]) ∧ i0.size = 6 ∧ i0.bytes = 56) := ⟨hi, hz0, hz1, hz2⟩
    clear hi hz0 hz1 hz2
    have qb : ∀ o : Obj, (W.alloc o).cell? ⟨b, 27, none⟩ = some (.slice av D.puts.length cv) := fun o => (World.cell?_alloc_past _ _ _ hbw).trans d27
    have HROW : Hid (∀ o : Obj, Row ((W.alloc o).drew) 55 6 (.slice av D.puts.length cv) D.puts.length (D.puts.flatMap entC)) := fun o => by rw [← HV.out]; exact HDW.out.puts.kept ((Kept.alloc W o (fun _ => False)).drew) (fun _ _ => id)
    have HAP : Hid (∀ (o : Obj) (w' : World) (v' : Value) (news : List Value), Appended ((W.alloc o).drew) w' 55 6 (.slice av D.puts.length cv) v' D.puts.length 1 (D.puts.flatMap entC) news → w'.cell? ⟨b, 27, none⟩ = some (.slice av D.puts.length cv) ∧ w'.frozen? ⟨b, 27, none⟩ = false ∧ Appended W w' 55 6 (.slice av D.puts.length cv) v' D.puts.length 1 (D.puts.flatMap entC) news) := fun o w' v' news hA => dput_in HDW.out HV.out hA
    have b1 : D.puts.length + 1 ≤ maxLen := by unfold maxLen; omega
    have b2 : (D.puts.length + 1) * 56 ≤ 140737488355328 := by omega
    go_region_law (refine step_append_mine rfl (.tmp 14) (.tmp 16) 51 rfl 55 i0 (.agg #[.string ByteArray.empty, .int .i32 0, .int .u64 0, .int .u64 0, .bool false, .int .u64 0]) 6 56 Tryz.underlying51 HI.out.1 HI.out.2.1 HI.out.2.2.1 HI.out.2.2.2 rfl (Nat.succ_pos 5) (.slice av D.puts.length cv) D.puts.length (D.puts.flatMap entC) rfl (HROW.out _) ⟨W.heap.size, 0, none⟩ 1 1 (entC en) rfl rfl (fun j u hj => news_put W en _ j u hj) (oneCell_put en) b1 b2 ?_; intro v' w' hA; obtain ⟨p1, p2, p4⟩ := HAP.out _ _ _ _ hA; clear hA; obtain ⟨ao', cap', hv', _⟩ := p4.row.form; subst hv')
    all_goals
      have hz := Dev.setPuts HDW.out (D.puts ++ [en]) (.slice ao' (D.puts.length + 1) cap') (by rw [HV.out]; exact p4.kept) (by rw [List.length_append, List.flatMap_append]; simpa using p4.row) (fun x hx => by rw [HV.out]; exact p4.own.imp (fun e => by rw [← e]; exact hx) (fun e => e x hx))
      have HZ : Hid (Dev (w'.setCell ⟨b, 27, none⟩ (.slice ao' (D.puts.length + 1) cap')) b (D.setPuts (D.puts ++ [en]) (.slice ao' (D.puts.length + 1) cap')) ∧ Kept (D.fp b) w (w'.setCell ⟨b, 27, none⟩ (.slice ao' (D.puts.length + 1) cap')) ∧ (∀ k, (D.setPuts (D.puts ++ [en]) (.slice ao' (D.puts.length + 1) cap')).fp b k → D.fp b k ∨ w.heap.size ≤ k)) :=
        ⟨hz.1, HKW.out.trans hz.2.1 (fun _ => False.elim) (fun _ _ => id), fun k hk => (hz.2.2 k hk).imp id fun hh => Nat.le_trans HKW.out.size hh⟩
      clear hz p4 p1 p2 qb
      go_wp2
      go_end0
      exact HPO.out _ _ HZ.out
  · have HPO : Hid (∀ w', Kept (fun _ => False) w w' → DJoinPost w b D en (.returned (.tuple #[])) w') := fun w' hk => ⟨rfl, D.vq, by rw [if_neg h10]; exact ⟨h.kept hk (fun _ _ => id), hk.mono (fun _ => False.elim), fun x hx => .inl hx⟩⟩
    clear h hf hv
    go_enter Tryz.func87, Tryz.ntmps87
    go_wp2
    go_end0
    exact HPO.out _ (Kept.alloc _ _ _)

end Go.Proofs.YtkednbbjofeecaaGreat
