import Derived.Test.YtpfcacedpkaihabDlDm
import Derived.Laws.AppendOwnNone
import Derived.Test.YtpfcacedpkaihabQe
import Derived.Test.YtpfcacedpkaihabVaVcMaMbMc
/- The program's puts (package puts): List; the call Puts (package almanac), walked. -/
namespace Go.Proofs.Ytpfcacedpkaihab
open Go.RowKit

theorem row_empty (w : World) (T size : Nat) : Row (w.alloc (.cells #[] T)) T size (.slice (some ⟨w.heap.size, 0, none⟩) 0 0) 0 [] :=
  ⟨by simp, .inr ⟨w.heap.size, 0, #[], rfl, Nat.zero_le _, Blk.new w T #[], Nat.le_refl _, Nat.zero_le _, by simp, by simp⟩⟩

def DListPost (w : World) (l : List EntE) (e : Ending) (w' : World) : Prop :=
  ∃ v, e = .returned v ∧ Row w' 88 6 v l.length (l.flatMap entC) ∧ Kept (fun _ => False) w w' ∧ ∀ k, v.ownBlock = some k → w.heap.size ≤ k

theorem list_done {w w1 w' : World} {l : List EntE} {v' : Value} {o : Obj} (h1 : w1 = w.alloc o) (hA : Appended w1 w' 88 6 (.slice (some ⟨w.heap.size, 0, none⟩) 0 0) v' 0 l.length [] (l.flatMap entC)) : DListPost w l (.returned v') w' := by
  subst h1
  refine ⟨v', rfl, by have := hA.row; rwa [Nat.zero_add, List.nil_append] at this, (Kept.alloc w o (fun _ => False)).trans hA.kept (fun _ => id) (fun k hk he => ?_), fun k hk => ?_⟩
  · simp [Value.ownBlock] at he; omega
  · rcases hA.own with e | e
    · rw [e] at hk; simp [Value.ownBlock] at hk; omega
    · have := e k hk; simp at this; omega

set_option maxRecDepth 100000 in
set_option maxHeartbeats 2000000 in
theorem dlist (w : World) (b : Nat) (D : DevS) (h : Dev w b D) (hf : D.Fit) :
    Calls Try.prog 41 #[.pointer (some ⟨b, 27, none⟩)] w fun e w' => DListPost w D.puts e w' := by
  have hqm := hf.qmax
  have hbl := h.blk.lt
  obtain ⟨i0, hi, hz0, hz1, hz2⟩ := info_parts Try.infoEntry
  have HI : Hid (Try.prog.info? 88 = some i0 ∧ i0.zero = some (.agg #[.string ByteArray.empty, .int .i32 0, .int .u64 0, .int .u64 0, .bool false, .int .u64 0]) ∧ i0.size = 6 ∧ i0.bytes = 56) := ⟨hi, hz0, hz1, hz2⟩
  clear hi hz0 hz1 hz2
  have HRE : Hid (Row (w.alloc (.cells #[] 88)) 88 6 (.slice (some ⟨w.heap.size, 0, none⟩) 0 0) 0 []) := row_empty w _ 6
  rcases h.puts.shape with ⟨hv, hn, _⟩ | ⟨g, cap, cur, hv, hb, hc, hcm, hs, htk⟩
  · have c27 := h.c27
    rw [hv] at c27
    have HE : Hid (D.puts = []) := List.eq_nil_of_length_eq_zero hn
    clear h hf hv hn
    go_enter Try.func41, Try.ntmps41
    go_wp2_with (at_builtin; refine wpList_append_own_none rfl (.tmp 3) (.tmp 7) 57 rfl 0 88 i0 6 Try.underlying57 HI.out.1 (.slice (some ⟨w.heap.size, 0, none⟩) 0 0) 0 [] rfl HRE.out rfl ?_)
    go_ret
    rw [HE.out]
    exact ⟨_, rfl, HRE.out, Kept.alloc _ _ _, fun k hk => by simp [Value.ownBlock] at hk; omega⟩
  · have c27 := h.c27
    rw [hv] at c27
    have HNEWS : Hid (∀ j u, (D.puts.flatMap entC)[j]? = some u → (w.alloc (.cells #[] 88)).cell? ((⟨g, 0, none⟩ : Addr).add j) = some u) := by
      intro j u hj
      have e : (⟨g, 0, none⟩ : Addr).add j = ⟨g, j, none⟩ := by cases j <;> simp [Addr.add]
      rw [e]
      exact (World.cell?_alloc_past _ g j hb.lt).trans (h.puts.cell (by rw [hv]; rfl) j u hj)
    have HLC : Hid ((D.puts.flatMap entC).length = D.puts.length * 6) := flat_length entC 6 (fun _ => rfl) D.puts
    have b1 : 0 + D.puts.length ≤ maxLen := by unfold maxLen; omega
    have b2 : (0 + D.puts.length) * 56 ≤ 140737488355328 := by omega
    clear h hf hv hb hs htk
    go_enter Try.func41, Try.ntmps41
    go_wp2_with (at_builtin; go_must (refine wpList_append_mine _ rfl (.tmp 3) (.tmp 7) 57 rfl 88 i0 (.agg #[.string ByteArray.empty, .int .i32 0, .int .u64 0, .int .u64 0, .bool false, .int .u64 0]) 6 56 Try.underlying57 HI.out.1 HI.out.2.1 HI.out.2.2.1 HI.out.2.2.2 rfl (by decide) (.slice (some ⟨w.heap.size, 0, none⟩) 0 0) 0 [] rfl HRE.out ⟨g, 0, none⟩ D.puts.length cap (D.puts.flatMap entC) rfl HLC.out HNEWS.out (oneCell_ent D.puts) b1 b2 ?_); intro v' w1 hA; have HA : Hid (DListPost w D.puts (.returned v') w1) := list_done rfl hA; clear hA)
    go_ret
    exact HA.out

set_option maxHeartbeats 1000000 in
theorem dputs (w : World) (b : Nat) (D : DevS) (h : Dev w b D) (hf : D.Fit) :
    Calls Try.prog 14 #[.pointer (some ⟨b, 0, none⟩)] w fun e w' => DListPost w D.puts e w' := by
  have H0 : Hid (Calls Try.prog 41 #[.pointer (some ⟨b, 27, none⟩)] w fun e w' => ∃ ao cap, e = .returned (.slice ao D.puts.length cap) ∧ Hid (DListPost w D.puts (.returned (.slice ao D.puts.length cap)) w')) := (dlist w b D h hf).mono fun e w' hp => by
    obtain ⟨v, e1, r1, r2, r3⟩ := hp
    obtain ⟨ao, cap, hv, _⟩ := r1.form
    subst e1 hv
    exact ⟨ao, cap, rfl, _, rfl, r1, r2, r3⟩
  clear h hf
  go_enter Try.func14, Try.ntmps14
  go_wp2_with (go_at_call 41; refine H0.out.mono ?_; rintro e w1 ⟨ao, cap, rfl, hr⟩)
  go_ret
  exact hr.out

end Go.Proofs.Ytpfcacedpkaihab

/- What almanac.Eval answers at every text in every state. -/
namespace Go.Proofs.Ytpfcacedpkaihab
open Go.RowKit

theorem qEval_any (s : ByteArray) (x : Nat → Int) (w : World) (hs : s.size ≤ maxLen) :
    Calls Try.prog 43 #[.string s, .agg #[.int .i32 (x 0), .int .i32 (x 1), .int .i32 (x 2), .int .i32 (x 3), .int .i32 (x 4), .int .i32 (x 5), .int .i32 (x 6), .int .i32 (x 7)]] w fun e w' =>
      e = .returned (.tuple #[.int .i32 (evalL x (Q.readL s.data.toList).2), .int .i64 (Q.readL s.data.toList).1]) ∧ Below w.heap.size w w' := by
  rcases Q.readL_cases s.data.toList with h | h | ⟨us, h, r⟩
  · rw [h]; exact qEval_bad s x w 3 hs h
  · rw [h]; exact qEval_bad s x w 4 hs h
  · rw [h]; exact qEval_good s x w us h

set_option maxHeartbeats 400000 in
theorem aEval_any (s : ByteArray) (x : Nat → Int) (w : World) (hs : s.size ≤ maxLen) :
    Calls Try.prog 16 #[.string s, .agg #[.int .i32 (x 0), .int .i32 (x 1), .int .i32 (x 2), .int .i32 (x 3), .int .i32 (x 4), .int .i32 (x 5), .int .i32 (x 6), .int .i32 (x 7)]] w fun e w' =>
      e = .returned (.tuple #[.int .i32 (evalL x (Q.readL s.data.toList).2), .int .i64 (Q.readL s.data.toList).1]) ∧ Below w.heap.size w w' := by
  go_enter Try.func16, Try.ntmps16
  go_wp2_with (go_at_call 43; refine (qEval_any s x _ hs).mono ?_; rintro e w1 ⟨rfl, hb⟩)
  go_ret2
  exact ⟨rfl, (((Below.refl _ _).alloc (Nat.le_refl _) _).trans (hb.mono (by simp)))⟩

end Go.Proofs.Ytpfcacedpkaihab

/- The law Again (package almanackeep): what is shut is shut by a commit that touches it; asking, and what a node answers then (mathematics alone). -/
namespace Go.Proofs.Ytpfcacedpkaihab
open Go.RowKit

/-- what is shut is so by a commit that touches its query. -/
def Shut (l : List PastE) (e : EntE) : Prop := e.op = false → touchB (zeroP :: l) (keysQ e.q) e.till = true
theorem touch_snoc {l : List PastE} {K : Int} {t : Nat} (h : touchB (zeroP :: l) K t = true) (x : PastE) : touchB (zeroP :: (l ++ [x])) K t = true := by
  unfold touchB at h ⊢
  cases hh : (zeroP :: l)[t]? with
  | none => rw [hh] at h; cases h
  | some p =>
    have e : (zeroP :: (l ++ [x]))[t]? = some p := by
      rw [← List.cons_append, List.getElem?_append_left (List.getElem?_eq_some_iff.mp hh).1]
      exact hh
    rw [hh] at h
    rw [e]
    exact h
theorem Shut.snoc {l : List PastE} {e : EntE} (h : Shut l e) (x : PastE) : Shut (l ++ [x]) e := fun ho => touch_snoc (h ho) x
theorem Wrote.touch {l : List PastE} {t : Nat} {K : Int} {q : ByteArray} (h : Wrote l (t, K)) (ht : touchK K q = true) : touchB (zeroP :: l) (keysQ q) t = true := by
  obtain ⟨i, p, e1, e2, e3⟩ := h
  have e1' : t = i + 1 := e1
  subst e1'
  rw [touchB_some (p := p) _ (by rw [List.getElem?_cons_succ]; exact e2)]
  have e3' : p.keys = K := e3
  rw [e3']
  exact ht
theorem Shut.hear {l : List PastE} {x : HeldE} {hz : Nat} {K : Int} (h : Shut l x.e) (hw : Wrote l (hz + 1, K)) : Shut l (hearE (hz + 1) K x).e := by
  unfold hearE
  split
  · rename_i hc
    exact fun _ => hw.touch hc.2.2
  · exact h
theorem Shut.merged {l : List PastE} {x p : EntE} (hx : Shut l x) (hp : Shut l p) (hq : x.q = p.q) : Shut l (mergedE x p) := by
  intro ho
  have ho' : (x.op && p.op) = false := ho
  show touchB _ (keysQ x.q) (if x.op && !p.op then p.till else x.till) = true
  cases ox : x.op with
  | false => exact hx ox
  | true =>
    rw [ox] at ho'
    have op : p.op = false := by simpa using ho'
    rw [op, hq]
    exact hp op
theorem caughtGo_shut {l : List PastE} {hs : List (Nat × Int)} {K : Int} (hh : ∀ c ∈ hs, Wrote l c) : ∀ (m s : Nat) (e y : EntE), K = keysQ e.q → NodeP.caughtGo hs K m s e = some y → Shut l e → Shut l y
  | 0, s, e, y, _, h, h1 => by
    simp only [NodeP.caughtGo, Option.some.injEq] at h
    subst h
    exact h1
  | m + 1, s, e, y, hK, h, h1 => by
    simp only [NodeP.caughtGo] at h
    cases hw : wroteL hs s with
    | none => rw [hw] at h; cases h
    | some k =>
      rw [hw] at h
      dsimp only at h
      split at h
      · rename_i hc
        refine caughtGo_shut hh m (s + 1) { e with op := false, till := s } y hK h fun _ => ?_
        obtain ⟨c, hcm, e1, e2⟩ := wroteL_mem hw
        have w := hh c hcm
        have w' : Wrote l (s, k) := by rw [← e1, ← e2]; exact w
        refine w'.touch ?_
        unfold touchK
        rw [← hK]
        exact hc.2
      · exact caughtGo_shut hh m (s + 1) e y hK h h1

def NodeP.Sh (p : NodeP) (l : List PastE) : Prop := ∀ x ∈ p.ents, Shut l x.e
theorem NodeP.Sh.hearOne {p : NodeP} {l : List PastE} (h : p.Sh l) (K : Int) (hw : Wrote l (p.horizon + 1, K)) : (p.hearOne K).Sh l := by
  intro x hx
  simp only [NodeP.hearOne, List.mem_map] at hx
  obtain ⟨y, hy, rfl⟩ := hx
  exact (h y hy).hear hw
theorem NodeP.Sh.go {l : List PastE} {rm : Int} (hl : PastOk l) : ∀ (m : Nat) (p : NodeP), p.Sem l rm → p.Sh l → (NodeP.hearGo m p).Sh l
  | 0, p, _, h => h
  | m + 1, p, hs, h => by
    unfold NodeP.hearGo
    split
    · rename_i hw
      obtain ⟨c, hc, e1, e2⟩ := keysAt_mem p.waits 0 hw
      have e3 : keysAt p.waits (p.horizon + 1) = c.2 := e2
      have hW : Wrote l (p.dropNext.horizon + 1, keysAt p.waits (p.horizon + 1)) := by
        rw [e3]
        show Wrote l (p.horizon + 1, c.2)
        rw [← e1]
        exact hs.ws c hc
      exact NodeP.Sh.go hl m _ (hs.dropNext.hearOne hl _ hW) (NodeP.Sh.hearOne (p := p.dropNext) h _ hW)
    · exact h
theorem NodeP.Sh.hear {p : NodeP} {l : List PastE} {rm : Int} (hl : PastOk l) (hs : p.Sem l rm) (h : p.Sh l) (K : Int) (hw : Wrote l (p.horizon + 1, K)) : (p.hear K).Sh l := NodeP.Sh.go hl 4 _ (hs.hearOne hl K hw) (h.hearOne K hw)
theorem NodeP.Sh.arrive {p : NodeP} {l : List PastE} {rm : Int} (hl : PastOk l) (hs : p.Sem l rm) (h : p.Sh l) (t : Nat) (K : Int) (hw : Wrote l (t, K)) : (p.arrive t K).Sh l := by
  unfold NodeP.arrive
  split
  · exact h
  · split
    · rename_i e
      exact h.hear hl hs K (by rw [← e]; exact hw)
    · split <;> exact h
theorem NodeP.Sh.store {p : NodeP} {l : List PastE} {rm : Int} {e : EntE} (hs : p.Sem l rm) (h : p.Sh l) (he : Shut l e) : (p.store e).1.Sh l := by
  unfold NodeP.store
  split
  · exact h
  · cases hc : p.caught e with
    | none => exact h
    | some y =>
      dsimp only
      have hy : Shut l y := by
        unfold NodeP.caught at hc
        split at hc
        · injection hc with hc; subst hc; exact he
        · cases hg : NodeP.caughtGo p.hists (keysQ e.q) (p.horizon - e.kn) (e.kn + 1) e with
          | none => rw [hg] at hc; cases hc
          | some z =>
            rw [hg] at hc
            simp only [Option.map_some, Option.some.injEq] at hc
            have hz := caughtGo_shut hs.hs _ _ e z rfl hg he
            subst hc
            split
            · exact hz
            · exact hz
      cases hsm : p.sameI y with
      | none =>
        show (p.lay y).Sh l
        unfold NodeP.lay
        split
        · intro x hx
          rcases mem_snoc hx with hx | rfl
          · exact h x (List.mem_of_mem_eraseIdx hx)
          · exact hy
        · intro x hx
          rcases mem_snoc hx with hx | rfl
          · exact h x hx
          · exact hy
      | some j =>
        dsimp only
        cases hx : p.ents[j]? with
        | none => exact h
        | some x =>
          dsimp only
          have hsame : sameE x.e y := by
            unfold NodeP.sameI at hsm
            rw [List.findIdx?_eq_some_iff_getElem] at hsm
            obtain ⟨hj, h1, _⟩ := hsm
            rw [List.getElem?_eq_getElem hj] at hx
            injection hx with hx
            subst hx
            simpa using h1
          have hm : Shut l (mergedE x.e y) := (h x (List.mem_of_getElem? hx)).merged hy hsame.1
          intro z hz
          rcases List.mem_or_eq_of_mem_set hz with hz | rfl
          · rcases List.mem_or_eq_of_mem_set hz with hz | rfl
            · exact h z hz
            · exact hm
          · exact hm
theorem NodeP.Sh.use {p : NodeP} {l : List PastE} {j : Nat} {x : HeldE} (h : p.Sh l) (hx : p.ents[j]? = some x) : (p.use j x).Sh l := by
  intro y hy
  rcases List.mem_or_eq_of_mem_set hy with hy | rfl
  · exact h y hy
  · exact h x (List.mem_of_getElem? hx)
theorem tillN_touch (l : List PastE) (K : Int) : ∀ (n s : Nat), tillN l K n = some s → touchB l K s = true
  | 0, s, h => by cases h
  | n + 1, s, h => by
    simp only [tillN] at h
    split at h
    · rename_i hc
      injection h with h
      subst h
      exact hc
    · exact tillN_touch l K n s h
theorem answer_shut {P : DP} {q : ByteArray} {ts : List (Nat × Nat)} {t : Nat} (hq : Q.readL q.data.toList = (0, ts)) : Shut P.past (P.answer q ts t) := by
  intro ho
  have e4 : keysQ q = keysL ts := by unfold keysQ; rw [hq]
  show touchB (zeroP :: P.past) (keysQ q) ((tillN (zeroP :: P.past) (keysL ts) ((zeroP :: P.past).length - 1 - t)).getD 0) = true
  have ho' : (tillN (zeroP :: P.past) (keysL ts) ((zeroP :: P.past).length - 1 - t)).isNone = false := ho
  rw [e4]
  cases h : tillN (zeroP :: P.past) (keysL ts) ((zeroP :: P.past).length - 1 - t) with
  | none => rw [h] at ho'; cases ho'
  | some s => exact tillN_touch _ _ _ s h

/-- what the law Again leans on. -/
structure SAll (n : Nat) (Q : KQ) (P : DP) : Prop where
  semi : SemI Q P
  sh : ∀ s ∈ P.sites, s.Sh P.past
  psh : ∀ e ∈ P.puts, Shut P.past e
  clk : ∀ i (h : i < P.past.length), P.past[i].tick ≤ P.clock
  cn : P.clock ≤ n
  bn : P.begun ≤ n

theorem DP.sh_put {P : DP} {k : Int} {s : NodeP} (h : ∀ s ∈ P.sites, s.Sh P.past) (hs : s.Sh P.past) : ∀ x ∈ (P.put k s).sites, x.Sh P.past := by
  intro x hx
  rcases List.mem_or_eq_of_mem_set hx with hx | rfl
  · exact h x hx
  · exact hs
theorem DP.sh_site {P : DP} {k : Int} {s : NodeP} (h : ∀ s ∈ P.sites, s.Sh P.past) (hs : P.site? k = some s) : s.Sh P.past := by
  unfold DP.site? at hs
  split at hs
  · cases hs
  · exact h s (List.mem_of_getElem? hs)
theorem DP.sh_ask {P : DP} {rm : Int} (hm : P.Sem rm) (h : ∀ s ∈ P.sites, s.Sh P.past) (k : Int) : ∀ x ∈ (P.ask k).2.2.sites, x.Sh P.past := by
  unfold DP.ask
  cases hs : P.site? k with
  | none => exact h
  | some s =>
    refine DP.sh_put h ?_
    show (P.askS s).Sh P.past
    unfold DP.askS
    split
    · intro x hx; cases hx
    · split
      · rename_i hl
        refine (DP.sh_site h hs).hear hm.past (hm.site hs) _ ⟨s.horizon, P.past[s.horizon], rfl, List.getElem?_eq_getElem hl, ?_⟩
        show _ = P.keysOf s.horizon
        unfold DP.keysOf
        rw [List.getElem?_eq_getElem hl]; rfl
      · exact DP.sh_site h hs
theorem DP.sh_store {P : DP} {rm : Int} (hm : P.Sem rm) (h : ∀ s ∈ P.sites, s.Sh P.past) (hp : ∀ e ∈ P.puts, Shut P.past e) (i : Int) : (∀ x ∈ (P.store i).2.2.sites, x.Sh P.past) ∧ ∀ e ∈ (P.store i).2.2.puts, Shut P.past e := by
  unfold DP.store
  split
  · exact ⟨h, hp⟩
  · cases he : P.puts[i.toNat]? with
    | none => exact ⟨h, hp⟩
    | some e =>
      dsimp only
      cases hs : P.sites[P.nodeN e.q]? with
      | none => exact ⟨h, hp⟩
      | some s =>
        dsimp only
        refine ⟨fun x hx => ?_, fun y hy => hp y (List.mem_of_mem_eraseIdx hy)⟩
        rcases List.mem_or_eq_of_mem_set hx with hx | rfl
        · exact h x hx
        · exact (h s (List.mem_of_getElem? hs)).store (hm.sites s (List.mem_of_getElem? hs)) (hp e (List.mem_of_getElem? he))
theorem sh_of_ents {p p' : NodeP} {l : List PastE} (h : p.Sh l) (he : ∀ x ∈ p'.ents, x ∈ p.ents) : p'.Sh l := fun x hx => h x (he x hx)

theorem SAll.stays {n : Nat} {Q Q' : KQ} {P P' : DP} (hk : KI Q P n) (h : SAll n Q P) (hs : KStep Q P Q' P') : SAll (n + 1) Q' P' := by
  have hsem := SemI.stays Q Q' P P' n hk h.semi hs
  have hc := h.cn
  have hb := h.bn
  have nodes : ∀ P' : DP, P.NodesOnly P' → (∀ s ∈ P'.sites, s.Sh P.past) → (∀ e ∈ P'.puts, Shut P.past e) → SemI Q P' → SAll (n + 1) Q P' := by
    intro P' e h1 h2 h3
    obtain ⟨c, p, b, s, q, t⟩ := P
    obtain ⟨c', p', b', s', q', t'⟩ := P'
    obtain ⟨e1, e2, e3, e4⟩ := e
    dsimp only at e1 e2 e3 e4
    subst e1; subst e2; subst e3; subst e4
    exact ⟨h3, h1, h2, h.clk, by show c' ≤ _; have : c' ≤ (n : Int) := hc; omega, Nat.le_succ_of_le hb⟩
  cases hs with
  | same => exact ⟨hsem, h.sh, h.psh, h.clk, by omega, by omega⟩
  | commit ws h1 h2 =>
    refine ⟨hsem, fun x hx => ?_, fun y hy => (h.psh y hy).snoc _, fun i hi => ?_, by show P.clock ≤ _; omega, by show P.begun ≤ _; omega⟩
    · obtain ⟨s, hs, rfl⟩ := List.mem_map.mp hx
      intro y hy
      have hy' : y ∈ s.ents := by
        unfold NodeP.tell NodeP.send at hy
        split at hy
        · split at hy <;> (first | exact hy | (exact absurd hy (by intro hh; cases hh)))
        · split at hy <;> exact hy
      exact (h.sh s hs y hy').snoc _
    · have hq : (P.nextP ws).tick = P.clock := writesP_tick _ ws
      show (P.past ++ [_])[i].tick ≤ P.clock
      rcases get_snoc hi with ⟨hi', ei⟩ | ⟨_, ei⟩
      · rw [ei]; exact h.clk i hi'
      · rw [ei, hq]; exact Int.le_refl _
  | tick hcl => exact ⟨hsem, h.sh, h.psh, fun i hi => by have := h.clk i hi; show P.past[i].tick ≤ P.clock + 1; omega, by show P.clock + 1 ≤ _; omega, by show P.begun ≤ _; omega⟩
  | start limit lo j h1 h2 h3 h4 h5 h6 => exact ⟨hsem, h.sh, h.psh, h.clk, by show P.clock ≤ _; omega, by show P.begun + 1 ≤ _; omega⟩
  | hit r j i q ts s x rd h1 h2 h3 h4 h5 h6 h7 h8 h9 =>
    refine ⟨hsem, fun y hy => ?_, h.psh, h.clk, by show P.clock ≤ _; omega, by show P.begun ≤ _; omega⟩
    rcases List.mem_or_eq_of_mem_set hy with hy | rfl
    · exact h.sh y hy
    · exact (h.sh s (List.mem_of_getElem? h7)).use h9
  | miss r j q ts s rd h1 h2 h3 h4 h5 h6 h7 h8 =>
    refine ⟨hsem, h.sh, fun y hy => ?_, h.clk, by show P.clock ≤ _; omega, by show P.begun ≤ _; omega⟩
    have hy' : y ∈ (if P.puts.length < 10 then P.puts ++ [P.answer q ts (P.seats j).hi] else P.puts) := hy
    split at hy'
    · rcases mem_snoc hy' with hy' | rfl
      · exact h.psh y hy'
      · exact answer_shut h6
    · exact h.psh y hy'
  | stop r j rd h1 h2 h3 h4 h5 => exact ⟨hsem, h.sh, h.psh, h.clk, by show P.clock ≤ _; omega, by show P.begun ≤ _; omega⟩
  | store i =>
    have hh := DP.sh_store h.semi.sem h.sh h.psh i
    exact nodes _ (nodes_store P i) hh.1 hh.2 hsem
  | drop i =>
    refine nodes _ (nodes_drop P i) ?_ ?_ hsem
    · unfold DP.drop; split <;> exact h.sh
    · unfold DP.drop; split
      · exact h.psh
      · exact fun e he => h.psh e (List.mem_of_mem_eraseIdx he)
  | evict k i =>
    refine nodes _ (nodes_evict P k i) ?_ ?_ hsem
    · unfold DP.evict
      cases hs : P.site? k with
      | none => exact h.sh
      | some s =>
        dsimp only
        split
        · exact h.sh
        · exact DP.sh_put h.sh (sh_of_ents (DP.sh_site h.sh hs) fun x hx => List.mem_of_mem_eraseIdx hx)
    · unfold DP.evict; split
      · exact h.psh
      · split <;> exact h.psh
  | deliver k i =>
    refine nodes _ (nodes_deliver P k i) ?_ ?_ hsem
    · unfold DP.deliver
      cases hs : P.site? k with
      | none => exact h.sh
      | some s =>
        dsimp only
        split
        · exact h.sh
        · cases hc : s.flight[i.toNat]? with
          | none => exact h.sh
          | some c => exact DP.sh_put h.sh (NodeP.Sh.arrive (p := s.take i.toNat) h.semi.sem.past ((h.semi.sem.site hs).take _) (sh_of_ents (DP.sh_site h.sh hs) fun x hx => hx) _ _ ((h.semi.sem.site hs).fs c (List.mem_of_getElem? hc)))
    · unfold DP.deliver; split
      · exact h.psh
      · split
        · exact h.psh
        · split <;> exact h.psh
  | lose k i =>
    refine nodes _ (nodes_lose P k i) ?_ ?_ hsem
    · unfold DP.lose
      cases hs : P.site? k with
      | none => exact h.sh
      | some s =>
        dsimp only
        split
        · exact h.sh
        · exact DP.sh_put h.sh (sh_of_ents (DP.sh_site h.sh hs) fun x hx => hx)
    · unfold DP.lose; split
      · exact h.psh
      · split <;> exact h.psh
  | copy k i =>
    refine nodes _ (nodes_copy P k i) ?_ ?_ hsem
    · unfold DP.copy
      cases hs : P.site? k with
      | none => exact h.sh
      | some s =>
        dsimp only
        split
        · exact h.sh
        · cases hc : s.flight[i.toNat]? with
          | none => exact h.sh
          | some c =>
            dsimp only
            split
            · exact h.sh
            · exact DP.sh_put h.sh (sh_of_ents (DP.sh_site h.sh hs) fun x hx => hx)
    · unfold DP.copy; split
      · exact h.psh
      · split
        · exact h.psh
        · split
          · exact h.psh
          · split <;> exact h.psh
  | ask k =>
    refine nodes _ (nodes_ask P k) (DP.sh_ask h.semi.sem h.sh k) ?_ hsem
    unfold DP.ask; split <;> exact h.psh
  | restart k =>
    refine nodes _ (nodes_restart P k) ?_ ?_ hsem
    · unfold DP.restart
      cases hs : P.site? k with
      | none => exact h.sh
      | some s => exact DP.sh_put h.sh (fun x hx => by cases hx)
    · unfold DP.restart; split <;> exact h.psh

/-! ### asking -/
theorem hearGo_mono : ∀ (m : Nat) (p : NodeP), p.horizon ≤ (NodeP.hearGo m p).horizon ∧ (NodeP.hearGo m p).up = p.up
  | 0, p => ⟨Nat.le_refl _, rfl⟩
  | m + 1, p => by
    unfold NodeP.hearGo
    split
    · have := hearGo_mono m (p.dropNext.hearOne (keysAt p.waits (p.horizon + 1)))
      refine ⟨Nat.le_trans ?_ this.1, this.2⟩
      show p.horizon ≤ p.horizon + 1
      omega
    · exact ⟨Nat.le_refl _, rfl⟩
theorem askS_up (P : DP) (s : NodeP) : (P.askS s).up = true := by
  unfold DP.askS
  split
  · rfl
  · rename_i hu
    have hu' : s.up = true := by cases h : s.up with
      | true => rfl
      | false => exact absurd h hu
    split
    · have := (hearGo_mono 4 (s.hearOne (P.keysOf s.horizon))).2
      exact this.trans hu'
    · exact hu'
theorem askS_hz (P : DP) (s : NodeP) (hz : s.horizon ≤ P.past.length) : (P.askS s).horizon = P.past.length ∨ (s.up = true ∧ s.horizon < (P.askS s).horizon) := by
  unfold DP.askS
  split
  · exact .inl rfl
  · rename_i hu
    have hu' : s.up = true := by cases h : s.up with
      | true => rfl
      | false => exact absurd h hu
    split
    · right
      have := (hearGo_mono 4 (s.hearOne (P.keysOf s.horizon))).1
      exact ⟨hu', this⟩
    · left; omega

/-! ### what a node answers -/
theorem ans_nonneg (s : NodeP) (q : ByteArray) (lo hi : Nat) : ∀ (n i : Nat) (x : HeldE), i < n → s.ents[i]? = some x → meetsE s.horizon q lo hi x.e → 0 ≤ s.ans q lo hi n
  | 0, i, x, h, _, _ => by omega
  | n + 1, i, x, h, hx, hm => by
    cases hn : s.ents[n]? with
    | none =>
      have e : s.ans q lo hi (n + 1) = s.ans q lo hi n := by
        show ansN true s.horizon q lo hi (s.ents.map (·.e)) (n + 1) = _
        rw [ansN, List.getElem?_map, hn]; rfl
      rw [e]
      by_cases ei : i = n
      · subst ei; rw [hn] at hx; cases hx
      · exact ans_nonneg s q lo hi n i x (by omega) hx hm
    | some y =>
      rw [ans_next s q lo hi n y hn]
      split
      · omega
      · rename_i hc
        by_cases ei : i = n
        · subst ei
          rw [hn] at hx
          injection hx with hx
          subst hx
          by_cases h0 : s.ans q lo hi i < 0
          · exact absurd ⟨hm, .inl h0⟩ hc
          · omega
        · exact ans_nonneg s q lo hi n i x (by omega) hx hm
/-- a node that has heard all, and takes what the store answers at the newest stamp, answers it. -/
theorem store_meets {P : DP} {s : NodeP} {q : ByteArray} {ts : List (Nat × Nat)} {n : Nat} (hg : s.Good P.past.length n) (hsh : s.Sh P.past) (hup : s.up = true) (hz : s.horizon = P.past.length) (hq : Q.readL q.data.toList = (0, ts)) :
    (s.store (P.answer q ts P.past.length)).2 = true ∧ ∃ (i : Nat) (x : HeldE), (s.store (P.answer q ts P.past.length)).1.ents[i]? = some x ∧ meetsE (s.store (P.answer q ts P.past.length)).1.horizon q P.past.length P.past.length x.e := by
  have hlen : (zeroP :: P.past).length - 1 = P.past.length := by simp
  have htn : tillN (zeroP :: P.past) (keysL ts) ((zeroP :: P.past).length - 1 - P.past.length) = none := by
    have e : (zeroP :: P.past).length - 1 - P.past.length = 0 := by omega
    rw [e]; rfl
  have hop : (P.answer q ts P.past.length).op = true := by show (tillN _ _ _).isNone = true; rw [htn]; rfl
  have hkn : (P.answer q ts P.past.length).kn = P.past.length := hlen
  have hfr := fromN_le (zeroP :: P.past) (keysL ts) P.past.length
  obtain ⟨e, he⟩ : ∃ e, e = P.answer q ts P.past.length := ⟨_, rfl⟩
  have hfr' : e.fr ≤ P.past.length := by rw [he]; exact hfr
  have heq : e.q = q := by rw [he]; rfl
  have hno : ∀ t, e.fr < t → t ≤ P.past.length → touchB (zeroP :: P.past) (keysQ q) t = false := by
    intro t h1 h2
    have e4 : keysQ q = keysL ts := by unfold keysQ; rw [hq]
    rw [e4]
    rw [he] at h1
    exact fromN_no _ _ _ t h1 h2
  rw [← he] at hop hkn ⊢
  have hcg : s.caught e = some e := by unfold NodeP.caught; rw [if_pos (.inr (by rw [hkn, hz]; exact Nat.le_refl _))]
  unfold NodeP.store
  rw [if_neg (by rw [hup]; simp), hcg]
  dsimp only
  cases hsm : s.sameI e with
  | none =>
    refine ⟨rfl, ?_⟩
    have key : ∀ p : NodeP, p.horizon = s.horizon → ∃ (i : Nat) (x : HeldE), (p.lay0 e).ents[i]? = some x ∧ meetsE (p.lay0 e).horizon q P.past.length P.past.length x.e := by
      intro p hp
      refine ⟨p.ents.length, ⟨e, p.uses + 1⟩, by show (p.ents ++ [_])[p.ents.length]? = _; simp, heq, ?_⟩
      show max P.past.length e.fr ≤ min P.past.length (lastE e p.horizon)
      rw [lastE_op hop, hkn]
      omega
    show ∃ (i : Nat) (x : HeldE), (s.lay e).ents[i]? = some x ∧ meetsE (s.lay e).horizon q P.past.length P.past.length x.e
    unfold NodeP.lay
    split
    · exact key (s.remove _) rfl
    · exact key s rfl
  | some j =>
    dsimp only
    have hj : ∃ hj : j < s.ents.length, sameE s.ents[j].e e := by
      unfold NodeP.sameI at hsm
      rw [List.findIdx?_eq_some_iff_getElem] at hsm
      obtain ⟨hj, h1, _⟩ := hsm
      exact ⟨hj, by simpa using h1⟩
    obtain ⟨hj, hsame⟩ := hj
    rw [List.getElem?_eq_getElem hj]
    dsimp only
    refine ⟨rfl, j, ⟨mergedE s.ents[j].e e, s.uses + 1⟩, ?_, hsame.1.trans heq, ?_⟩
    · show ((s.ents.set j _).set j _)[j]? = _
      rw [List.getElem?_set_self (by rw [List.length_set]; exact hj)]
      rfl
    · have hxo : s.ents[j].e.op = true := by
        cases ho : s.ents[j].e.op with
        | true => rfl
        | false =>
          exfalso
          have ok := hg.es s.ents[j] (List.getElem_mem hj)
          have h1 := ok.cl ho
          have h2 := ok.till
          have h3 := hsh s.ents[j] (List.getElem_mem hj) ho
          rw [hsame.1, heq] at h3
          have h4 := hno s.ents[j].e.till (by rw [← hsame.2]; exact h1) h2
          rw [h4] at h3
          cases h3
      have hmo : (mergedE s.ents[j].e e).op = true := by show (s.ents[j].e.op && e.op) = true; rw [hxo, hop]; rfl
      have hmk : (mergedE s.ents[j].e e).kn = max s.ents[j].e.kn e.kn := rfl
      have hmf : (mergedE s.ents[j].e e).fr = s.ents[j].e.fr := rfl
      have hsf := hsame.2
      rw [lastE_op hmo, hmk, hmf, hkn]
      omega

end Go.Proofs.Ytpfcacedpkaihab
