import Derived.Test.YtpfcacedpkaihaaGreatC39
import Derived.Test.YtpfcacedpkaihaaGreatC50
namespace Go.Proofs.YtpfcacedpkaihaaGreat
open Go.RowKit
set_option maxRecDepth 100000
set_option maxHeartbeats 16000000
structure Shelf where
 te : TypeId
 tl : TypeId
 tn : TypeId
 sz : Nat
 mark : Nat → Array Value
structure Shelf.Ok (S : Shelf) : Prop where
 ne : S.tn ≠ S.te
 nl : S.tn ≠ S.tl
 np : S.tn ≠ 34
 ep : S.te ≠ 34
 lp : S.tl ≠ 34
def MkG (S : Shelf) (i : Nat) (W : World) (g j : Nat) : Prop := ∃ c, Blk W g S.te c ∧ ∀ f, f < S.sz → c[j * S.sz + f]? = (S.mark i)[f]?
def noteB (e : NoteE) (b : Nat) : Prop := ∃ k, k < 4 ∧ 0 < e.m + k ∧ e.ad k = some ⟨b, 0, none⟩
structure NoteG (S : Shelf) (w : World) (i : Nat) (e : NoteE) : Prop where
 blk : Blk w e.N S.tl (fourC e.m e.ad e.cp)
 mark : ∀ k, k < 4 → ∀ t, t < e.m + k → ∃ g, e.ad k = some ⟨g, 0, none⟩ ∧ MkG S i w g t
 small : e.m ≤ 1000
structure BookG (S : Shelf) (w : World) (bv : Value) (notes : List NoteE) : Prop where
 row : Row w S.tn 1 bv notes.length (notes.map noteV)
 each : ∀ i (h : i < notes.length), NoteG S w i notes[i]
 apart : ∀ i j (hi : i < notes.length) (hj : j < notes.length), i ≠ j → ∀ b, noteB notes[i] b → ¬ noteB notes[j] b
theorem MkG.same {S : Shelf} {i : Nat} {W W' : World} {g j : Nat} (h : MkG S i W g j) (hs : W'.heap[g]? = W.heap[g]?) : MkG S i W' g j := by
 obtain ⟨c, hb, hc⟩ := h
 exact ⟨c, hb.same hs, hc⟩
theorem NoteG.same {S : Shelf} {w w' : World} {i : Nat} {e : NoteE} (h : NoteG S w i e) (hs : ∀ b, (b = e.N ∨ noteB e b) → w'.heap[b]? = w.heap[b]?) : NoteG S w' i e := by
 refine ⟨h.blk.same (hs _ (.inl rfl)), fun k hk t ht => ?_, h.small⟩
 obtain ⟨g, e1, e2⟩ := h.mark k hk t ht
 exact ⟨g, e1, e2.same (hs g (.inr ⟨k, hk, by omega, e1⟩))⟩
theorem NoteG.elem {S : Shelf} {w : World} {i : Nat} {e : NoteE} (h : NoteG S w i e) {b : Nat} (hb : noteB e b) : ∃ c, Blk w b S.te c := by
 obtain ⟨k, hk, h0, e1⟩ := hb
 obtain ⟨g, e2, c, hc, _⟩ := h.mark k hk 0 h0
 rw [e1] at e2
 injection e2 with e2
 injection e2 with e2 _ _
 subst e2
 exact ⟨c, hc⟩
theorem BookG.lt {S : Shelf} {w : World} {bv : Value} {notes : List NoteE} (h : BookG S w bv notes) : ∀ b, bookX bv notes b → b < w.heap.size := by
 rintro b (hb | ⟨e, he, hb⟩)
 · exact h.row.lt b hb
 · obtain ⟨i, hi, rfl⟩ := List.getElem_of_mem he
  rcases hb with rfl | hb
  · exact (h.each i hi).blk.lt
  · obtain ⟨c, hc⟩ := (h.each i hi).elem hb
   exact hc.lt
theorem BookG.same {S : Shelf} {w w' : World} {bv : Value} {notes : List NoteE} (h : BookG S w bv notes) (hs : ∀ b, bookX bv notes b → w'.heap[b]? = w.heap[b]?) : BookG S w' bv notes :=
 ⟨h.row.same fun b hb => hs b (.inl hb), fun i hi => (h.each i hi).same fun b hb => hs b (.inr ⟨_, List.getElem_mem hi, hb⟩), h.apart⟩
theorem BookG.kept {S : Shelf} {w w' : World} {bv : Value} {notes : List NoteE} {F : Nat → Prop} (h : BookG S w bv notes) (k : Kept F w w') (hF : ∀ b, bookX bv notes b → ¬ F b) : BookG S w' bv notes := h.same fun b hb => k.block b (h.lt b hb) (hF b hb)
theorem BookG.nil (S : Shelf) (w : World) : BookG S w nilV [] := ⟨Row.nil _ _ _, fun i hi => by simp at hi, fun i j hi => by simp at hi⟩
theorem BookG.type {S : Shelf} {w : World} {bv : Value} {notes : List NoteE} (h : BookG S w bv notes) {b : Nat} (hb : bookX bv notes b) : ∃ T c, Blk w b T c ∧ (T = S.te ∨ T = S.tl ∨ T = S.tn) := by
 rcases hb with hb | ⟨e, he, hb⟩
 · rcases h.row.shape with ⟨rfl, _, _⟩ | ⟨g, cap, cur, rfl, hb', _⟩
  · simp [Value.ownBlock] at hb
  · simp [Value.ownBlock] at hb
   subst hb
   exact ⟨_, _, hb', .inr (.inr rfl)⟩
 · obtain ⟨i, hi, rfl⟩ := List.getElem_of_mem he
  rcases hb with rfl | hb
  · exact ⟨_, _, (h.each i hi).blk, .inr (.inl rfl)⟩
  · obtain ⟨c, hc⟩ := (h.each i hi).elem hb
   exact ⟨_, c, hc, .inl rfl⟩
def GPost (S : Shelf) (pl : Value → Array Value) (w : World) (pb : Nat) (bv : Value) (bn : Nat) (vals : List Value) (lV : Value) (m : Nat) (v : Value) (w' : World) : Prop :=
 ∃ (N : Nat) (ad : Nat → Option Addr) (cp : Nat → Nat), Blk w' N S.tl (fourC m ad cp) ∧ w.heap.size ≤ N ∧
  (∀ k, k < 4 → ∀ t, t < m + k → ∃ g, ad k = some ⟨g, 0, none⟩ ∧ OwnL lV w.heap.size g ∧ MkG S bn w' g t) ∧
  Row w' S.tn 1 v (bn + 1) (vals ++ [.slice (some ⟨N, 0, none⟩) 4 4]) ∧ Blk w' pb 34 (pl v) ∧
  Kept (fun k => k = pb ∨ bv.ownBlock = some k ∨ lV.ownBlock = some k) w w' ∧ (∀ k, v.ownBlock = some k → bv.ownBlock = some k ∨ w.heap.size ≤ k)
theorem GPost.kept {S : Shelf} {pl : Value → Array Value} {w w' : World} {pb bn m : Nat} {bv lV v : Value} {vals : List Value} (h : GPost S pl w pb bv bn vals lV m v w') : Kept (fun k => k = pb ∨ bv.ownBlock = some k ∨ lV.ownBlock = some k) w w' := by
 obtain ⟨_, _, _, _, _, _, _, _, h, _⟩ := h
 exact h
theorem GPost.blk {S : Shelf} {pl : Value → Array Value} {w w' : World} {pb bn m : Nat} {bv lV v : Value} {vals : List Value} (h : GPost S pl w pb bv bn vals lV m v w') : Blk w' pb 34 (pl v) := by
 obtain ⟨_, _, _, _, _, _, _, h, _⟩ := h
 exact h
theorem BookG.note {S : Shelf} (hS : S.Ok) {pl : Value → Array Value} {B : Nat} {w w' : World} {pb : Nat} {bv lV v : Value} {notes : List NoteE} {m : Nat} {c0 : Array Value} (hok : BookG S w bv notes) (hlow : ∀ k, bookX bv notes k → k < B) (hB : B ≤ w.heap.size) (hl : ∀ k, lV.ownBlock = some k → B ≤ k) (hpb : Blk w pb 34 c0) (hm : m ≤ 1000) (hp : GPost S pl w pb bv notes.length (notes.map noteV) lV m v w') :
  ∃ notes', BookG S w' v notes' ∧ notes'.length = notes.length + 1 ∧ (∀ k, bookX v notes' k → bookX bv notes k ∨ B ≤ k) := by
 obtain ⟨N, ad, cp, hN, hs, hmk, hr, hb, hk, hv⟩ := hp
 have hnew : ∀ b, noteB ⟨N, m, ad, cp⟩ b → B ≤ b := by
  rintro b ⟨q, hq, h0, e1⟩
  obtain ⟨g, e2, o2, _⟩ := hmk q hq 0 h0
  have e1' : ad q = some ⟨b, 0, none⟩ := e1
  rw [e1'] at e2
  injection e2 with e2
  injection e2 with e2 _ _
  subst e2
  rcases o2 with o2 | o2
  · exact hl _ o2
  · omega
 have hX' : ∀ k, bookX v (notes ++ [⟨N, m, ad, cp⟩]) k → bookX bv notes k ∨ B ≤ k := by
  rintro k (h1 | ⟨e, he, h1⟩)
  · exact (hv k h1).imp .inl (fun h => by omega)
  · rw [List.mem_append] at he
   rcases he with he | he
   · exact .inl (.inr ⟨e, he, h1⟩)
   · simp at he
    subst he
    rcases h1 with rfl | h1
    · exact .inr (Nat.le_trans hB hs)
    · exact .inr (hnew k h1)
 have hold : ∀ i (hi : i < notes.length), ∀ b, noteB notes[i] b → b < B := fun i hi b hb => hlow b (.inr ⟨_, List.getElem_mem hi, .inr hb⟩)
 refine ⟨notes ++ [⟨N, m, ad, cp⟩], ⟨by rw [List.length_append, List.map_append]; exact hr, fun i hi => ?_, fun i j hi hj hij b hbi hbj => ?_⟩, by simp, hX'⟩
 · by_cases hlt : i < notes.length
  · rw [List.getElem_append_left hlt]
   refine (hok.each i hlt).same fun b hb' => ?_
   have hXb : bookX bv notes b := .inr ⟨_, List.getElem_mem hlt, hb'⟩
   refine hk.block b (hok.lt b hXb) ?_
   rintro (rfl | h1 | h1)
   · rcases hb' with e | hb'
    · exact hS.lp ((hok.each i hlt).blk.type (by rw [← e]; exact hpb)).1
    · obtain ⟨c, hc⟩ := (hok.each i hlt).elem hb'
     exact hS.ep (hc.type hpb).1
   · rcases hb' with rfl | hb'
    · exact hok.row.ne_block (hok.each i hlt).blk hS.nl h1
    · obtain ⟨c, hc⟩ := (hok.each i hlt).elem hb'
     exact hok.row.ne_block hc hS.ne h1
   · have := hlow b hXb
    have := hl b h1
    omega
  · have hii : i = notes.length := by simp at hi; omega
   subst hii
   rw [List.getElem_append_right (Nat.le_refl _)]
   simp only [Nat.sub_self, List.getElem_cons_zero]
   refine ⟨hN, fun q hq t ht => ?_, hm⟩
   obtain ⟨g, e1, _, m1⟩ := hmk q hq t ht
   exact ⟨g, e1, m1⟩
 · have hln : (notes ++ [(⟨N, m, ad, cp⟩ : NoteE)]).length = notes.length + 1 := by simp
  by_cases h1 : i < notes.length
  · rw [List.getElem_append_left h1] at hbi
   by_cases h2 : j < notes.length
   · rw [List.getElem_append_left h2] at hbj
    exact hok.apart i j h1 h2 hij b hbi hbj
   · have hjj : j = notes.length := by omega
    subst hjj
    rw [List.getElem_append_right (Nat.le_refl _)] at hbj
    simp only [Nat.sub_self, List.getElem_cons_zero] at hbj
    have := hnew b hbj
    have := hold i h1 b hbi
    omega
  · have hii : i = notes.length := by omega
   subst hii
   rw [List.getElem_append_right (Nat.le_refl _)] at hbi
   simp only [Nat.sub_self, List.getElem_cons_zero] at hbi
   have h2 : j < notes.length := by omega
   rw [List.getElem_append_left h2] at hbj
   have := hnew b hbi
   have := hold j h2 b hbj
   omega
structure Shelf.Far (S T : Shelf) : Prop where
 ne : S.tn ≠ T.te
 nl : S.tn ≠ T.tl
 nn : S.tn ≠ T.tn
 ee : S.te ≠ T.te
 el : S.te ≠ T.tl
 en : S.te ≠ T.tn
theorem BookG.other {S T : Shelf} (hT : T.Ok) (hF : S.Far T) {w w' : World} {pb n sz m : Nat} {bv b1 lV : Value} {notes : List NoteE} {xs ys : List Value} {c0 : Array Value} (hr : Row w S.tn 1 bv n xs) (hl : Row w S.te sz lV m ys) (hok : BookG T w b1 notes) (hpb : Blk w pb 34 c0) (hk : Kept (fun k => k = pb ∨ bv.ownBlock = some k ∨ lV.ownBlock = some k) w w') : BookG T w' b1 notes := by
 refine hok.kept hk fun b hb => ?_
 obtain ⟨U, c, hc, hU⟩ := hok.type hb
 rintro (rfl | e | e)
 · have := (hc.type hpb).1
  rcases hU with rfl | rfl | rfl
  · exact hT.ep this
  · exact hT.lp this
  · exact hT.np this
 · rcases hU with rfl | rfl | rfl
  · exact hr.ne_block hc hF.ne e
  · exact hr.ne_block hc hF.nl e
  · exact hr.ne_block hc hF.nn e
 · rcases hU with rfl | rfl | rfl
  · exact hl.ne_block hc hF.ee e
  · exact hl.ne_block hc hF.el e
  · exact hl.ne_block hc hF.en e
theorem Inv.book {B : Nat} {X X' : Nat → Prop} {w0 w w' : World} {pb : Nat} {ps : List PairE} {vps b0 b1 b2 d0 d1 d2 : Value} {commits most : Int} (h : Inv B X w0 w pb ps vps b0 b1 b2 commits most) (hk : Kept (fun k => k = pb ∨ X k) w w') (hx : ∀ k, X k → B ≤ k)
  (hb : Blk w' pb 34 (playC vps d0 d1 d2 commits most)) (hX : ∀ k, X' k → X k ∨ w.heap.size ≤ k) (hl : ∀ k, X' k → k < w'.heap.size) : Inv B X' w0 w' pb ps vps d0 d1 d2 commits most ∧ ∀ k, X' k → B ≤ k := by
 have hBw : B ≤ w.heap.size := Nat.le_trans h.bsz h.below.size
 have hF : ∀ k, (k = pb ∨ X k) → B ≤ k := by
  rintro k (rfl | h1)
  · exact h.pB.1
  · exact hx k h1
 refine ⟨⟨below_kept h.below hk h.bsz hF, hb, h.row.kept hk ?_, fun p hp => (h.each p hp).kept hk ?_, h.sep, fun p hp k hpk => ?_, ⟨h.pB.1, fun hX1 => ?_⟩, fun k hvk => ⟨(h.vB k hvk).1, fun hX1 => ?_⟩, hl, h.bsz⟩, fun k hX1 => ?_⟩
 · rintro k hvk (rfl | h1)
  · exact h.row.ne_block h.blk (by decide) hvk
  · exact (h.vB k hvk).2 h1
 · rintro k hpk (rfl | h1)
  · exact (h.own p hp _ hpk).2.1 rfl
  · exact (h.own p hp k hpk).2.2.2 h1
 · have o := h.own p hp k hpk
  refine ⟨o.1, o.2.1, o.2.2.1, fun hX1 => ?_⟩
  rcases hX k hX1 with h1 | h1
  · exact o.2.2.2 h1
  · have := (h.each p hp).lt k hpk; omega
 · rcases hX pb hX1 with h1 | h1
  · exact h.pB.2 h1
  · have := h.blk.lt; omega
 · rcases hX k hX1 with h1 | h1
  · exact (h.vB k hvk).2 h1
  · have := h.row.lt k hvk; omega
 · rcases hX k hX1 with h1 | h1
  · exact hx k h1
  · omega
def markM (i : Nat) : Array Value := #[.int .u8 ((i % 256 : Nat) : Int), .int .u8 ((i / 256 % 256 : Nat) : Int)]
def shE : Shelf := ⟨55, 51, 49, 6, markE⟩
def shM : Shelf := ⟨62, 60, 58, 2, markM⟩
def shC : Shelf := ⟨5, 100, 114, 1, fun i => #[.int .u8 ((digitN i 0 : Nat) : Int)]⟩
theorem shE_ok : shE.Ok := ⟨by decide, by decide, by decide, by decide, by decide⟩
theorem shM_ok : shM.Ok := ⟨by decide, by decide, by decide, by decide, by decide⟩
theorem shC_ok : shC.Ok := ⟨by decide, by decide, by decide, by decide, by decide⟩
theorem far_EM : shE.Far shM := ⟨by decide, by decide, by decide, by decide, by decide, by decide⟩
theorem far_EC : shE.Far shC := ⟨by decide, by decide, by decide, by decide, by decide, by decide⟩
theorem far_CE : shC.Far shE := ⟨by decide, by decide, by decide, by decide, by decide, by decide⟩
theorem far_CM : shC.Far shM := ⟨by decide, by decide, by decide, by decide, by decide, by decide⟩
theorem gpost_E {w w' : World} {pb : Nat} {vps bv b1 b2 lV : Value} {commits most : Int} {bn : Nat} {vals : List Value} {m : Nat} {e : Ending} (h : EPost w pb vps bv b1 b2 commits most bn vals lV m e w') : ∃ v, GPost shE (fun v => playC vps v b1 b2 commits most) w pb bv bn vals lV m v w' := by
 obtain ⟨_, N, ad, cp, v, h1, h2, h3, h4, h5, h6, h7⟩ := h
 exact ⟨v, N, ad, cp, h1, h2, h3, h4, h5, h6, h7⟩
theorem gpost_puts {w w' : World} {pb : Nat} {vps bv b1 b2 : Value} {commits most : Int} {bn : Nat} {vals : List Value} {m : Nat} (h : PutsPost w pb vps bv b1 b2 commits most bn vals m w') : ∃ v, GPost shE (fun v => playC vps v b1 b2 commits most) w pb bv bn vals nilV m v w' := by
 obtain ⟨N, ad, cp, v, h1, h2, h3, h4, h5, h6, h7⟩ := h
 refine ⟨v, N, ad, cp, h1, h2, fun k hk t ht => ?_, h4, h5, h6.mono (fun k hk => hk.imp id .inl), h7⟩
 obtain ⟨g, e1, e2, e3⟩ := h3 k hk t ht
 exact ⟨g, e1, .inr e2, e3⟩
def LookPost (w : World) (pb : Nat) (vps bv b1 b2 : Value) (commits most : Int) (bn : Nat) (vals : List Value) (cn : Nat) (cvals : List Value) (w' : World) : Prop :=
 ∃ (w4 w5 : World) (v u lE lC : Value) (m n : Nat) (xs ys : List Value), m ≤ 1000 ∧ n ≤ 1000 ∧ Kept (fun _ => False) w w4 ∧ Row w4 shE.te 6 lE m xs ∧ (∀ k, lE.ownBlock = some k → w.heap.size ≤ k) ∧
  GPost shE (fun v => playC vps v b1 b2 commits most) w4 pb bv bn vals lE m v w5 ∧ Row w5 shC.te 1 lC n ys ∧ (∀ k, lC.ownBlock = some k → w.heap.size ≤ k) ∧ GPost shC (fun u => playC vps v b1 u commits most) w5 pb b2 cn cvals lC n u w'
def WholePost (w : World) (b2 : Value) (nC : List NoteE) (e : Ending) (w' : World) : Prop :=
 e = .returned (.bool true) ∧ BookG shC w' b2 nC ∧ Kept (fun k => ∃ x ∈ nC, noteB x k) w w'
structure SEM (w0 : World) (lo : Option Addr) (m lc i zb : Nat) (xs : List Value) (w : World) : Prop where
 kept : Kept (fun k => (Value.slice lo m lc).ownBlock = some k) w0 w
 row : Row w 62 2 (.slice lo m lc) m xs
 z : Blk w zb 62 (markM i)
structure Card (w : World) (e : NoteE) : Prop where
 blk : Blk w e.N 100 (fourC e.m e.ad e.cp)
 room : ∀ k, k < 4 → 0 < e.m + k → ∃ g, e.ad k = some ⟨g, 0, none⟩ ∧ ∃ c, Blk w g 5 c ∧ e.m + k ≤ c.size
 small : e.m ≤ 1000
def CardTo (w : World) (e : NoteE) (z : Int) (q j : Nat) : Prop := ∀ k, k < 4 → ∀ t, t < e.m + k → (k < q ∨ (k = q ∧ t < j)) → ∃ g, e.ad k = some ⟨g, 0, none⟩ ∧ ∃ c, Blk w g 5 c ∧ c[t]? = some (.int .u8 z)
theorem Card.same {w w' : World} {e : NoteE} (h : Card w e) (hs : ∀ b, (b = e.N ∨ noteB e b) → w'.heap[b]? = w.heap[b]?) : Card w' e := by
 refine ⟨h.blk.same (hs _ (.inl rfl)), fun k hk h0 => ?_, h.small⟩
 obtain ⟨g, e1, c, hb, hc⟩ := h.room k hk h0
 exact ⟨g, e1, c, hb.same (hs g (.inr ⟨k, hk, h0, e1⟩)), hc⟩
theorem CardTo.same {w w' : World} {e : NoteE} {z : Int} {q j : Nat} (h : CardTo w e z q j) (hs : ∀ b, noteB e b → w'.heap[b]? = w.heap[b]?) : CardTo w' e z q j := fun k hk t ht hd => by
 obtain ⟨g, e1, c, hb, hc⟩ := h k hk t ht hd
 exact ⟨g, e1, c, hb.same (hs g ⟨k, hk, by omega, e1⟩), hc⟩
theorem Card.lt {w : World} {e : NoteE} (h : Card w e) : ∀ b, (b = e.N ∨ noteB e b) → b < w.heap.size := by
 rintro b (rfl | ⟨k, hk, h0, e1⟩)
 · exact h.blk.lt
 · obtain ⟨g, e2, c, hb, _⟩ := h.room k hk h0
  rw [e1] at e2
  injection e2 with e2
  injection e2 with e2 _ _
  subst e2
  exact hb.lt
theorem Card.elem {w : World} {e : NoteE} (h : Card w e) {b : Nat} (hb : noteB e b) : ∃ c, Blk w b 5 c := by
 obtain ⟨k, hk, h0, e1⟩ := hb
 obtain ⟨g, e2, c, hc, _⟩ := h.room k hk h0
 rw [e1] at e2
 injection e2 with e2
 injection e2 with e2 _ _
 subst e2
 exact ⟨c, hc⟩
theorem Card.kept {w w' : World} {e : NoteE} (h : Card w e) (k : Kept (fun _ => False) w w') : Card w' e := h.same fun b hb => k.block b (h.lt b hb) id
structure COver (w0 wr : World) (e : NoteE) (z : Int) (q j : Nat) : Prop where
 kept : Kept (noteB e) w0 wr
 card : Card wr e
 done : CardTo wr e z q j
theorem COver.next {w0 wr W' : World} {e : NoteE} {z : Int} {q j g : Nat} {c : Array Value} (h : COver w0 wr e z q j) (hq : q < 4) (hj : j < e.m + q) (hg : e.ad q = some ⟨g, 0, none⟩) (hb : Blk wr g 5 c) (hs : e.m + q ≤ c.size)
  (hW : W'.heap = (wr.setCell ⟨g, j, none⟩ (.int .u8 z)).heap) (h1 : W'.os = wr.os) (h2 : W'.tape = wr.tape) (h3 : W'.output = wr.output) : COver w0 W' e z q (j + 1) := by
 have k0 := Kept.setCell wr ⟨g, j, none⟩ (.int .u8 z)
 have kk : Kept (fun k => k = g) wr W' := ⟨h1, h2, h3, by rw [hW]; exact k0.size, fun i hi hn => by rw [hW]; exact k0.block i hi hn⟩
 have b' : Blk W' g 5 (c.setIfInBounds j (.int .u8 z)) := (hb.set j (.int .u8 z)).same (by rw [hW])
 have ho : noteB e g := ⟨q, hq, by omega, hg⟩
 refine ⟨h.kept.trans kk (fun _ => id) (fun b _ e => e ▸ ho), ⟨h.card.blk.kept kk fun en => ?_, fun k hk h0 => ?_, h.card.small⟩, fun k hk t ht hd => ?_⟩
 · rw [← en] at hb
  exact absurd (hb.type h.card.blk).1 (by decide)
 · obtain ⟨g', e1, d, hd, hc⟩ := h.card.room k hk h0
  by_cases e' : g' = g
  · subst e'
   obtain ⟨_, rfl⟩ := hb.type hd
   exact ⟨g', e1, _, b', by rw [Array.size_setIfInBounds]; exact hc⟩
  · exact ⟨g', e1, d, hd.kept kk e', hc⟩
 · by_cases e0 : k = q ∧ t = j
  · obtain ⟨rfl, rfl⟩ := e0
   exact ⟨g, hg, _, b', by rw [Array.getElem?_setIfInBounds, if_pos rfl, if_pos (by omega)]⟩
  · obtain ⟨g', e1, d, hd', hc⟩ := h.done k hk t ht (by omega)
   by_cases e' : g' = g
   · subst e'
    obtain ⟨_, rfl⟩ := hb.type hd'
    refine ⟨g', e1, _, b', ?_⟩
    by_cases et : j = t
    · subst et
     rw [Array.getElem?_setIfInBounds, if_pos rfl, if_pos (by omega)]
    · rw [Array.getElem?_setIfInBounds_ne et]
     exact hc
   · exact ⟨g', e1, d, hd'.kept kk e', hc⟩
theorem COver.step {w0 wr : World} {e : NoteE} {z : Int} {q j g : Nat} {c : Array Value} (h : COver w0 wr e z q j) (hq : q < 4) (hj : j < e.m + q) (hg : e.ad q = some ⟨g, 0, none⟩) (hb : Blk wr g 5 c) (hs : e.m + q ≤ c.size) : COver w0 (wr.setCell ⟨g, j, none⟩ (.int .u8 z)) e z q (j + 1) :=
 h.next hq hj hg hb hs rfl (Kept.setCell _ _ _).os (Kept.setCell _ _ _).tape (Kept.setCell _ _ _).output
theorem COver.turn {w0 wr : World} {e : NoteE} {z : Int} {q : Nat} (h : COver w0 wr e z q (e.m + q)) : COver w0 wr e z (q + 1) 0 := by
 refine ⟨h.kept, h.card, fun k hk t ht hd => h.done k hk t ht ?_⟩
 rcases hd with hd | hd
 · by_cases e' : k = q
  · subst e'; exact .inr ⟨rfl, ht⟩
  · exact .inl (by omega)
 · omega
theorem lwrite (w : World) (e : NoteE) (z : Int) (h : Card w e) :
  Calls Tryz.prog 69 #[noteV e, .int .u8 z] w fun r w' => r = .returned (.tuple #[]) ∧ Hid (COver w w' e z 4 0) := by
 have HO0 : Hid (COver w w e z 0 0) := ⟨Kept.refl _ _, h, fun k _ t _ hd => by omega⟩
 have hsm := h.small
 clear h
 unfold noteV
 go_enter Tryz.func69, Tryz.ntmps69
 go_wp2
 go_loopw [4] (fun k wr => ∃ q : Nat, q ≤ 4 ∧ k = .int .i64 q ∧ Hid (COver w wr e z q 0)) (fun k _ => 4 - (intOf k).toNat)
 case atStart => exact ⟨0, by omega, rfl, HO0⟩
 case round =>
  obtain ⟨q, hq, rfl, HO⟩ := hrel
  by_cases hq4 : q < 4
  · have hq0 : (0 : Int) ≤ (q : Int) := by omega
   have hq1 : (q : Int) < 4 := by omega
   go_wp2
   go_loopw [5] (fun j wy => ∃ t : Nat, t ≤ e.m + q ∧ j = .int .i64 t ∧ Hid (COver w wy e z q t)) (fun j _ => e.m + q - (intOf j).toNat)
   case atStart => exact ⟨0, Nat.zero_le _, rfl, HO⟩
   case round =>
    obtain ⟨t, ht, rfl, HO2⟩ := hrel
    have nq : wr.cell? ⟨e.N, q, none⟩ = some (.slice (e.ad q) (e.m + q) (e.cp q)) := by rw [HO2.out.card.blk.cell]; exact four_at e.m e.ad e.cp q hq4
    by_cases htm : t < e.m + q
    · obtain ⟨g, hg, c, hbc, hcs⟩ := HO2.out.card.room q hq4 (by omega)
     have c0 : wr.cell? ⟨g, t, none⟩ = some c[t] := by rw [hbc.cell]; exact Array.getElem?_eq_getElem (by omega)
     generalize c[t] = y0 at c0
     have f0 := hbc.free t
     have HNX : Hid (COver w (wr.setCell ⟨g, t, none⟩ (.int .u8 z)) e z q (t + 1)) := HO2.out.step hq4 htm hg hbc hcs
     rw [hg] at nq
     have ht0 : (0 : Int) ≤ (t : Int) := by omega
     have ht1 : (t : Int) < ((e.m + q : Nat) : Int) := by omega
     have hgN : g ≠ e.N := fun en => by rw [en] at hbc; exact absurd (hbc.type HO2.out.card.blk).1 (by decide)
     have hNg : e.N ≠ g := Ne.symm hgN
     clear hbc hcs hg
     go_wp2
     go_roundw
     case rel => exact ⟨t + 1, by omega, by go_num, HNX⟩
     case measure => simp [intOf]; omega
    · have htt : t = e.m + q := by omega
     subst htt
     go_wp2
     go_roundw
     case rel => exact ⟨q + 1, by omega, by go_num, HO2.out.turn⟩
     case measure => simp [intOf]; omega
  · have hqq : q = 4 := by omega
   subst hqq
   go_wp2
   go_end0
   exact ⟨rfl, HO.out⟩
theorem lreads (w : World) (e : NoteE) (z : Int) (h : Card w e) (hd : CardTo w e z 4 0) :
  Calls Tryz.prog 67 #[noteV e, .int .u8 z] w fun r w' => r = .returned (.bool true) ∧ w = w' := by
 have hsm := h.small
 have HN : Hid (∀ q, q < 4 → w.cell? ⟨e.N, q, none⟩ = some (.slice (e.ad q) (e.m + q) (e.cp q))) := fun q hq => by rw [h.blk.cell]; exact four_at e.m e.ad e.cp q hq
 have HD : Hid (∀ q, q < 4 → ∀ t, t < e.m + q → ∃ g, e.ad q = some ⟨g, 0, none⟩ ∧ w.cell? ⟨g, t, none⟩ = some (.int .u8 z)) := fun q hq t ht => by
  obtain ⟨g, e1, c, hb, hc⟩ := hd q hq t ht (.inl hq)
  exact ⟨g, e1, by rw [hb.cell]; exact hc⟩
 clear h hd
 unfold noteV
 go_enter Tryz.func67, Tryz.ntmps67
 go_wp2
 go_loop [5] (fun k => ∃ q : Nat, q ≤ 4 ∧ k = .int .i64 q) (fun k => 4 - (intOf k).toNat)
 case atStart => exact ⟨0, by omega, rfl⟩
 case round =>
  obtain ⟨q, hq, rfl⟩ := hrel
  by_cases hq4 : q < 4
  · have hq0 : (0 : Int) ≤ (q : Int) := by omega
   have hq1 : (q : Int) < 4 := by omega
   have nq := HN.out q hq4
   go_wp2
   go_loop [6] (fun j => ∃ t : Nat, t ≤ e.m + q ∧ j = .int .i64 t) (fun j => e.m + q - (intOf j).toNat)
   case atStart => exact ⟨0, Nat.zero_le _, rfl⟩
   case round =>
    obtain ⟨t, ht, rfl⟩ := hrel
    by_cases htm : t < e.m + q
    · obtain ⟨g, hg, c0⟩ := HD.out q hq4 t htm
     have mq := nq
     rw [hg] at mq
     have ht0 : (0 : Int) ≤ (t : Int) := by omega
     have ht1 : (t : Int) < ((e.m + q : Nat) : Int) := by omega
     clear nq hg
     go_wp2
     go_round
     case rel => exact ⟨t + 1, by omega, by go_num⟩
     case measure => simp [intOf]; omega
    · have htt : t = e.m + q := by omega
     subst htt
     go_wp2
     go_round
     case rel => exact ⟨q + 1, by omega, by go_num⟩
     case measure => simp [intOf]; omega
  · have hqq : q = 4 := by omega
   subst hqq
   go_wp2
   go_ret
   exact ⟨rfl, rfl⟩
end Go.Proofs.YtpfcacedpkaihaaGreat
