import Derived.Test.YtpfcacedpkaihaaGreatC43
import Derived.Deep.DeepCutAuto
import Derived.Deep.RegionHeld3
import Derived.Test.YtpfcacedpkaihaaGreatC40
import Derived.Test.YtpfcacedpkaihaaGreatC41
namespace Go.Proofs.YtpfcacedpkaihaaGreat
open Go.RowKit
set_option maxRecDepth 100000
set_option maxHeartbeats 16000000
structure Card (w : World) (e : NoteE) : Prop where
 blk : Blk w e.N 100 (fourC e.m e.ad e.cp)
 room : ∀ k, k < 4 → 0 < e.m + k → ∃ g, e.ad k = some ⟨g, 0, none⟩ ∧ ∃ c, Blk w g 5 c ∧ e.m + k ≤ c.size
 small : e.m ≤ 1000
def CardTo (w : World) (e : NoteE) (z : Int) (q j : Nat) : Prop := ∀ k, k < 4 → ∀ t, t < e.m + k → (k < q ∨ (k = q ∧ t < j)) → ∃ g, e.ad k = some ⟨g, 0, none⟩ ∧ ∃ c, Blk w g 5 c ∧ c[t]? = some (.int .u8 z)
theorem Card.same {w w' : World} {e : NoteE} (h : Card w e) (hs : ∀ b, (b = e.N ∨ noteB e b) → w'.heap[b]? = w.heap[b]?) : Card w' e := by
 refine ⟨h.blk.same (hs _ (.inl rfl)), fun k hk h0 => ?_, h.small⟩
 obtain ⟨g, e1, c, hb, hc⟩ := h.room k hk h0
 exact ⟨g, e1, c, hb.same (hs g (.inr ⟨k, hk, h0, e1⟩)), hc⟩
theorem CardTo.same {w w' : World} {e : NoteE} {z : Int} {q j : Nat} (h : CardTo w e z q j) (hs : ∀ b, noteB e b → w'.heap[b]? = w.heap[b]?) : CardTo w' e z q j := fun k hk t ht hd => by
 obtain ⟨g, e1, c, hb, hc⟩ := h k hk t ht hd
 exact ⟨g, e1, c, hb.same (hs g ⟨k, hk, by omega, e1⟩), hc⟩
theorem Card.lt {w : World} {e : NoteE} (h : Card w e) : ∀ b, (b = e.N ∨ noteB e b) → b < w.heap.size := by
 rintro b (rfl | ⟨k, hk, h0, e1⟩)
 · exact h.blk.lt
 · obtain ⟨g, e2, c, hb, _⟩ := h.room k hk h0
   rw [e1] at e2
   injection e2 with e2
   injection e2 with e2 _ _
   subst e2
   exact hb.lt
theorem Card.elem {w : World} {e : NoteE} (h : Card w e) {b : Nat} (hb : noteB e b) : ∃ c, Blk w b 5 c := by
 obtain ⟨k, hk, h0, e1⟩ := hb
 obtain ⟨g, e2, c, hc, _⟩ := h.room k hk h0
 rw [e1] at e2
 injection e2 with e2
 injection e2 with e2 _ _
 subst e2
 exact ⟨c, hc⟩
theorem Card.kept {w w' : World} {e : NoteE} (h : Card w e) (k : Kept (fun _ => False) w w') : Card w' e := h.same fun b hb => k.block b (h.lt b hb) id
structure COver (w0 wr : World) (e : NoteE) (z : Int) (q j : Nat) : Prop where
 kept : Kept (noteB e) w0 wr
 card : Card wr e
 done : CardTo wr e z q j
theorem COver.next {w0 wr W' : World} {e : NoteE} {z : Int} {q j g : Nat} {c : Array Value} (h : COver w0 wr e z q j) (hq : q < 4) (hj : j < e.m + q) (hg : e.ad q = some ⟨g, 0, none⟩) (hb : Blk wr g 5 c) (hs : e.m + q ≤ c.size)
 (hW : W'.heap = (wr.setCell ⟨g, j, none⟩ (.int .u8 z)).heap) (h1 : W'.os = wr.os) (h2 : W'.tape = wr.tape) (h3 : W'.output = wr.output) : COver w0 W' e z q (j + 1) := by
 have k0 := Kept.setCell wr ⟨g, j, none⟩ (.int .u8 z)
 have kk : Kept (fun k => k = g) wr W' := ⟨h1, h2, h3, by rw [hW]; exact k0.size, fun i hi hn => by rw [hW]; exact k0.block i hi hn⟩
 have b' : Blk W' g 5 (c.setIfInBounds j (.int .u8 z)) := (hb.set j (.int .u8 z)).same (by rw [hW])
 have ho : noteB e g := ⟨q, hq, by omega, hg⟩
 refine ⟨h.kept.trans kk (fun _ => id) (fun b _ e => e ▸ ho), ⟨h.card.blk.kept kk fun en => ?_, fun k hk h0 => ?_, h.card.small⟩, fun k hk t ht hd => ?_⟩
 · rw [← en] at hb
   exact absurd (hb.type h.card.blk).1 (by decide)
 · obtain ⟨g', e1, d, hd, hc⟩ := h.card.room k hk h0
   by_cases e' : g' = g
   · subst e'
     obtain ⟨_, rfl⟩ := hb.type hd
     exact ⟨g', e1, _, b', by rw [Array.size_setIfInBounds]; exact hc⟩
   · exact ⟨g', e1, d, hd.kept kk e', hc⟩
 · by_cases e0 : k = q ∧ t = j
   · obtain ⟨rfl, rfl⟩ := e0
     exact ⟨g, hg, _, b', by rw [Array.getElem?_setIfInBounds, if_pos rfl, if_pos (by omega)]⟩
   · obtain ⟨g', e1, d, hd', hc⟩ := h.done k hk t ht (by omega)
     by_cases e' : g' = g
     · subst e'
       obtain ⟨_, rfl⟩ := hb.type hd'
       refine ⟨g', e1, _, b', ?_⟩
       by_cases et : j = t
       · subst et
         rw [Array.getElem?_setIfInBounds, if_pos rfl, if_pos (by omega)]
       · rw [Array.getElem?_setIfInBounds_ne et]
         exact hc
     · exact ⟨g', e1, d, hd'.kept kk e', hc⟩
theorem COver.step {w0 wr : World} {e : NoteE} {z : Int} {q j g : Nat} {c : Array Value} (h : COver w0 wr e z q j) (hq : q < 4) (hj : j < e.m + q) (hg : e.ad q = some ⟨g, 0, none⟩) (hb : Blk wr g 5 c) (hs : e.m + q ≤ c.size) : COver w0 (wr.setCell ⟨g, j, none⟩ (.int .u8 z)) e z q (j + 1) :=
 h.next hq hj hg hb hs rfl (Kept.setCell _ _ _).os (Kept.setCell _ _ _).tape (Kept.setCell _ _ _).output
theorem COver.turn {w0 wr : World} {e : NoteE} {z : Int} {q : Nat} (h : COver w0 wr e z q (e.m + q)) : COver w0 wr e z (q + 1) 0 := by
 refine ⟨h.kept, h.card, fun k hk t ht hd => h.done k hk t ht ?_⟩
 rcases hd with hd | hd
 · by_cases e' : k = q
   · subst e'; exact .inr ⟨rfl, ht⟩
   · exact .inl (by omega)
 · omega
theorem lwrite (w : World) (e : NoteE) (z : Int) (h : Card w e) :
 Calls Tryz.prog 69 #[noteV e, .int .u8 z] w fun r w' => r = .returned (.tuple #[]) ∧ Hid (COver w w' e z 4 0) := by
 have HO0 : Hid (COver w w e z 0 0) := ⟨Kept.refl _ _, h, fun k _ t _ hd => by omega⟩
 have hsm := h.small
 clear h
 unfold noteV
 go_enter Tryz.func69, Tryz.ntmps69
 go_wp2
 go_loopw [4] (fun k wr => ∃ q : Nat, q ≤ 4 ∧ k = .int .i64 q ∧ Hid (COver w wr e z q 0)) (fun k _ => 4 - (intOf k).toNat)
 case atStart => exact ⟨0, by omega, rfl, HO0⟩
 case round =>
  obtain ⟨q, hq, rfl, HO⟩ := hrel
  by_cases hq4 : q < 4
  · have hq0 : (0 : Int) ≤ (q : Int) := by omega
    have hq1 : (q : Int) < 4 := by omega
    go_wp2
    go_loopw [5] (fun j wy => ∃ t : Nat, t ≤ e.m + q ∧ j = .int .i64 t ∧ Hid (COver w wy e z q t)) (fun j _ => e.m + q - (intOf j).toNat)
    case atStart => exact ⟨0, Nat.zero_le _, rfl, HO⟩
    case round =>
     obtain ⟨t, ht, rfl, HO2⟩ := hrel
     have nq : wr.cell? ⟨e.N, q, none⟩ = some (.slice (e.ad q) (e.m + q) (e.cp q)) := by rw [HO2.out.card.blk.cell]; exact four_at e.m e.ad e.cp q hq4
     by_cases htm : t < e.m + q
     · obtain ⟨g, hg, c, hbc, hcs⟩ := HO2.out.card.room q hq4 (by omega)
       have c0 : wr.cell? ⟨g, t, none⟩ = some c[t] := by rw [hbc.cell]; exact Array.getElem?_eq_getElem (by omega)
       generalize c[t] = y0 at c0
       have f0 := hbc.free t
       have HNX : Hid (COver w (wr.setCell ⟨g, t, none⟩ (.int .u8 z)) e z q (t + 1)) := HO2.out.step hq4 htm hg hbc hcs
       rw [hg] at nq
       have ht0 : (0 : Int) ≤ (t : Int) := by omega
       have ht1 : (t : Int) < ((e.m + q : Nat) : Int) := by omega
       have hgN : g ≠ e.N := fun en => by rw [en] at hbc; exact absurd (hbc.type HO2.out.card.blk).1 (by decide)
       have hNg : e.N ≠ g := Ne.symm hgN
       clear hbc hcs hg
       go_wp2
       go_roundw
       case rel => exact ⟨t + 1, by omega, by go_num, HNX⟩
       case measure => simp [intOf]; omega
     · have htt : t = e.m + q := by omega
       subst htt
       go_wp2
       go_roundw
       case rel => exact ⟨q + 1, by omega, by go_num, HO2.out.turn⟩
       case measure => simp [intOf]; omega
  · have hqq : q = 4 := by omega
    subst hqq
    go_wp2
    go_end0
    exact ⟨rfl, HO.out⟩
theorem lreads (w : World) (e : NoteE) (z : Int) (h : Card w e) (hd : CardTo w e z 4 0) :
 Calls Tryz.prog 67 #[noteV e, .int .u8 z] w fun r w' => r = .returned (.bool true) ∧ w = w' := by
 have hsm := h.small
 have HN : Hid (∀ q, q < 4 → w.cell? ⟨e.N, q, none⟩ = some (.slice (e.ad q) (e.m + q) (e.cp q))) := fun q hq => by rw [h.blk.cell]; exact four_at e.m e.ad e.cp q hq
 have HD : Hid (∀ q, q < 4 → ∀ t, t < e.m + q → ∃ g, e.ad q = some ⟨g, 0, none⟩ ∧ w.cell? ⟨g, t, none⟩ = some (.int .u8 z)) := fun q hq t ht => by
  obtain ⟨g, e1, c, hb, hc⟩ := hd q hq t ht (.inl hq)
  exact ⟨g, e1, by rw [hb.cell]; exact hc⟩
 clear h hd
 unfold noteV
 go_enter Tryz.func67, Tryz.ntmps67
 go_wp2
 go_loop [5] (fun k => ∃ q : Nat, q ≤ 4 ∧ k = .int .i64 q) (fun k => 4 - (intOf k).toNat)
 case atStart => exact ⟨0, by omega, rfl⟩
 case round =>
  obtain ⟨q, hq, rfl⟩ := hrel
  by_cases hq4 : q < 4
  · have hq0 : (0 : Int) ≤ (q : Int) := by omega
    have hq1 : (q : Int) < 4 := by omega
    have nq := HN.out q hq4
    go_wp2
    go_loop [6] (fun j => ∃ t : Nat, t ≤ e.m + q ∧ j = .int .i64 t) (fun j => e.m + q - (intOf j).toNat)
    case atStart => exact ⟨0, Nat.zero_le _, rfl⟩
    case round =>
     obtain ⟨t, ht, rfl⟩ := hrel
     by_cases htm : t < e.m + q
     · obtain ⟨g, hg, c0⟩ := HD.out q hq4 t htm
       have mq := nq
       rw [hg] at mq
       have ht0 : (0 : Int) ≤ (t : Int) := by omega
       have ht1 : (t : Int) < ((e.m + q : Nat) : Int) := by omega
       clear nq hg
       go_wp2
       go_round
       case rel => exact ⟨t + 1, by omega, by go_num⟩
       case measure => simp [intOf]; omega
     · have htt : t = e.m + q := by omega
       subst htt
       go_wp2
       go_round
       case rel => exact ⟨q + 1, by omega, by go_num⟩
       case measure => simp [intOf]; omega
  · have hqq : q = 4 := by omega
    subst hqq
    go_wp2
    go_ret
    exact ⟨rfl, rfl⟩
def FullP (w : World) (e size : Nat) (v : Value) (n m : Nat) (xs news : List Value) (v' : Value) (w' : World) : Prop :=
 (∃ g cap, v = .slice (some ⟨g, 0, none⟩) n cap ∧ n + m ≤ cap ∧ v' = .slice (some ⟨g, 0, none⟩) (n + m) cap ∧ Row w' e size v n xs ∧ Kept (fun k => k = g) w w') ∨
 (∃ g cap, v' = .slice (some ⟨g, 0, none⟩) (n + m) cap ∧ w.heap.size ≤ g ∧ Row w' e size v' (n + m) (xs ++ news) ∧ Kept (fun _ => False) w w')
theorem wpList_append_full {P : Program} (w : World) {ops : Array Oper} {rest : List Oper} {o : Oper} {a : Act} {Q : Exit → Act → World → Prop} (hgd : o.guard = none) (s x : Operand) (t : TypeId)
 (ho : o.op = .call { callee := .builtin .append, args := #[s, x], argTypes := #[t, t] })
 (e : TypeId) (i : TypeInfo) (z : Value) (size bytes : Nat) (ht : P.underlying t = some (.slice e)) (hi : P.info? e = some i) (hz : i.zero = some z)
 (hsize : i.size = size) (hby : i.bytes = bytes) (hzs : z.cells.size = size) (hsz : 0 < size)
 (v : Value) (n : Nat) (xs : List Value) (hs : a.eval s = v) (hown : Row w e size v n xs)
 (ad : Addr) (m c : Nat) (hm0 : 0 < m) (news : List Value) (hx : a.eval x = .slice (some ad) m c) (hl : news.length = m * size) (hnews : ∀ j u, news[j]? = some u → w.cell? (ad.add j) = some u) (h1 : ∀ u ∈ news, u.oneCell' = true)
 (h63 : n + m ≤ maxLen) (hbytes : (n + m) * bytes ≤ 140737488355328)
 (h : ∀ v' w', FullP w e size v n m xs news v' w' → wpList P ops Q rest (a.put o.dst v') w') : wpList P ops Q (o :: rest) a w :=
 wpList_plain hgd fun _ hK => wp_append_full w s x t ho e i z size bytes ht hi hz hsize hby hzs hsz v n xs hs hown ad m c hm0 news hx hl hnews h1 h63 hbytes fun v' w' h2 => hK _ _ (h v' w' h2)
theorem news_arr (w : World) (l : List Value) (t : TypeId) : ∀ j u, l[j]? = some u → (w.alloc (.cells l.toArray t)).cell? ((⟨w.heap.size, 0, none⟩ : Addr).add j) = some u := by
 intro j u hj
 have e' : (⟨w.heap.size, 0, none⟩ : Addr).add j = ⟨w.heap.size, j, none⟩ := by cases j <;> simp [Addr.add]
 rw [e', World.cell?_alloc_at _ _ _ _ rfl]
 simpa using hj
theorem one_u8s {l : List Value} {z : Int} (h : ∀ u ∈ l, u = .int .u8 z) : ∀ u ∈ l, u.oneCell' = true := fun u hu => by rw [h u hu]; rfl
structure SB (w0 : World) (lo : Option Addr) (m lc : Nat) (xs : List Value) (w : World) : Prop where
 kept : Kept (fun k => (Value.slice lo m lc).ownBlock = some k) w0 w
 row : Row w 5 1 (.slice lo m lc) m xs
def InA (w0 : World) (lo : Option Addr) (m lc k g : Nat) (w : World) : Prop := (lo = some ⟨g, 0, none⟩ ∧ m + k ≤ lc) ∨ (w0.heap.size ≤ g ∧ ∃ c, Blk w g 5 c ∧ m + k ≤ c.size)
theorem InA.mono {w0 w w' : World} {lo : Option Addr} {m lc k g : Nat} (hl : ∀ k, (Value.slice lo m lc).ownBlock = some k → k < w0.heap.size) (hk : Kept (fun k => (Value.slice lo m lc).ownBlock = some k) w w') (h : InA w0 lo m lc k g w) : InA w0 lo m lc k g w' := by
 rcases h with h | ⟨h2, c, h3, h4⟩
 · exact .inl h
 · exact .inr ⟨h2, c, h3.kept hk fun h => by have := hl _ h; omega, h4⟩
theorem SB.alloc {w0 w : World} {lo : Option Addr} {m lc : Nat} {xs : List Value} (h : SB w0 lo m lc xs w) (o : Obj) : SB w0 lo m lc xs (w.alloc o) :=
 ⟨h.kept.trans (Kept.alloc w o (fun _ => False)) (fun _ => id) (fun _ _ => False.elim), h.row.kept (Kept.alloc w o (fun _ => False)) (fun _ _ => id)⟩
theorem SB.app {w0 W w' : World} {lo : Option Addr} {m lc k : Nat} {xs news : List Value} {v' : Value} {o : Obj} (h0 : SB w0 lo m lc xs W) (hk0 : 0 < k) (hp : FullP (W.alloc o) 5 1 (.slice lo m lc) m k xs news v' w') :
 ∃ g cap, v' = .slice (some ⟨g, 0, none⟩) (m + k) cap ∧ SB w0 lo m lc xs w' ∧ Kept (fun k => (Value.slice lo m lc).ownBlock = some k) W w' ∧ InA w0 lo m lc k g w' := by
 have h := h0.alloc o
 have ka := Kept.alloc W o (fun k => (Value.slice lo m lc).ownBlock = some k)
 rcases hp with ⟨g, cap, e1, e2, e3, hR, hk⟩ | ⟨g, cap, e1, hg, hR, hk⟩
 · injection e1 with q1 _ q2
   subst q1 q2
   have hk' : Kept (fun k => (Value.slice (some ⟨g, 0, none⟩) m lc).ownBlock = some k) (W.alloc o) w' := hk.mono fun x hx => by rw [hx]; rfl
   exact ⟨g, lc, e3, ⟨h.kept.trans hk' (fun _ => id) (fun _ _ => id), hR⟩, ka.trans hk' (fun _ => id) (fun _ _ => id), .inl ⟨rfl, e2⟩⟩
 · have hk' : Kept (fun k => (Value.slice lo m lc).ownBlock = some k) (W.alloc o) w' := hk.mono fun _ => False.elim
   refine ⟨g, cap, e1, ⟨h.kept.trans hk' (fun _ => id) (fun _ _ => id), h.row.kept hk (fun _ _ => id)⟩, ka.trans hk' (fun _ => id) (fun _ _ => id), .inr ⟨Nat.le_trans h.kept.size hg, ?_⟩⟩
   rcases hR.shape with ⟨_, hn0, _⟩ | ⟨g2, cap2, cur2, hv2, hb2, hc2, _, hs2, _⟩
   · omega
   · rw [e1] at hv2
     injection hv2 with q1 _ q2
     injection q1 with q1
     injection q1 with q1 _ _
     subst q1 q2
     exact ⟨cur2, hb2, by rw [hs2, Nat.mul_one]; exact hc2⟩
theorem card_of {w0 w3 : World} {lo : Option Addr} {m lc g1 g2 g3 c1 c2 c3 : Nat} {xs : List Value} (hS : SB w0 lo m lc xs w3) (h1 : InA w0 lo m lc 1 g1 w3) (h2 : InA w0 lo m lc 2 g2 w3) (h3 : InA w0 lo m lc 3 g3 w3) (hm : m ≤ 1000) :
 ∃ (ad : Nat → Option Addr) (cp : Nat → Nat), Card (w3.alloc (.cells #[.slice lo m lc, .slice (some ⟨g1, 0, none⟩) (m + 1) c1, .slice (some ⟨g2, 0, none⟩) (m + 2) c2, .slice (some ⟨g3, 0, none⟩) (m + 3) c3] 100)) ⟨w3.heap.size, m, ad, cp⟩ ∧ ∀ b, noteB ⟨w3.heap.size, m, ad, cp⟩ b → OwnL (.slice lo m lc) w0.heap.size b := by
 have lrow : ∀ g q, lo = some ⟨g, 0, none⟩ → q ≤ lc → OwnL (.slice lo m lc) w0.heap.size g ∧ ∃ c, Blk w3 g 5 c ∧ q ≤ c.size := by
  intro g q hg hq
  subst hg
  refine ⟨.inl rfl, ?_⟩
  rcases hS.row.shape with ⟨e, _⟩ | ⟨g', cap, cur, e, hb', _, _, hs, _⟩
  · cases e
  · injection e with q1 _ q2
    injection q1 with q1
    injection q1 with q1 _ _
    subst q1 q2
    exact ⟨cur, hb', by rw [hs, Nat.mul_one]; exact hq⟩
 have use : ∀ q g, InA w0 lo m lc q g w3 → OwnL (.slice lo m lc) w0.heap.size g ∧ ∃ c, Blk w3 g 5 c ∧ m + q ≤ c.size := by
  rintro q g (⟨h1, h2⟩ | ⟨h1, h2⟩)
  · exact lrow g (m + q) h1 h2
  · exact ⟨.inr h1, h2⟩
 have all : ∀ k, k < 4 → 0 < m + k → ∃ g, (if k = 0 then lo else if k = 1 then some ⟨g1, 0, none⟩ else if k = 2 then some ⟨g2, 0, none⟩ else some ⟨g3, 0, none⟩) = some (⟨g, 0, none⟩ : Addr) ∧ OwnL (.slice lo m lc) w0.heap.size g ∧ ∃ c, Blk w3 g 5 c ∧ m + k ≤ c.size := by
  intro k hk h0
  have hk4 : k = 0 ∨ k = 1 ∨ k = 2 ∨ k = 3 := by omega
  rcases hk4 with rfl | rfl | rfl | rfl
  · obtain ⟨g, cap, hv, _, _⟩ := hS.row.block (by omega)
    injection hv with q1 _ q2
    have hml : m ≤ lc := by
     rcases hS.row.shape with ⟨_, h, _⟩ | ⟨_, cap', _, e', _, hc, _⟩
     · omega
     · injection e' with _ _ q3; omega
    exact ⟨g, q1, lrow g (m + 0) q1 hml⟩
  · exact ⟨g1, rfl, use 1 g1 h1⟩
  · exact ⟨g2, rfl, use 2 g2 h2⟩
  · exact ⟨g3, rfl, use 3 g3 h3⟩
 refine ⟨fun k => if k = 0 then lo else if k = 1 then some ⟨g1, 0, none⟩ else if k = 2 then some ⟨g2, 0, none⟩ else some ⟨g3, 0, none⟩, fun k => if k = 0 then lc else if k = 1 then c1 else if k = 2 then c2 else c3, ⟨Blk.new _ _ _, fun k hk h0 => ?_, hm⟩, ?_⟩
 · obtain ⟨g, e1, _, c, hb, hc⟩ := all k hk h0
   exact ⟨g, e1, c, hb.kept (Kept.alloc _ _ (fun _ => False)) id, hc⟩
 · rintro b ⟨k, hk, h0, e1⟩
   obtain ⟨g, e2, ho, _⟩ := all k hk h0
   have e1' : (if k = 0 then lo else if k = 1 then some ⟨g1, 0, none⟩ else if k = 2 then some ⟨g2, 0, none⟩ else some ⟨g3, 0, none⟩) = some (⟨b, 0, none⟩ : Addr) := e1
   rw [e1'] at e2
   injection e2 with e2
   injection e2 with e2 _ _
   subst e2
   exact ho
theorem Tryz.infoCards : (Tryz.prog.info? 114).map (fun i => (i.zero, i.size, i.bytes)) = some (some (.slice none 0 0), 1, 24) := by kernel_rfl
theorem lbytes (w : World) (pb : Nat) (vps b0 b1 bv : Value) (commits most : Int) (bn : Nat) (vals : List Value) (lo : Option Addr) (m lc : Nat) (xs : List Value) (hblk : Blk w pb 34 (playC vps b0 b1 bv commits most)) (hbv : Row w 114 1 bv bn vals) (hbn : (bn + 1) * 24 ≤ 140737488355328) (hl : Row w 5 1 (.slice lo m lc) m xs) (hm : m ≤ 1000) :
 Calls Tryz.prog 52 #[.pointer (some ⟨pb, 1, none⟩), .slice lo m lc] w fun e w' => e = .returned (.tuple #[]) ∧ ∃ v, GPost shC (fun v => playC vps b0 b1 v commits most) w pb bv bn vals (.slice lo m lc) m v w' := by
 obtain ⟨ba, bc, hbf, _⟩ := hbv.form
 subst hbf
 have c3 : w.cell? ⟨pb, 3, none⟩ = some (.slice ba bn bc) := hblk.cell 3
 obtain ⟨z, hz⟩ : ∃ z : Int, z = ((digitN bn 0 : Nat) : Int) := ⟨_, rfl⟩
 have HD : Hid (∀ W, Calls Tryz.prog 68 #[.int .i64 (bn : Int), .int .i64 0] W fun e w' => e = .returned (.int .u8 z) ∧ W = w') := fun W => by rw [hz]; exact rdigit W bn 0 (by omega) (by omega)
 have hlt : ∀ k, (Value.slice lo m lc).ownBlock = some k → k < w.heap.size := hl.lt
 have HS0 : Hid (SB w lo m lc xs w) := ⟨Kept.refl _ _, hl⟩
 have HNB : ∀ k, (Value.slice lo m lc).ownBlock = some k → k ≠ pb ∧ (Value.slice ba bn bc).ownBlock ≠ some k := fun k hk => ⟨fun e => hl.ne_block hblk (by decide) (by rw [← e]; exact hk), fun e => hl.ne_row hbv (by decide) k hk e⟩
 have HAPP : Hid (∀ (W w' : World) (k : Nat) (news : List Value) (v' : Value) (o : Obj), SB w lo m lc xs W → 0 < k → FullP (W.alloc o) 5 1 (.slice lo m lc) m k xs news v' w' → ∃ g cap, v' = .slice (some ⟨g, 0, none⟩) (m + k) cap ∧ Hid (SB w lo m lc xs w' ∧ Kept (fun k => (Value.slice lo m lc).ownBlock = some k) W w' ∧ InA w lo m lc k g w')) := fun W w' k news v' o h1 h2 h3 => h1.app h2 h3
 have HROW : Hid (∀ (W : World) (o : Obj), SB w lo m lc xs W → Row (W.alloc o) 5 1 (.slice lo m lc) m xs) := fun W o h => (h.alloc o).row
 have HWR : Hid (∀ (w1 w2 w3 : World) (g1 g2 g3 p1 p2 p3 : Nat), InA w lo m lc 1 g1 w1 → (Kept (fun k => (Value.slice lo m lc).ownBlock = some k) w1 w2 ∧ InA w lo m lc 2 g2 w2) → (SB w lo m lc xs w3 ∧ Kept (fun k => (Value.slice lo m lc).ownBlock = some k) w2 w3 ∧ InA w lo m lc 3 g3 w3) → Calls Tryz.prog 69 #[.slice (some ⟨w3.heap.size, 0, none⟩) 4 4, .int .u8 z] (w3.alloc (.cells #[.slice lo m lc, .slice (some ⟨g1, 0, none⟩) (m + 1) p1, .slice (some ⟨g2, 0, none⟩) (m + 2) p2, .slice (some ⟨g3, 0, none⟩) (m + 3) p3] 100)) fun r w' => r = .returned (.tuple #[]) ∧ w'.cell? ⟨pb, 3, none⟩ = some (.slice ba bn bc) ∧ Hid (pb < w'.heap.size ∧ (∀ o, Row (w'.alloc o) 114 1 (.slice ba bn bc) bn vals) ∧ ∀ (o : Obj) (w9 : World) (v : Value), Appended (w'.alloc o) w9 114 1 (.slice ba bn bc) v bn 1 vals [.slice (some ⟨w3.heap.size, 0, none⟩) 4 4] → w9.cell? ⟨pb, 3, none⟩ = some (.slice ba bn bc) ∧ w9.frozen? ⟨pb, 3, none⟩ = false ∧ GPost shC (fun v => playC vps b0 b1 v commits most) w pb (.slice ba bn bc) bn vals (.slice lo m lc) m v (w9.setCell ⟨pb, 3, none⟩ v))) := by
  intro w1 w2 w3 g1 g2 g3 p1 p2 p3 a1 a2 a3
  have a2' := a2.2.mono hlt a3.2.1
  have a1' := (a1.mono hlt a2.1).mono hlt a3.2.1
  obtain ⟨ad, cp, hC, hO⟩ := card_of (c1 := p1) (c2 := p2) (c3 := p3) a3.1 a1' a2' a3.2.2 hm
  refine (lwrite _ ⟨w3.heap.size, m, ad, cp⟩ z hC).mono fun r w' hp => ?_
  have hW := hp.2.out
  have hs3 := a3.1.kept.size
  have hkw : Kept (fun k => (Value.slice lo m lc).ownBlock = some k) w w' := by
   refine ((a3.1.alloc _).kept.trans hW.kept (fun _ => id) (fun k hk hn => ?_))
   rcases hO k hn with h1 | h1
   · exact h1
   · omega
  have hBr : Blk w' pb 34 (playC vps b0 b1 (.slice ba bn bc) commits most) := hblk.kept hkw fun e => (HNB _ e).1 rfl
  have hVr : Row w' 114 1 (.slice ba bn bc) bn vals := hbv.kept hkw fun j hj e => (HNB _ e).2 hj
  refine ⟨hp.1, hBr.cell 3, hBr.lt, fun o => hVr.kept (Kept.alloc w' o (fun _ => False)) (fun _ _ => id), fun o w9 v hA => ?_⟩
  have hA := hA.of_alloc
  have b3 : Blk w9 pb 34 (playC vps b0 b1 (.slice ba bn bc) commits most) := hBr.kept hA.kept fun e => hVr.ne_block hBr (by decide) e
  have n3 : Blk w9 w3.heap.size 100 (fourC m ad cp) := hW.card.blk.kept hA.kept fun e => hVr.ne_block hW.card.blk (by decide) e
  have kS := Kept.setCell w9 ⟨pb, 3, none⟩ v
  have hpw := hblk.lt
  refine ⟨b3.cell 3, b3.free 3, w3.heap.size, ad, cp, n3.kept kS (fun e => ?_), hs3, fun k hk t ht => ?_, hA.row.kept kS (fun j hj e => ?_), b3.set 3 v, (hkw.trans hA.kept (H := fun k => k = pb ∨ (Value.slice ba bn bc).ownBlock = some k ∨ (Value.slice lo m lc).ownBlock = some k) (fun _ h => .inr (.inr h)) (fun _ _ h => .inr (.inl h))).trans kS (fun _ => id) (fun _ _ h => .inl h), fun k hk => ?_⟩
  · simp at e; omega
  · obtain ⟨g, e1, c, hbg, hcg⟩ := hW.done k hk t ht (.inl hk)
    have o1 := hO g ⟨k, hk, by show 0 < m + k; omega, e1⟩
    refine ⟨g, e1, o1, c, (hbg.kept hA.kept fun e => hVr.ne_block hbg (by decide) e).kept kS (fun e => ?_), fun f hf => ?_⟩
    · simp at e
      subst e
      exact absurd (hBr.type hbg).1 (by decide)
    · have hf0 : f = 0 := by have : f < 1 := hf; omega
      subst hf0
      show c[t * 1 + 0]? = _
      rw [Nat.mul_one, Nat.add_zero, hcg, hz]
      rfl
  · simp at e
    subst e
    exact Row.ne_block hA.row b3 (by decide) hj
  · rcases hA.own with h1 | h1
    · left; rw [← h1]; exact hk
    · right; have := h1 k hk; have := hkw.size; omega
 obtain ⟨i0, hi, hz0, hz1, hz2⟩ := info_parts Tryz.infoU8
 have HI : Hid (Tryz.prog.info? 5 = some i0 ∧ i0.zero = some (.int .u8 0) ∧ i0.size = 1 ∧ i0.bytes = 1) := ⟨hi, hz0, hz1, hz2⟩
 obtain ⟨i1, hj, hy0, hy1, hy2⟩ := info_parts Tryz.infoCards
 have HI1 : Hid (Tryz.prog.info? 114 = some i1 ∧ i1.zero = some (.slice none 0 0) ∧ i1.size = 1 ∧ i1.bytes = 24) := ⟨hj, hy0, hy1, hy2⟩
 have k1 : m + 1 ≤ maxLen := by unfold maxLen; omega
 have k2 : m + 2 ≤ maxLen := by unfold maxLen; omega
 have k3 : m + 3 ≤ maxLen := by unfold maxLen; omega
 have l1 : (m + 1) * 1 ≤ 140737488355328 := by omega
 have l2 : (m + 2) * 1 ≤ 140737488355328 := by omega
 have l3 : (m + 3) * 1 ≤ 140737488355328 := by omega
 have kb : bn + 1 ≤ maxLen := by unfold maxLen; omega
 have hpl := hblk.lt
 clear hi hz0 hz1 hz2 hj hy0 hy1 hy2 hblk hbv hl hz hlt HNB
 go_enter Tryz.func52, Tryz.ntmps52
 go_wp2_with first
  | (go_at_call 68; refine (HD.out _).mono ?_; rintro e w' ⟨rfl, rfl⟩)
  | (at_builtin; refine wpList_append_full _ rfl (.tmp 13) (.tmp 15) 100 rfl 5 i0 (.int .u8 0) 1 1 Tryz.underlying100 HI.out.1 HI.out.2.1 HI.out.2.2.1 HI.out.2.2.2 rfl (by decide) (.slice lo m lc) m xs rfl (HROW.out _ _ HS0.out) ⟨w.heap.size, 0, none⟩ 1 1 (by decide) [.int .u8 z] rfl rfl (news_arr w [.int .u8 z] _) (one_u8s (z := z) (by simp)) k1 l1 ?_; intro v1 w1 hp1; obtain ⟨g1, p1, hv1, HA1⟩ := HAPP.out _ _ _ _ _ _ HS0.out (by decide) hp1; clear hp1; subst hv1)
  | (at_builtin; refine wpList_append_full _ rfl (.tmp 17) (.tmp 20) 100 rfl 5 i0 (.int .u8 0) 1 1 Tryz.underlying100 HI.out.1 HI.out.2.1 HI.out.2.2.1 HI.out.2.2.2 rfl (by decide) (.slice lo m lc) m xs rfl (HROW.out _ _ HA1.out.1) ⟨w1.heap.size, 0, none⟩ 2 2 (by decide) [.int .u8 z, .int .u8 z] rfl rfl (news_arr w1 [.int .u8 z, .int .u8 z] _) (one_u8s (z := z) (by simp)) k2 l2 ?_; intro v2 w2 hp2; obtain ⟨g2, p2, hv2, HA2⟩ := HAPP.out _ _ _ _ _ _ HA1.out.1 (by decide) hp2; clear hp2; subst hv2)
  | (at_builtin; refine wpList_append_full _ rfl (.tmp 22) (.tmp 26) 100 rfl 5 i0 (.int .u8 0) 1 1 Tryz.underlying100 HI.out.1 HI.out.2.1 HI.out.2.2.1 HI.out.2.2.2 rfl (by decide) (.slice lo m lc) m xs rfl (HROW.out _ _ HA2.out.1) ⟨w2.heap.size, 0, none⟩ 3 3 (by decide) [.int .u8 z, .int .u8 z, .int .u8 z] rfl rfl (news_arr w2 [.int .u8 z, .int .u8 z, .int .u8 z] _) (one_u8s (z := z) (by simp)) k3 l3 ?_; intro v3 w3 hp3; obtain ⟨g3, p3, hv3, HA3⟩ := HAPP.out _ _ _ _ _ _ HA2.out.1 (by decide) hp3; clear hp3; subst hv3)
  | (go_at_call 69; refine (HWR.out w1 w2 w3 g1 g2 g3 p1 p2 p3 HA1.out.2.2 ⟨HA2.out.2.1, HA2.out.2.2⟩ HA3.out).mono ?_; rintro e w4 ⟨rfl, q3, HW4⟩)
  | (at_builtin; go_must (refine wpList_append_mine _ rfl (.tmp 36) (.tmp 38) 30 rfl 114 i1 (.slice none 0 0) 1 24 Tryz.underlying30 HI1.out.1 HI1.out.2.1 HI1.out.2.2.1 HI1.out.2.2.2 rfl (by decide) (.slice ba bn bc) bn vals rfl (HW4.out.2.1 _) ⟨w4.heap.size, 0, none⟩ 1 1 [.slice (some ⟨w3.heap.size, 0, none⟩) 4 4] rfl rfl (cell_one_new w4 _ _) (oneCell_slice _ _ _) kb hbn ?_); intro v' w9 hA; obtain ⟨r0, r1, r2⟩ := HW4.out.2.2 _ _ _ hA; have HDONE : Hid (GPost shC (fun v => playC vps b0 b1 v commits most) w pb (.slice ba bn bc) bn vals (.slice lo m lc) m v' (w9.setCell ⟨pb, 3, none⟩ v')) := r2; clear r2; obtain ⟨ao', cap', hv', _⟩ := hA.row.form; clear hA; subst hv')
 go_end0
 exact ⟨rfl, _, HDONE.out⟩
theorem look_drew {S : Shelf} {pl : Value → Array Value} {w w' : World} {pb bn m : Nat} {bv lV v : Value} {vals : List Value} (h : GPost S pl w pb bv bn vals lV m v w') (q : Nat) : GPost S pl w pb bv bn vals lV m v (w'.drewN q) := by
 obtain ⟨N, ad, cp, h1, h2, h3, h4, h5, h6, h7⟩ := h
 refine ⟨N, ad, cp, h1.same rfl, h2, fun k hk t ht => ?_, h4.same fun _ _ => rfl, h5.same rfl, h6.drewN q, h7⟩
 obtain ⟨g, e1, e2, e3⟩ := h3 k hk t ht
 exact ⟨g, e1, e2, e3.same rfl⟩
theorem lmem_look (w : World) (pb xb cb : Nat) (a b c : Int) (s : ByteArray) (ao : Option Addr) (n cap : Nat) (D : DevS) (R : RefS) (vps bv b1 b2 : Value) (commits most : Int) (bn : Nat) (vals : List Value) (cn : Nat) (cvals : List Value) (h : Pair w xb cb D R) (hu : R.uses.length < 3000000000000) (hblk : Blk w pb 34 (playC vps bv b1 b2 commits most)) (hbv : Row w 49 1 bv bn vals) (hb2 : Row w 114 1 b2 cn cvals) (hbn : (bn + 1) * 24 ≤ 140737488355328) (hcn : (cn + 1) * 24 ≤ 140737488355328) :
 Calls Tryz.prog 16 #[.pointer (some ⟨pb, 0, none⟩), .agg #[.pointer (some ⟨xb, 0, none⟩), .pointer (some ⟨cb, 0, none⟩)], .agg #[.int .i64 12, .int .i64 a, .int .i64 b, .int .i64 c, .string s, .slice ao n cap]] w fun e w' => e = .returned (.bool true) ∧ Hid (LookPost w pb vps bv b1 b2 commits most bn vals cn cvals w') := by
 have hk := boxed_kept w xb cb 12 a b c s (.slice ao n cap)
 have hdoc : ∀ w2, Ref w2 cb R → Calls Tryz.prog 50 #[.pointer (some ⟨cb, 0, none⟩), .int .i64 b] w2 fun e w3 => RLookPost w2 R b e w3 := fun w2 h2 => rlook w2 cb R b h2 h.rfit (fun nd hnd => by
  obtain ⟨j, hj⟩ := List.getElem?_of_mem hnd
  have hjl := (List.getElem?_eq_some_iff.mp hj).1
  have hlen : D.nodes.length = R.nodes.length := by rw [h.sim.len]; show _ = (D.nodes.map _).length; rw [List.length_map]
  have hs : D.pu.sites[j]? = some (D.nodes[j]'(by omega)).p := by show (D.nodes.map _)[j]? = _; rw [List.getElem?_map, List.getElem?_eq_getElem (by omega)]; rfl
  have hn := h.sim.node j _ nd hs hj
  have hg := h.good.sites _ (List.mem_of_getElem? hs)
  have hw := hg.walk h.good.pmax (by omega)
  have e1 : nd.wts = ((D.nodes[j]'(by omega)).p).waits.map (·.1) := hn.wts
  have e2 : nd.ents = ((D.nodes[j]'(by omega)).p).ents.map (·.e) := hn.ents
  refine ⟨by rw [e1, List.length_map]; exact hw.ok.wl, by rw [e2, List.length_map]; have := hw.el; omega, hn.top⟩)
 obtain ⟨up, hz, ns, es, r, hn1, he1, hx, hd⟩ := pair_look (h.kept hk fun _ _ => id) (by omega) b hdoc
 have H0 : Hid (Calls Tryz.prog 49 #[.pointer (some ⟨xb, 0, none⟩), .int .i64 b] (boxed w xb cb 12 a b c s (.slice ao n cap)) fun e w1 => ∃ wa wc ea ec, e = .returned (.tuple #[.agg #[.bool up, .int .u64 (hz : Int), .slice wa ns.length wc, .slice ea es.length ec], .int .i64 r]) ∧ w1.cell? ⟨w.heap.size, 1, none⟩ = some (.pointer (some ⟨cb, 0, none⟩)) ∧ w1.cell? ⟨w.heap.size + 1, 2, none⟩ = some (.int .i64 b) ∧ Hid (Kept (fun _ => False) w w1 ∧ Row w1 5 1 (.slice wa ns.length wc) ns.length (ns.flatMap u8C) ∧ Row w1 55 6 (.slice ea es.length ec) es.length (es.flatMap entC) ∧ (∀ k, (Value.slice wa ns.length wc).ownBlock = some k → w.heap.size ≤ k) ∧ ∀ k, (Value.slice ea es.length ec).ownBlock = some k → w.heap.size ≤ k)) := hx.mono fun e w1 hp => by
  obtain ⟨wa, wc, ea, ec, e1, HG⟩ := hp
  obtain ⟨g1, g2⟩ := HG.out
  exact ⟨wa, wc, ea, ec, e1, boxed_c g1.kept (fun _ => False.elim), boxed_b g1.kept (fun _ => False.elim), hk.trans g1.kept (fun _ => id) (fun _ _ => id), g1.row, g2.row, fun k hk' => Nat.le_trans hk.size (g1.new k hk'), fun k hk' => Nat.le_trans hk.size (g2.new k hk')⟩
 have H1 : Hid (∀ W, Kept (fun _ => False) w W → Calls Tryz.prog 50 #[.pointer (some ⟨cb, 0, none⟩), .int .i64 b] W fun e w' => ∃ wa wc ea ec, e = .returned (.tuple #[.agg #[.bool up, .int .u64 (hz : Int), .slice wa ns.length wc, .slice ea es.length ec], .int .i64 r]) ∧ Hid (Kept (fun _ => False) W w' ∧ Row w' 5 1 (.slice wa ns.length wc) ns.length (ns.flatMap u8C) ∧ Row w' 55 6 (.slice ea es.length ec) es.length (es.flatMap entC))) := fun W hW => (hd W (h.ref.kept hW fun _ _ => id)).mono fun e w1 hp => by
  obtain ⟨wa, wc, ea, ec, e1, HG⟩ := hp
  exact ⟨wa, wc, ea, ec, e1, HG.out.1.kept, HG.out.1.row, HG.out.2.row⟩
 have H2 : Hid (∀ W lo lc lo' lc', Row W 55 6 (.slice lo es.length lc) es.length (es.flatMap entC) → Row W 55 6 (.slice lo' es.length lc') es.length (es.flatMap entC) → Calls Tryz.prog 41 #[.slice lo es.length lc, .slice lo' es.length lc'] W fun e w' => e = .returned (.bool true) ∧ Hid (Kept (fun _ => False) W w')) := fun W lo lc lo' lc' h1 h2 => (rsameEntries W _ _ es (by omega) h1 h2).mono fun e w' hp => ⟨hp.1, Kept.of_below hp.2 _⟩
 have H3 : Hid (∀ W lo lc lo' lc', Row W 5 1 (.slice lo ns.length lc) ns.length (ns.flatMap u8C) → Row W 5 1 (.slice lo' ns.length lc') ns.length (ns.flatMap u8C) → Calls Tryz.prog 51 #[.slice lo ns.length lc, .slice lo' ns.length lc'] W fun e w' => e = .returned (.bool true) ∧ Hid (Kept (fun _ => False) W w')) := fun W lo lc lo' lc' h1 h2 => rsameBytes W _ _ ns (by omega) h1 h2
 have H4 : Hid (∀ W lo lc, Row W 55 6 (.slice lo es.length lc) es.length (es.flatMap entC) → Kept (fun _ => False) w W → Calls Tryz.prog 42 #[.pointer (some ⟨pb, 1, none⟩), .slice lo es.length lc] W fun e w' => e = .returned (.tuple #[]) ∧ Hid (∃ v, GPost shE (fun v => playC vps v b1 b2 commits most) W pb bv bn vals (.slice lo es.length lc) es.length v w')) := fun W lo lc h1 hW => (lentries W pb vps bv b1 b2 commits most bn vals lo es.length lc _ (hblk.kept hW id) (hbv.kept hW fun _ _ => id) hbn h1 (by omega)).mono fun e w' hp => ⟨hp.1, gpost_E hp⟩
 have H5 : Hid (∀ (W W' : World) (v : Value) (lo : Option Addr) (lc : Nat) (wa : Option Addr) (wc : Nat), Kept (fun _ => False) w W → Row W 55 6 (.slice lo es.length lc) es.length (es.flatMap entC) → Row W 5 1 (.slice wa ns.length wc) ns.length (ns.flatMap u8C) → GPost shE (fun v => playC vps v b1 b2 commits most) W pb bv bn vals (.slice lo es.length lc) es.length v W' → (∀ q C, Blk W q 102 C → Blk W' q 102 C) ∧ Row W' 5 1 (.slice wa ns.length wc) ns.length (ns.flatMap u8C) ∧ ∀ X, Kept (fun _ => False) W' X → Calls Tryz.prog 52 #[.pointer (some ⟨pb, 1, none⟩), .slice wa ns.length wc] X fun e w' => e = .returned (.tuple #[]) ∧ Hid (∃ u, GPost shC (fun u => playC vps v b1 u commits most) X pb b2 cn cvals (.slice wa ns.length wc) ns.length u w' ∧ (∀ q C, Blk W' q 102 C → Blk w' q 102 C))) := by
  intro W W' v lo lc wa wc hW hl hw hg
  have hbW := hblk.kept hW id
  have rbv := hbv.kept hW fun _ _ => id
  have rb2 := hb2.kept hW fun _ _ => id
  have hw' : Row W' 5 1 (.slice wa ns.length wc) ns.length (ns.flatMap u8C) := hw.kept hg.kept (by
   rintro j hj (e | e | e)
   · subst e; exact hw.ne_block hbW (by decide) hj
   · exact hw.ne_row rbv (by decide) j hj e
   · exact hw.ne_row hl (by decide) j hj e)
  have rb2' : Row W' 114 1 b2 cn cvals := rb2.kept hg.kept (by
   rintro j hj (e | e | e)
   · subst e; exact rb2.ne_block hbW (by decide) hj
   · exact rb2.ne_row rbv (by decide) j hj e
   · exact rb2.ne_row hl (by decide) j hj e)
  refine ⟨fun q C hC => hC.kept hg.kept ?_, hw', fun X hX => ?_⟩
  · rintro (e | e | e)
    · subst e; exact absurd (hC.type hbW).1 (by decide)
    · exact rbv.ne_block hC (by decide) e
    · exact hl.ne_block hC (by decide) e
  · refine (lbytes X pb vps v b1 b2 commits most cn cvals wa ns.length wc _ (hg.blk.kept hX id) (rb2'.kept hX fun _ _ => id) hcn (hw'.kept hX fun _ _ => id) hn1).mono fun e w' hp => ⟨hp.1, ?_⟩
    obtain ⟨u, hu'⟩ := hp.2
    refine ⟨u, hu', fun q C hC => (hC.kept hX id).kept hu'.kept ?_⟩
    rintro (e | e | e)
    · subst e; exact absurd (hC.type hg.blk).1 (by decide)
    · exact rb2'.ne_block hC (by decide) e
    · exact hw'.ne_block hC (by decide) e
 have HLL : Hid (es.length ≤ 1000 ∧ ns.length ≤ 1000) := ⟨he1, hn1⟩
 have hpl := hblk.lt
 clear h hblk hbv hb2 hk hx hd hdoc hu
 go_enter Tryz.func16, Tryz.ntmps16
 go_wp2_with first
  | (go_at_call 49; refine H0.out.mono ?_; rintro e w1 ⟨wa, wc, ea, ec, rfl, q1, q2, HR⟩; have o1 : ∀ o : Obj, (w1.alloc o).cell? ⟨w.heap.size, 1, none⟩ = some (.pointer (some ⟨cb, 0, none⟩)) := fun o => hold_al q1; have o2 : ∀ o : Obj, (w1.alloc o).cell? ⟨w.heap.size + 1, 2, none⟩ = some (.int .i64 b) := fun o => hold_al q2)
  | (go_at_call 50; refine (H1.out _ (HR.out.1.allocNew _)).mono ?_; rintro e w2 ⟨wa2, wc2, ea2, ec2, rfl, HR2⟩; have HB1 : Hid (Blk w2 w1.heap.size 102 #[.bool up, .int .u64 (hz : Int), .slice wa ns.length wc, .slice ea es.length ec]) := (Blk.new w1 _ _).kept HR2.out.1 id; have r2 : ∀ o : Obj, (w2.alloc o).cell? ⟨w1.heap.size, 2, none⟩ = some (.slice wa ns.length wc) := fun o => hold_al (HB1.out.cell 2); have r3 : ∀ o : Obj, (w2.alloc o).cell? ⟨w1.heap.size, 3, none⟩ = some (.slice ea es.length ec) := fun o => hold_al (HB1.out.cell 3))
  | (go_at_call 41; refine (H2.out _ ea ec ea2 ec2 (((HR.out.2.2.1.kept (Kept.alloc _ _ (fun _ => False)) (fun _ _ => id)).kept HR2.out.1 (fun _ _ => id)).kept (Kept.alloc _ _ (fun _ => False)) (fun _ _ => id)) (HR2.out.2.2.kept (Kept.alloc _ _ (fun _ => False)) (fun _ _ => id))).mono ?_; rintro e w3 ⟨rfl, HK3⟩; have HB2 : Hid (Blk w3 w1.heap.size 102 #[.bool up, .int .u64 (hz : Int), .slice wa ns.length wc, .slice ea es.length ec] ∧ Blk w3 w2.heap.size 102 #[.bool up, .int .u64 (hz : Int), .slice wa2 ns.length wc2, .slice ea2 es.length ec2]) := ⟨(HB1.out.kept (Kept.alloc _ _ (fun _ => False)) id).kept HK3.out id, (Blk.new w2 _ _).kept HK3.out id⟩; have HR3 : Hid (Row w3 5 1 (.slice wa ns.length wc) ns.length (ns.flatMap u8C) ∧ Row w3 5 1 (.slice wa2 ns.length wc2) ns.length (ns.flatMap u8C) ∧ Row w3 55 6 (.slice ea es.length ec) es.length (es.flatMap entC) ∧ Kept (fun _ => False) w w3) := ⟨(((HR.out.2.1.kept (Kept.alloc _ _ (fun _ => False)) (fun _ _ => id)).kept HR2.out.1 (fun _ _ => id)).kept (Kept.alloc _ _ (fun _ => False)) (fun _ _ => id)).kept HK3.out (fun _ _ => id), (HR2.out.2.1.kept (Kept.alloc _ _ (fun _ => False)) (fun _ _ => id)).kept HK3.out (fun _ _ => id), (((HR.out.2.2.1.kept (Kept.alloc _ _ (fun _ => False)) (fun _ _ => id)).kept HR2.out.1 (fun _ _ => id)).kept (Kept.alloc _ _ (fun _ => False)) (fun _ _ => id)).kept HK3.out (fun _ _ => id), (((HR.out.1.allocNew _).trans HR2.out.1 (fun _ => id) (fun _ _ => id)).allocNew _).trans HK3.out (fun _ => id) (fun _ _ => id)⟩; have t2 : w3.cell? ⟨w1.heap.size, 2, none⟩ = some (.slice wa ns.length wc) := HB2.out.1.cell 2; have t3 : w3.cell? ⟨w2.heap.size, 2, none⟩ = some (.slice wa2 ns.length wc2) := HB2.out.2.cell 2)
  | (go_at_call 51; refine (H3.out _ wa wc wa2 wc2 HR3.out.1 HR3.out.2.1).mono ?_; rintro e w4 ⟨rfl, HK4⟩; have HB4 : Hid (Blk w4 w1.heap.size 102 #[.bool up, .int .u64 (hz : Int), .slice wa ns.length wc, .slice ea es.length ec] ∧ Blk w4 w2.heap.size 102 #[.bool up, .int .u64 (hz : Int), .slice wa2 ns.length wc2, .slice ea2 es.length ec2]) := ⟨HB2.out.1.kept HK4.out id, HB2.out.2.kept HK4.out id⟩; have HR4 : Hid (Row w4 5 1 (.slice wa ns.length wc) ns.length (ns.flatMap u8C) ∧ Row w4 55 6 (.slice ea es.length ec) es.length (es.flatMap entC) ∧ Kept (fun _ => False) w w4) := ⟨HR3.out.1.kept HK4.out (fun _ _ => id), HR3.out.2.2.1.kept HK4.out (fun _ _ => id), HR3.out.2.2.2.trans HK4.out (fun _ => id) (fun _ _ => id)⟩; have u3 : w4.cell? ⟨w1.heap.size, 3, none⟩ = some (.slice ea es.length ec) := HB4.out.1.cell 3)
 clear r2 r3 t2 t3 q1 q2 o1 o2
 go_region_with (go_at_call 42; refine (H4.out _ ea ec (HR4.out.2.1.kept ((Kept.refl (fun _ => False) _).drewN _) (fun _ _ => id)) (HR4.out.2.2.drewN _)).mono ?_; rintro e w5 ⟨rfl, HE5⟩)
 all_goals
  obtain ⟨v, hg⟩ := HE5.out
  obtain ⟨z1, z2, z3⟩ := H5.out _ _ v ea ec wa wc (HR4.out.2.2.drewN _) (HR4.out.2.1.kept ((Kept.refl (fun _ => False) _).drewN _) (fun _ _ => id)) (HR4.out.1.kept ((Kept.refl (fun _ => False) _).drewN _) (fun _ _ => id)) hg
  have HB5 : Hid (Blk w5 w1.heap.size 102 #[.bool up, .int .u64 (hz : Int), .slice wa ns.length wc, .slice ea es.length ec] ∧ Blk w5 w2.heap.size 102 #[.bool up, .int .u64 (hz : Int), .slice wa2 ns.length wc2, .slice ea2 es.length ec2]) := ⟨z1 _ _ (HB4.out.1.same rfl), z1 _ _ (HB4.out.2.same rfl)⟩
  have v2 : w5.cell? ⟨w1.heap.size, 2, none⟩ = some (.slice wa ns.length wc) := HB5.out.1.cell 2
  have HZ3 : Hid (∀ X, Kept (fun _ => False) w5 X → Calls Tryz.prog 52 #[.pointer (some ⟨pb, 1, none⟩), .slice wa ns.length wc] X fun e w' => e = .returned (.tuple #[]) ∧ Hid (∃ u, GPost shC (fun u => playC vps v b1 u commits most) X pb b2 cn cvals (.slice wa ns.length wc) ns.length u w' ∧ (∀ q C, Blk w5 q 102 C → Blk w' q 102 C))) := z3
  have HW5 : Hid (Row w5 5 1 (.slice wa ns.length wc) ns.length (ns.flatMap u8C)) := z2
  have HG5 : Hid (GPost shE (fun v => playC vps v b1 b2 commits most) (w4.drewN _) pb bv bn vals (.slice ea es.length ec) es.length v w5) := hg
  clear z1 z2 z3 hg HE5 u3
  go_wp2_with fail
  go_region_with (go_at_call 52; refine (HZ3.out _ ((Kept.refl _ _).drewN _)).mono ?_; rintro e w6 ⟨rfl, HE6⟩)
  all_goals
   obtain ⟨u, hg6, hb6⟩ := HE6.out
   have e1 := hb6 _ _ HB5.out.1
   have e2 := hb6 _ _ HB5.out.2
   have x0 : w6.cell? ⟨w1.heap.size, 0, none⟩ = some (.bool up) := e1.cell 0
   have x1 : w6.cell? ⟨w1.heap.size, 1, none⟩ = some (.int .u64 (hz : Int)) := e1.cell 1
   have y0 : w6.cell? ⟨w2.heap.size, 0, none⟩ = some (.bool up) := e2.cell 0
   have y1 : w6.cell? ⟨w2.heap.size, 1, none⟩ = some (.int .u64 (hz : Int)) := e2.cell 1
   have HFIN : Hid (LookPost w pb vps bv b1 b2 commits most bn vals cn cvals w6) := ⟨w4.drewN _, w5.drewN _, v, u, .slice ea es.length ec, .slice wa ns.length wc, es.length, ns.length, es.flatMap entC, ns.flatMap u8C, HLL.out.1, HLL.out.2, HR4.out.2.2.drewN _, HR4.out.2.1.kept ((Kept.refl (fun _ => False) _).drewN _) (fun _ _ => id), HR.out.2.2.2.2, look_drew HG5.out _, HW5.out.kept ((Kept.refl (fun _ => False) _).drewN _) (fun _ _ => id), HR.out.2.2.2.1, hg6⟩
   clear e1 e2 hb6 hg6
   go_wp2
   go_ret
   exact ⟨rt_bool (by simp), HFIN.out⟩
theorem NoteG.ok {w : World} {i : Nat} {e : NoteE} (h : NoteG shE w i e) : NoteOk w i e := ⟨h.blk, h.mark, h.small⟩
end Go.Proofs.YtpfcacedpkaihaaGreat
