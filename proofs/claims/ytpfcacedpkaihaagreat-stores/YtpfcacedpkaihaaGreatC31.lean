import Derived.Test.YtpfcacedpkaihaaGreatC30
import Derived.Deep.DeepCutAuto
import Derived.Deep.RegionHeld3
import Derived.Test.YtpfcacedpkaihaaGreatC4
import Derived.Deep.RegionWith
import Derived.Test.YtpfcacedpkaihaaGreatC0
namespace Go.Proofs.YtpfcacedpkaihaaGreat
open Go.RowKit
set_option maxRecDepth 100000
set_option maxHeartbeats 16000000
def StillPost (w : World) (g : Nat) (e : Ending) (w' : World) : Prop := e = .returned (.bool true) ∧ Kept (fun x => x = g) w w'
structure Left (w wr : World) (g k : Nat) (xs : List (Int × Int)) : Prop where
 kept : Kept (fun x => x = g) w wr
 cell : ∀ j (h : j < xs.length), k ≤ j → wr.cell? ⟨g, j * 2, none⟩ = some (.int .i64 xs[j].1) ∧ wr.cell? ⟨g, j * 2 + 1, none⟩ = some (.int .i32 xs[j].2)
 free : ∀ o, wr.frozen? ⟨g, o, none⟩ = false
 lt : g < w.heap.size
theorem Left.next {w wr : World} {g k : Nat} {xs : List (Int × Int)} (h : Left w wr g k xs) (o : Obj) (a c : Value) (n : Nat) : Left w ((((wr.alloc o).drewN n).setCell ⟨g, k * 2, none⟩ a).setCell ⟨g, k * 2 + 1, none⟩ c) g (k + 1) xs := by
 have hlt : g < wr.heap.size := Nat.lt_of_lt_of_le h.lt h.kept.size
 refine ⟨((((h.kept.trans (Kept.alloc wr o (fun _ => False)) (fun _ => id) (fun _ _ => False.elim)).drewN n).trans (Kept.setCell _ ⟨g, k * 2, none⟩ a) (fun _ => id) (fun _ _ => id)).trans (Kept.setCell _ ⟨g, k * 2 + 1, none⟩ c) (fun _ => id) (fun _ _ => id)), fun j hj hk => ?_, fun q => ?_, h.lt⟩
 · obtain ⟨c0, c1⟩ := h.cell j hj (by omega)
  have e1 : (⟨g, k * 2, none⟩ : Addr) ≠ ⟨g, j * 2, none⟩ := by intro e; injection e with _ e _; omega
  have e2 : (⟨g, k * 2 + 1, none⟩ : Addr) ≠ ⟨g, j * 2, none⟩ := by intro e; injection e with _ e _; omega
  have e3 : (⟨g, k * 2, none⟩ : Addr) ≠ ⟨g, j * 2 + 1, none⟩ := by intro e; injection e with _ e _; omega
  have e4 : (⟨g, k * 2 + 1, none⟩ : Addr) ≠ ⟨g, j * 2 + 1, none⟩ := by intro e; injection e with _ e _; omega
  have d0 : ((wr.alloc o).drewN n).cell? ⟨g, j * 2, none⟩ = some (.int .i64 xs[j].1) := (World.cell?_alloc_past o g (j * 2) hlt).trans c0
  have d1 : ((wr.alloc o).drewN n).cell? ⟨g, j * 2 + 1, none⟩ = some (.int .i32 xs[j].2) := (World.cell?_alloc_past o g (j * 2 + 1) hlt).trans c1
  constructor
  · rw [World.cell?_setCell_other _ _ _ _ e2, World.cell?_setCell_other _ _ _ _ e1]; exact d0
  · rw [World.cell?_setCell_other _ _ _ _ e4, World.cell?_setCell_other _ _ _ _ e3]; exact d1
 · rw [World.frozen?_setCell, World.frozen?_setCell]
  exact (World.frozen?_alloc_past o g q hlt).trans (h.free q)
theorem still_any (w : World) (g n cap : Nat) (ao : Option Addr) (cl : Nat) (ws : List (Int × Int)) (hw : Wr w ao n ws) (hne : 0 < n → ∀ a, ao = some a → a.block ≠ g) (hc : n + 2 ≤ cap) (hcm : cap ≤ maxLen) (hL : Left w w g 0 (ws ++ [farW, farW])) :
  Calls Tryz.prog 30 #[.slice (some ⟨g, 0, none⟩) n cap, .slice ao n cl] w fun e w' => StillPost w g e w' := by
 unfold maxLen at hcm
 have HW : Hid (Wr w ao n ws) := hw
 have HNE : Hid (0 < n → ∀ a, ao = some a → a.block ≠ g) := hne
 have HL0 : Hid (Left w w g 0 (ws ++ [farW, farW])) := hL
 have hl := hw.len
 clear hw hne hL
 go_enter Tryz.func30, Tryz.ntmps30
 go_wp2
 go_loopw [6, 7] (fun ok i wr => ∃ k : Nat, k ≤ n + 2 ∧ i = .int .i64 k ∧ ok = .bool true ∧ Hid (Left w wr g k (ws ++ [farW, farW]))) (fun _ i _ => n + 2 - (intOf i).toNat)
 case atStart => exact ⟨0, Nat.zero_le _, rfl, rfl, HL0⟩
 case round =>
  obtain ⟨k, hk, rfl, rfl, HL⟩ := hrel
  by_cases hlt : k < n + 2
  · have hlx : k < (ws ++ [farW, farW]).length := by simp; omega
   obtain ⟨c0, c1⟩ := HL.out.cell k hlx (Nat.le_refl _)
   have f0 := HL.out.free (k * 2)
   have f1 := HL.out.free (k * 2 + 1)
   have hgz : g < wr.heap.size := Nat.lt_of_lt_of_le HL.out.lt HL.out.kept.size
   by_cases hin : k < n
   · have hlt' : k < ws.length := by omega
    obtain ⟨bl, off, hao, z0, z1⟩ := HW.out.cell k hlt'
    have hbl : bl < w.heap.size := World.block_lt_of_cell? w _ z0
    have hbg : bl ≠ g := HNE.out (by omega) _ hao
    have hbb := HL.out.kept.block bl hbl hbg
    have y0 := (World.cell?_of_block (a := ⟨bl, off + k * 2, none⟩) hbb).trans z0
    have y1 := (World.cell?_of_block (a := ⟨bl, off + k * 2 + 1, none⟩) hbb).trans z1
    have hbz : bl < wr.heap.size := Nat.lt_of_lt_of_le hbl HL.out.kept.size
    obtain ⟨x, hx⟩ : ∃ x, x = ws[k].1 := ⟨_, rfl⟩
    obtain ⟨y, hy⟩ : ∃ y, y = ws[k].2 := ⟨_, rfl⟩
    have e : (ws ++ [farW, farW])[k] = ws[k] := List.getElem_append_left hlt'
    rw [e, ← hx] at c0
    rw [e, ← hy] at c1
    rw [← hx] at y0
    rw [← hy] at y1
    clear hbb z0 z1 hx hy e
    subst hao
    go_wp2_with fail
    go_quiet (fail)
    go_wp2
    go_roundw
    case rel => exact ⟨k + 1, by omega, by go_num, rfl, HL.out.next _ _ _ _⟩
    case measure => simp [intOf]; omega
   · have e : (ws ++ [farW, farW])[k] = farW := by
     rw [List.getElem_append_right (by omega)]
     have hc2 : k - ws.length = 0 ∨ k - ws.length = 1 := by omega
     rcases hc2 with h | h <;> simp [h]
    rw [e] at c0 c1
    have c0' : wr.cell? ⟨g, k * 2, none⟩ = some (.int .i64 (-77)) := c0
    have c1' : wr.cell? ⟨g, k * 2 + 1, none⟩ = some (.int .i32 0) := c1
    clear c0 c1 e
    go_wp2_with fail
    go_quiet (fail)
    go_wp2
    go_roundw
    case rel => exact ⟨k + 1, by omega, by go_num, rfl, HL.out.next _ _ _ _⟩
    case measure => simp [intOf]; omega
  · go_wp2
   go_ret
   exact ⟨rfl, HL.out.kept⟩
theorem roomy_use {w1 : World} {g cap n : Nat} {ws : List (Int × Int)} (hl : ws.length = n) (h : Row w1 152 2 (.slice (some ⟨g, 0, none⟩) (n + 2) cap) (n + 2) ((ws ++ [farW, farW]).flatMap wrC)) :
  Wr w1 (some ⟨g, 0, none⟩) n ws ∧ Left w1 w1 g 0 (ws ++ [farW, farW]) ∧ cap ≤ maxLen := by
 have hcell : ∀ j (hj : j < (ws ++ [farW, farW]).length), w1.cell? ⟨g, j * 2, none⟩ = some (.int .i64 (ws ++ [farW, farW])[j].1) ∧ w1.cell? ⟨g, j * 2 + 1, none⟩ = some (.int .i32 (ws ++ [farW, farW])[j].2) := by
  intro j hj
  refine ⟨h.cell rfl (j * 2) _ ?_, h.cell rfl (j * 2 + 1) _ ?_⟩
  · have := flat_at wrC 2 (fun _ => rfl) (ws ++ [farW, farW]) j hj 0 (by omega)
   rw [Nat.add_zero] at this
   rw [this]; rfl
  · rw [flat_at wrC 2 (fun _ => rfl) (ws ++ [farW, farW]) j hj 1 (by omega)]; rfl
 have hblk : ∃ cur, Blk w1 g 152 cur ∧ cap ≤ maxLen := by
  rcases h.shape with ⟨e, _⟩ | ⟨g', cap', cur, e, hb, _, hm, _⟩
  · cases e
  · injection e with e1 _ e2
   injection e1 with e1
   injection e1 with e1 _ _
   subst e1 e2
   exact ⟨cur, hb, hm⟩
 obtain ⟨cur, hb, hm⟩ := hblk
 refine ⟨⟨hl, fun j hj => ⟨g, 0, rfl, ?_⟩⟩, ⟨Kept.refl _ _, fun j hj _ => hcell j hj, fun o => hb.free o, hb.lt⟩, hm⟩
 have hj' : j < (ws ++ [farW, farW]).length := by simp; omega
 have e : (ws ++ [farW, farW])[j] = ws[j] := List.getElem_append_left hj
 have := hcell j hj'
 rw [e] at this
 simpa using this
theorem Left.kept' {w1 w3 : World} {g : Nat} {xs : List (Int × Int)} {F : Nat → Prop} (h : Left w1 w1 g 0 xs) (k : Kept F w1 w3) (hF : ¬ F g) : Left w3 w3 g 0 xs := by
 have hb := k.block g h.lt hF
 refine ⟨Kept.refl _ _, fun j hj _ => ?_, fun o => ?_, Nat.lt_of_lt_of_le h.lt k.size⟩
 · obtain ⟨c0, c1⟩ := h.cell j hj (Nat.zero_le _)
  exact ⟨(World.cell?_of_block (a := ⟨g, j * 2, none⟩) hb).trans c0, (World.cell?_of_block (a := ⟨g, j * 2 + 1, none⟩) hb).trans c1⟩
 · exact (World.frozen?_of_block (a := ⟨g, o, none⟩) hb).trans (h.free o)
theorem roomy_any (w : World) (ao : Option Addr) (n cap : Nat) (ws : List (Int × Int)) (hw : Wr w ao n ws) (hreach : n * 16 ≤ 140737488351232) (hno : ao = none → n = 0 ∧ cap = 0) :
  Calls Tryz.prog 27 #[.slice ao n cap] w fun e w' => RoomyPost w n ws e w' := by
 cases ao with
 | some a => exact roomy_some w a n cap ws hw hreach
 | none =>
  obtain ⟨rfl, rfl⟩ := hno rfl
  have : ws = [] := List.eq_nil_of_length_eq_zero hw.len
  subst this
  exact roomy_none w
def playC (vps : Value) (a b c : Value) (commits most : Int) : Array Value := #[vps, a, b, c, .int .i64 commits, .int .i64 most]
def LCommitPost (w : World) (pb xb cb : Nat) (D : DevS) (R : RefS) (vps b0 b1 b2 : Value) (commits most : Int) (e : Ending) (w' : World) : Prop :=
 e = .returned (.bool true) ∧ Blk w' pb 34 (playC vps b0 b1 b2 (commits + 1) most) ∧
  ∃ D' R', Pair w' xb cb D' R' ∧ Kept (fun k => k = pb ∨ pfp xb cb D R k) w w' ∧ (∀ k, pfp xb cb D' R' k → pfp xb cb D R k ∨ w.heap.size ≤ k) ∧ R'.uses.length ≤ R.uses.length + 1
theorem LCommitPost.mk' {w wc w' : World} {pb xb cb : Nat} {D : DevS} {R : RefS} {vps b0 b1 b2 : Value} {commits most : Int} (hpb : ¬ pfp xb cb D R pb)
  (k0 : Kept (fun k => k = pb) w wc) (hb : Blk wc pb 34 (playC vps b0 b1 b2 (commits + 1) most)) (h : Turned wc w' xb cb D R) :
  LCommitPost w pb xb cb D R vps b0 b1 b2 commits most (.returned (.bool true)) w' := by
 obtain ⟨D', R', hp, hk, hf, hu⟩ := h
 exact ⟨rfl, hb.kept hk hpb, D', R', hp, k0.trans hk (fun _ => .inl) (fun _ _ => .inr), fun k hk => (hf k hk).imp id fun x => Nat.le_trans k0.size x, hu⟩
theorem Tryz.infoNotes : (Tryz.prog.info? 49).map (fun i => (i.zero, i.size, i.bytes)) = some (some (.slice none 0 0), 1, 24) := by kernel_rfl
def OwnL (lV : Value) (n : Nat) (g : Nat) : Prop := lV.ownBlock = some g ∨ n ≤ g
theorem four_of {w0 w : World} {lo : Option Addr} {m lc i zb : Nat} {xs : List Value} {x : Value} (hS : SE w0 lo m lc i zb xs w) (hN : IsN w0 lo m lc w x) (hz : (Value.slice lo m lc).ownBlock ≠ some zb) (hzb : zb < w0.heap.size) :
  ∃ (N : Nat) (ad : Nat → Option Addr) (cp : Nat → Nat), x = .slice (some ⟨N, 0, none⟩) 4 4 ∧ w0.heap.size ≤ N ∧ Blk w N 51 (fourC m ad cp) ∧ Four w zb m ad (OwnL (.slice lo m lc) w0.heap.size) ∧ ad 0 = lo := by
 obtain ⟨N, a1, a2, a3, e, hNs, hb, ⟨g1, c1, e1, r1⟩, ⟨g2, c2, e2, r2⟩, ⟨g3, c3, e3, r3⟩⟩ := hN
 subst e1 e2 e3
 refine ⟨N, fun k => if k = 0 then lo else if k = 1 then some ⟨g1, 0, none⟩ else if k = 2 then some ⟨g2, 0, none⟩ else some ⟨g3, 0, none⟩, fun k => if k = 0 then lc else if k = 1 then c1 else if k = 2 then c2 else c3, e, hNs, hb, ⟨fun k hk h0 => ?_⟩, rfl⟩
 have lrow : ∀ g q, lo = some ⟨g, 0, none⟩ → q ≤ lc → OwnL (.slice lo m lc) w0.heap.size g ∧ g ≠ zb ∧ ∃ c, Blk w g 55 c ∧ q * 6 ≤ c.size := by
  intro g q hg hq
  subst hg
  refine ⟨.inl rfl, fun e => hz (by rw [← e]; rfl), ?_⟩
  rcases hS.row.shape with ⟨e, _⟩ | ⟨g', cap, cur, e, hb', _, _, hs, _⟩
  · cases e
  · injection e with q1 _ q2
   injection q1 with q1
   injection q1 with q1 _ _
   subst q1 q2
   exact ⟨cur, hb', by rw [hs]; exact Nat.mul_le_mul_right _ hq⟩
 have use : ∀ q g, ((lo = some ⟨g, 0, none⟩ ∧ m + q ≤ lc) ∨ (w0.heap.size ≤ g ∧ ∃ c, Blk w g 55 c ∧ (m + q) * 6 ≤ c.size)) → OwnL (.slice lo m lc) w0.heap.size g ∧ g ≠ zb ∧ ∃ c, Blk w g 55 c ∧ (m + q) * 6 ≤ c.size := by
  rintro q g (⟨h1, h2⟩ | ⟨h1, h2⟩)
  · exact lrow g (m + q) h1 h2
  · exact ⟨.inr h1, by omega, h2⟩
 have hk4 : k = 0 ∨ k = 1 ∨ k = 2 ∨ k = 3 := by omega
 rcases hk4 with rfl | rfl | rfl | rfl
 · obtain ⟨g, cap, hv, _, _⟩ := hS.row.block (by omega)
  injection hv with q1 _ q2
  have hml : m ≤ lc := by
   rcases hS.row.shape with ⟨_, h, _⟩ | ⟨_, cap', _, e', _, hc, _⟩
   · omega
   · injection e' with _ _ q3; omega
  exact ⟨g, q1, lrow g (m + 0) q1 hml⟩
 · exact ⟨g1, rfl, use 1 g1 r1⟩
 · exact ⟨g2, rfl, use 2 g2 r2⟩
 · exact ⟨g3, rfl, use 3 g3 r3⟩
def OwnE (ad : Nat → Option Addr) (m : Nat) (b : Nat) : Prop := ∃ k, k < 4 ∧ 0 < m + k ∧ ad k = some ⟨b, 0, none⟩
structure Over (B : Nat) (w0 wr : World) (lV : Value) (N zb m bn : Nat) (ad : Nat → Option Addr) (cp : Nat → Nat) (q j : Nat) : Prop where
 kept : Kept (OwnE ad m) w0 wr
 four : Four wr zb m ad (OwnL lV B)
 own : ∀ b, OwnE ad m b → OwnL lV B b ∧ b ≠ zb ∧ b ≠ N
 nb : Blk wr N 51 (fourC m ad cp)
 z : Blk wr zb 55 (markE bn)
 done : ∀ k, k < 4 → ∀ t, t < m + k → (k < q ∨ (k = q ∧ t < j)) → ∃ g, ad k = some ⟨g, 0, none⟩ ∧ Mk bn wr g t
theorem Over.next {B : Nat} {w0 wr W' : World} {lV : Value} {N zb m bn : Nat} {ad : Nat → Option Addr} {cp : Nat → Nat} {q j g : Nat} {c : Array Value} (h : Over B w0 wr lV N zb m bn ad cp q j) (hq : q < 4) (hj : j < m + q) (hg : ad q = some ⟨g, 0, none⟩) (hb : Blk wr g 55 c) (hs : (m + q) * 6 ≤ c.size)
  (hW : W'.heap = (st6 wr g (j * 6) (.string mq) (.int .i32 0) (.int .u64 0) (.int .u64 (bn : Int)) (.bool false) (.int .u64 0)).heap) (h1 : W'.os = wr.os) (h2 : W'.tape = wr.tape) (h3 : W'.output = wr.output) : Over B w0 W' lV N zb m bn ad cp q (j + 1) := by
 have hs' : (j + 1) * 6 ≤ c.size := Nat.le_trans (Nat.mul_le_mul_right 6 hj) hs
 obtain ⟨k0, m1, m2, c', b', e'⟩ := mk_store (i := bn) hb hs' _ rfl
 have kk : Kept (fun k => k = g) wr W' := ⟨h1, h2, h3, by rw [hW]; exact k0.size, fun i hi hn => by rw [hW]; exact k0.block i hi hn⟩
 have ho : OwnE ad m g := ⟨q, hq, by omega, hg⟩
 obtain ⟨_, o2, o3⟩ := h.own g ho
 refine ⟨h.kept.trans kk (fun _ => id) (fun b _ e => e ▸ ho), h.four.keep fun g' d hd => ?_, h.own, h.nb.kept kk fun e => o3 e.symm, h.z.kept kk fun e => o2 e.symm, fun k hk t ht hd => ?_⟩
 · by_cases e : g' = g
  · subst e
   obtain ⟨_, rfl⟩ := hb.type hd
   exact ⟨c', b'.same (by rw [hW]), by omega⟩
  · exact ⟨d, hd.kept kk e, Nat.le_refl _⟩
 · by_cases e : k = q ∧ t = j
  · obtain ⟨rfl, rfl⟩ := e
   exact ⟨g, hg, m1.same (by rw [hW])⟩
  · obtain ⟨g', e1, e2⟩ := h.done k hk t ht (by omega)
   exact ⟨g', e1, (m2 g' t e2).same (by rw [hW])⟩
theorem drew_heap (w : World) : w.drew.heap = w.heap := rfl
theorem drew_os (w : World) : w.drew.os = w.os := rfl
theorem drew_tape (w : World) : w.drew.tape = w.tape := rfl
theorem drew_out (w : World) : w.drew.output = w.output := rfl
theorem Over.step {B : Nat} {w0 wr : World} {lV : Value} {N zb m bn : Nat} {ad : Nat → Option Addr} {cp : Nat → Nat} {q j g : Nat} {c : Array Value} (h : Over B w0 wr lV N zb m bn ad cp q j) (hq : q < 4) (hj : j < m + q) (hg : ad q = some ⟨g, 0, none⟩) (hb : Blk wr g 55 c) (hs : (m + q) * 6 ≤ c.size) :
  Over B w0 (st6 wr g (j * 6) (.string mq) (.int .i32 0) (.int .u64 0) (.int .u64 (bn : Int)) (.bool false) (.int .u64 0)).drew lV N zb m bn ad cp q (j + 1) :=
 h.next (W' := (st6 wr g (j * 6) (.string mq) (.int .i32 0) (.int .u64 0) (.int .u64 (bn : Int)) (.bool false) (.int .u64 0)).drew) hq hj hg hb hs (drew_heap _) ((drew_os _).trans (st6_kept ..).os) ((drew_tape _).trans (st6_kept ..).tape) ((drew_out _).trans (st6_kept ..).output)
theorem Over.turn {B : Nat} {w0 wr : World} {lV : Value} {N zb m bn : Nat} {ad : Nat → Option Addr} {cp : Nat → Nat} {q : Nat} (h : Over B w0 wr lV N zb m bn ad cp q (m + q)) : Over B w0 wr lV N zb m bn ad cp (q + 1) 0 := by
 refine ⟨h.kept, h.four, h.own, h.nb, h.z, fun k hk t ht hd => h.done k hk t ht ?_⟩
 rcases hd with hd | hd
 · by_cases e : k = q
  · subst e; exact .inr ⟨rfl, ht⟩
  · exact .inl (by omega)
 · omega
theorem oneCell_slice (a : Option Addr) (n c : Nat) : ∀ u ∈ [Value.slice a n c], u.oneCell' = true := by
 intro u hu; simp at hu; subst hu; rfl
theorem cell_one_new (w : World) (a : Value) (t : TypeId) : ∀ j u, [a][j]? = some u → (w.alloc (.cells #[a] t)).cell? ((⟨w.heap.size, 0, none⟩ : Addr).add j) = some u := by
 intro j u hj
 match j, hj with
 | 0, hj => simp at hj; subst hj; simp [Addr.add]
 | j + 1, hj => simp at hj
def EPost (w : World) (pb : Nat) (vps bv b1 b2 : Value) (commits most : Int) (bn : Nat) (vals : List Value) (lV : Value) (m : Nat) (e : Ending) (w' : World) : Prop :=
 e = .returned (.tuple #[]) ∧ ∃ (N : Nat) (ad : Nat → Option Addr) (cp : Nat → Nat) (v : Value), Blk w' N 51 (fourC m ad cp) ∧ w.heap.size ≤ N ∧
  (∀ k, k < 4 → ∀ t, t < m + k → ∃ g, ad k = some ⟨g, 0, none⟩ ∧ OwnL lV w.heap.size g ∧ Mk bn w' g t) ∧
  Row w' 49 1 v (bn + 1) (vals ++ [.slice (some ⟨N, 0, none⟩) 4 4]) ∧ Blk w' pb 34 (playC vps v b1 b2 commits most) ∧
  Kept (fun k => k = pb ∨ bv.ownBlock = some k ∨ lV.ownBlock = some k) w w' ∧ (∀ k, v.ownBlock = some k → bv.ownBlock = some k ∨ w.heap.size ≤ k)
theorem lentries (w : World) (pb : Nat) (vps bv b1 b2 : Value) (commits most : Int) (bn : Nat) (vals : List Value) (lo : Option Addr) (m lc : Nat) (xs : List Value) (hblk : Blk w pb 34 (playC vps bv b1 b2 commits most)) (hbv : Row w 49 1 bv bn vals) (hbn : (bn + 1) * 24 ≤ 140737488355328) (hl : Row w 55 6 (.slice lo m lc) m xs) (hm : m ≤ 1000000) :
  Calls Tryz.prog 42 #[.pointer (some ⟨pb, 1, none⟩), .slice lo m lc] w fun e w' => EPost w pb vps bv b1 b2 commits most bn vals (.slice lo m lc) m e w' := by
 obtain ⟨ba, bc, hbf, _⟩ := hbv.form
 subst hbf
 have hb : w.cell? ⟨pb, 1, none⟩ = some (.slice ba bn bc) := hblk.cell 1
 have HB : Hid (Blk w pb 34 (playC vps (.slice ba bn bc) b1 b2 commits most)) := hblk
 have HBV : Hid (Row w 49 1 (.slice ba bn bc) bn vals) := hbv
 have HNB : Hid (∀ k, (Value.slice lo m lc).ownBlock = some k → k ≠ pb ∧ (Value.slice ba bn bc).ownBlock ≠ some k) := fun k hk => ⟨fun e => hl.ne_block hblk (by decide) (by rw [← e]; exact hk), fun e => hl.ne_row hbv (by decide) k hk e⟩
 have hpl := hblk.lt
 clear hblk hbv
 have H0 : Hid (∀ W, Calls Tryz.prog 19 #[.int .i64 (bn : Int)] W fun e w' => e = .returned (.agg #[.string mq, .int .i32 0, .int .u64 0, .int .u64 (bn : Int), .bool false, .int .u64 0]) ∧ Kept (fun _ => False) W w') := fun W => rentryMark W bn (by omega)
 have HL : Hid (Row w 55 6 (.slice lo m lc) m xs) := hl
 clear hl
 go_enter Tryz.func42, Tryz.ntmps42
 go_wp2_with (go_at_call 19; refine (H0.out _).mono ?_; rintro e w1 ⟨rfl, hk1⟩)
 obtain ⟨W, hW⟩ : ∃ W, W = w1.alloc (.cells #[.string mq, .int .i32 0, .int .u64 0, .int .u64 (bn : Int), .bool false, .int .u64 0] 55) := ⟨_, rfl⟩
 have kW : Kept (fun _ => False) w W := by rw [hW]; exact hk1.allocNew _
 have zW : Blk W w1.heap.size 55 (markE bn) := by rw [hW]; exact Blk.new _ _ _
 have hzb : w1.heap.size < W.heap.size := by rw [hW]; simp
 have hws := hk1.size
 rw [← hW]
 have HKW : Hid (Kept (fun _ => False) w W) := kW
 have HZW : Hid (Blk W w1.heap.size 55 (markE bn)) := zW
 have hlt : ∀ k, (Value.slice lo m lc).ownBlock = some k → k < w.heap.size := HL.out.lt
 have HLT : Hid (∀ k, (Value.slice lo m lc).ownBlock = some k → k < w.heap.size) := hlt
 clear hW kW zW hk1 hlt
 generalize w1.heap.size = zb at *
 have HSE : Hid (SE W lo m lc bn zb xs W) := ⟨Kept.refl _ _, HL.out.kept HKW.out (fun _ _ => id), HZW.out⟩
 have HNZ : Hid ((Value.slice lo m lc).ownBlock ≠ some zb) := fun e => by have := HLT.out _ e; omega
 go_cut [5] (fun v wx => Hid (SE W lo m lc bn zb xs wx ∧ IsN W lo m lc wx v))
 case first =>
  refine wp_region_any (by kernel_rfl) ?_
  refine entries_region (w0 := W) (lo := lo) (m := m) (lc := lc) (i := bn) (zb := zb) (xs := xs) (fun k hk => Nat.lt_of_lt_of_le (HLT.out k hk) HKW.out.size) HNZ.out hm rfl rfl rfl rfl ⟨HSE.out.kept.drewN 1, HSE.out.row.same (fun _ _ => rfl), HSE.out.z.same rfl⟩ fun a w' s1 s2 s3 s4 s5 => ?_
  obtain ⟨tm, df⟩ := a
  try dsimp only at s1 s2 s3 s5
  subst s2
  obtain ⟨x0, x1, x2, x3, x4, x5, x6, x7, x8, x9, x10, x11, x12, x13, x14, x15, x16, x17, x18, x19, x20, x21, x22, x23, x24, x25, x26, x27, x28, x29, x30, x31, x32, x33, x34, x35, x36, x37, x38, x39, x40, x41, x42, x43, x44, x45, x46, x47, x48, x49, x50, x51, x52, x53, x54, x55, x56, x57, x58, x59, x60, x61, x62, hx⟩ := array63 s1
  subst hx
  clear s1
  have e0 : x0 = _ := s3 0 (by omega)
  try dsimp at e0
  subst e0
  have e1 : x1 = _ := s3 1 (by omega)
  try dsimp at e1
  subst e1
  have e2 : x2 = _ := s3 2 (by omega)
  try dsimp at e2
  subst e2
  have e3 : x3 = _ := s3 3 (by omega)
  try dsimp at e3
  subst e3
  have e4 : x4 = _ := s3 4 (by omega)
  try dsimp at e4
  subst e4
  have e6 : x6 = _ := s3 6 (by omega)
  try dsimp at e6
  subst e6
  have e7 : x7 = _ := s3 7 (by omega)
  try dsimp at e7
  subst e7
  have e8 : x8 = _ := s3 8 (by omega)
  try dsimp at e8
  subst e8
  have e9 : x9 = _ := s3 9 (by omega)
  try dsimp at e9
  subst e9
  have e10 : x10 = _ := s3 10 (by omega)
  try dsimp at e10
  subst e10
  have e11 : x11 = _ := s3 11 (by omega)
  try dsimp at e11
  subst e11
  have e12 : x12 = _ := s3 12 (by omega)
  try dsimp at e12
  subst e12
  have e13 : x13 = _ := s3 13 (by omega)
  try dsimp at e13
  subst e13
  have e31 : x31 = _ := s3 31 (by omega)
  try dsimp at e31
  subst e31
  have e32 : x32 = _ := s3 32 (by omega)
  try dsimp at e32
  subst e32
  have e33 : x33 = _ := s3 33 (by omega)
  try dsimp at e33
  subst e33
  have e34 : x34 = _ := s3 34 (by omega)
  try dsimp at e34
  subst e34
  have e35 : x35 = _ := s3 35 (by omega)
  try dsimp at e35
  subst e35
  have e36 : x36 = _ := s3 36 (by omega)
  try dsimp at e36
  subst e36
  have e37 : x37 = _ := s3 37 (by omega)
  try dsimp at e37
  subst e37
  have e38 : x38 = _ := s3 38 (by omega)
  try dsimp at e38
  subst e38
  have e39 : x39 = _ := s3 39 (by omega)
  try dsimp at e39
  subst e39
  have e40 : x40 = _ := s3 40 (by omega)
  try dsimp at e40
  subst e40
  have e41 : x41 = _ := s3 41 (by omega)
  try dsimp at e41
  subst e41
  have e42 : x42 = _ := s3 42 (by omega)
  try dsimp at e42
  subst e42
  have e43 : x43 = _ := s3 43 (by omega)
  try dsimp at e43
  subst e43
  have e44 : x44 = _ := s3 44 (by omega)
  try dsimp at e44
  subst e44
  have e45 : x45 = _ := s3 45 (by omega)
  try dsimp at e45
  subst e45
  have e46 : x46 = _ := s3 46 (by omega)
  try dsimp at e46
  subst e46
  have e47 : x47 = _ := s3 47 (by omega)
  try dsimp at e47
  subst e47
  have e48 : x48 = _ := s3 48 (by omega)
  try dsimp at e48
  subst e48
  have e49 : x49 = _ := s3 49 (by omega)
  try dsimp at e49
  subst e49
  have e50 : x50 = _ := s3 50 (by omega)
  try dsimp at e50
  subst e50
  have e51 : x51 = _ := s3 51 (by omega)
  try dsimp at e51
  subst e51
  have e52 : x52 = _ := s3 52 (by omega)
  try dsimp at e52
  subst e52
  have e53 : x53 = _ := s3 53 (by omega)
  try dsimp at e53
  subst e53
  have e54 : x54 = _ := s3 54 (by omega)
  try dsimp at e54
  subst e54
  have e55 : x55 = _ := s3 55 (by omega)
  try dsimp at e55
  subst e55
  have e56 : x56 = _ := s3 56 (by omega)
  try dsimp at e56
  subst e56
  have e57 : x57 = _ := s3 57 (by omega)
  try dsimp at e57
  subst e57
  have e58 : x58 = _ := s3 58 (by omega)
  try dsimp at e58
  subst e58
  have e59 : x59 = _ := s3 59 (by omega)
  try dsimp at e59
  subst e59
  have e60 : x60 = _ := s3 60 (by omega)
  try dsimp at e60
  subst e60
  have e61 : x61 = _ := s3 61 (by omega)
  try dsimp at e61
  subst e61
  have e62 : x62 = _ := s3 62 (by omega)
  try dsimp at e62
  subst e62
  have HS5 : Hid (SE W lo m lc bn zb xs w' ∧ IsN W lo m lc w' x5) := ⟨s4, s5⟩
  clear s3 s4 s5
  go_wp2
  go_meet
  case rel => exact HS5
 case rest =>
  obtain ⟨hS, hN⟩ := hcut.out
  obtain ⟨N, ad, cp, e5, hNs, hNb, hF, _⟩ := four_of hS hN HNZ.out hzb
  subst e5
  have hown : ∀ b, OwnE ad m b → OwnL (.slice lo m lc) W.heap.size b ∧ b ≠ zb ∧ b ≠ N := by
   rintro b ⟨k, hk, h0, e⟩
   obtain ⟨g, h1, h2, h3, c, h4, _⟩ := hF.room k hk h0
   rw [e] at h1
   injection h1 with h1
   injection h1 with h1 _ _
   subst h1
   refine ⟨h2, h3, fun e => ?_⟩
   subst e
   exact absurd (h4.type hNb).1 (by decide)
  have HOV : Hid (Over W.heap.size wc wc (.slice lo m lc) N zb m bn ad cp 0 0) := ⟨Kept.refl _ _, hF, hown, hNb, hS.z, fun k _ t _ hd => by omega⟩
  have HSC : Hid (SE W lo m lc bn zb xs wc) := hS
  clear hS hN hNb hF hown hcut
  go_wp2
  go_loopw [6] (fun k wr => ∃ q : Nat, q ≤ 4 ∧ k = .int .i64 q ∧ Hid (Over W.heap.size wc wr (.slice lo m lc) N zb m bn ad cp q 0)) (fun k _ => 4 - (intOf k).toNat)
  case atStart => exact ⟨0, by omega, rfl, HOV⟩
  case round =>
   obtain ⟨q, hq, rfl, HO⟩ := hrel
   by_cases hq4 : q < 4
   · have hq0 : (0 : Int) ≤ (q : Int) := by omega
    have hq1 : (q : Int) < 4 := by omega
    go_wp2
    go_loopw [7] (fun j wy => ∃ t : Nat, t ≤ m + q ∧ j = .int .i64 t ∧ Hid (Over W.heap.size wc wy (.slice lo m lc) N zb m bn ad cp q t)) (fun j _ => m + q - (intOf j).toNat)
    case atStart => exact ⟨0, Nat.zero_le _, rfl, HO⟩
    case round =>
     obtain ⟨t, ht, rfl, HO2⟩ := hrel
     have nq : wr.cell? ⟨N, q, none⟩ = some (.slice (ad q) (m + q) (cp q)) := by rw [HO2.out.nb.cell]; exact four_at m ad cp q hq4
     by_cases htm : t < m + q
     · obtain ⟨g, hg, _, hgz, c, hbc, hcs⟩ := HO2.out.four.room q hq4 (by omega)
      have hcs' : (t + 1) * 6 ≤ c.size := Nat.le_trans (Nat.mul_le_mul_right 6 htm) hcs
      have c0 : wr.cell? ⟨g, t * 6, none⟩ = some c[t * 6] := by rw [hbc.cell]; exact Array.getElem?_eq_getElem (by omega)
      have c1 : wr.cell? ⟨g, t * 6 + 1, none⟩ = some c[t * 6 + 1] := by rw [hbc.cell]; exact Array.getElem?_eq_getElem (by omega)
      have c2 : wr.cell? ⟨g, t * 6 + 2, none⟩ = some c[t * 6 + 2] := by rw [hbc.cell]; exact Array.getElem?_eq_getElem (by omega)
      have c3 : wr.cell? ⟨g, t * 6 + 3, none⟩ = some c[t * 6 + 3] := by rw [hbc.cell]; exact Array.getElem?_eq_getElem (by omega)
      have c4 : wr.cell? ⟨g, t * 6 + 4, none⟩ = some c[t * 6 + 4] := by rw [hbc.cell]; exact Array.getElem?_eq_getElem (by omega)
      have c5 : wr.cell? ⟨g, t * 6 + 5, none⟩ = some c[t * 6 + 5] := by rw [hbc.cell]; exact Array.getElem?_eq_getElem (by omega)
      generalize c[t * 6] = y0 at c0
      generalize c[t * 6 + 1] = y1 at c1
      generalize c[t * 6 + 2] = y2 at c2
      generalize c[t * 6 + 3] = y3 at c3
      generalize c[t * 6 + 4] = y4 at c4
      generalize c[t * 6 + 5] = y5 at c5
      have f0 := hbc.free (t * 6)
      have f1 := hbc.free (t * 6 + 1)
      have f2 := hbc.free (t * 6 + 2)
      have f3 := hbc.free (t * 6 + 3)
      have f4 := hbc.free (t * 6 + 4)
      have f5 := hbc.free (t * 6 + 5)
      have z0 : wr.cell? ⟨zb, 0, none⟩ = some (.string mq) := HO2.out.z.cell 0
      have z1 : wr.cell? ⟨zb, 1, none⟩ = some (.int .i32 0) := HO2.out.z.cell 1
      have z2 : wr.cell? ⟨zb, 2, none⟩ = some (.int .u64 0) := HO2.out.z.cell 2
      have z3 : wr.cell? ⟨zb, 3, none⟩ = some (.int .u64 (bn : Int)) := HO2.out.z.cell 3
      have z4 : wr.cell? ⟨zb, 4, none⟩ = some (.bool false) := HO2.out.z.cell 4
      have z5 : wr.cell? ⟨zb, 5, none⟩ = some (.int .u64 0) := HO2.out.z.cell 5
      have HNX : Hid (Over W.heap.size wc (st6 wr g (t * 6) (.string mq) (.int .i32 0) (.int .u64 0) (.int .u64 (bn : Int)) (.bool false) (.int .u64 0)).drew (.slice lo m lc) N zb m bn ad cp q (t + 1)) := HO2.out.step hq4 htm hg hbc hcs
      rw [hg] at nq
      have ht0 : (0 : Int) ≤ (t : Int) := by omega
      have ht1 : (t : Int) < ((m + q : Nat) : Int) := by omega
      have hgN : g ≠ N := (HO2.out.own g ⟨q, hq4, by omega, hg⟩).2.2
      have hNg : N ≠ g := Ne.symm hgN
      have hzg : zb ≠ g := Ne.symm hgz
      clear hbc hcs hcs' hg
      go_wp2_with fail
      go_region_held3 (fun w' => w'.cell? ⟨N, q, none⟩ = some (.slice (some ⟨g, 0, none⟩) (m + q) (cp q)) ∧ w'.cell? ⟨zb, 0, none⟩ = some (.string mq) ∧ w'.cell? ⟨zb, 1, none⟩ = some (.int .i32 0) ∧ w'.cell? ⟨zb, 2, none⟩ = some (.int .u64 0) ∧ w'.cell? ⟨zb, 3, none⟩ = some (.int .u64 (bn : Int)) ∧ w'.cell? ⟨zb, 4, none⟩ = some (.bool false) ∧ w'.cell? ⟨zb, 5, none⟩ = some (.int .u64 0)) (go_keep) (fail)
      all_goals
       go_wp2
       go_roundw
       case rel => exact ⟨t + 1, by omega, by go_num, HNX⟩
       case measure => simp [intOf]; omega
     · have htt : t = m + q := by omega
      subst htt
      go_wp2
      go_roundw
      case rel => exact ⟨q + 1, by omega, by go_num, HO2.out.turn⟩
      case measure => simp [intOf]; omega
   · have hqq : q = 4 := by omega
    subst hqq
    have hkw : Kept (fun k => (Value.slice lo m lc).ownBlock = some k) w wr := by
     have k1 : Kept (fun k => (Value.slice lo m lc).ownBlock = some k) w wc := HKW.out.trans HSC.out.kept (fun _ => False.elim) (fun _ _ => id)
     refine k1.trans HO.out.kept (fun _ => id) (fun k hk hf => ?_)
     rcases (HO.out.own k hf).1 with h1 | h1
     · exact h1
     · have := HKW.out.size; omega
    have hBr : Blk wr pb 34 (playC vps (.slice ba bn bc) b1 b2 commits most) := HB.out.kept hkw fun e => (HNB.out _ e).1 rfl
    have hVr : Row wr 49 1 (.slice ba bn bc) bn vals := HBV.out.kept hkw fun j hj e => (HNB.out _ e).2 hj
    have HKR : Hid (Kept (fun k => (Value.slice lo m lc).ownBlock = some k) w wr) := hkw
    have HBR : Hid (Blk wr pb 34 (playC vps (.slice ba bn bc) b1 b2 commits most)) := hBr
    have HVR : Hid (Row wr 49 1 (.slice ba bn bc) bn vals) := hVr
    have cb : wr.cell? ⟨pb, 1, none⟩ = some (.slice ba bn bc) := hBr.cell 1
    have hpr := hBr.lt
    obtain ⟨i0, hi, hz0, hz1, hz2⟩ := info_parts Tryz.infoNotes
    have HI : Hid (Tryz.prog.info? 49 = some i0 ∧ i0.zero = some (.slice none 0 0) ∧ i0.size = 1 ∧ i0.bytes = 24) := ⟨hi, hz0, hz1, hz2⟩
    have HROW : Hid (∀ o, Row (wr.alloc o) 49 1 (.slice ba bn bc) bn vals) := fun o => hVr.kept (Kept.alloc wr o (fun _ => False)) (fun _ _ => id)
    have HFIN : Hid (∀ (o : Obj) (w3 : World) (v : Value), Appended (wr.alloc o) w3 49 1 (.slice ba bn bc) v bn 1 vals [.slice (some ⟨N, 0, none⟩) 4 4] → w3.cell? ⟨pb, 1, none⟩ = some (.slice ba bn bc) ∧ w3.frozen? ⟨pb, 1, none⟩ = false ∧ EPost w pb vps (.slice ba bn bc) b1 b2 commits most bn vals (.slice lo m lc) m (.returned (.tuple #[])) (w3.setCell ⟨pb, 1, none⟩ v)) := by
     intro o w3 v hA
     have hA := hA.of_alloc
     have b3 : Blk w3 pb 34 (playC vps (.slice ba bn bc) b1 b2 commits most) := hBr.kept hA.kept fun e => hVr.ne_block hBr (by decide) e
     have n3 : Blk w3 N 51 (fourC m ad cp) := HO.out.nb.kept hA.kept fun e => hVr.ne_block HO.out.nb (by decide) e
     have kS := Kept.setCell w3 ⟨pb, 1, none⟩ v
     have hsz := HKW.out.size
     refine ⟨b3.cell 1, b3.free 1, rfl, N, ad, cp, v, n3.kept kS (fun e => ?_), by omega, fun k hk t ht => ?_, hA.row.kept kS (fun j hj e => ?_), b3.set 1 v, (hkw.trans hA.kept (H := fun k => k = pb ∨ (Value.slice ba bn bc).ownBlock = some k ∨ (Value.slice lo m lc).ownBlock = some k) (fun _ h => .inr (.inr h)) (fun _ _ h => .inr (.inl h))).trans kS (fun _ => id) (fun _ _ h => .inl h), fun k hk => ?_⟩
     · simp at e; subst e; omega
     · obtain ⟨g, e1, c, hbg, hcg⟩ := HO.out.done k hk t ht (.inl hk)
      obtain ⟨o1, _, _⟩ := HO.out.own g ⟨k, hk, by omega, e1⟩
      refine ⟨g, e1, o1.imp id (fun h => by omega), c, (hbg.kept hA.kept fun e => hVr.ne_block hbg (by decide) e).kept kS (fun e => ?_), hcg⟩
      simp at e
      subst e
      exact absurd (hBr.type hbg).1 (by decide)
     · simp at e
      subst e
      exact Row.ne_block hA.row b3 (by decide) hj
     · rcases hA.own with h1 | h1
      · left; rw [← h1]; exact hk
      · right; have := h1 k hk; have := hkw.size; omega
    have bb1 : bn + 1 ≤ maxLen := by unfold maxLen; omega
    clear hi hz0 hz1 hz2 hkw hBr hVr
    go_wp2_with (at_builtin; go_must (refine wpList_append_mine _ rfl (.tmp 57) (.tmp 59) 28 rfl 49 i0 (.slice none 0 0) 1 24 Tryz.underlying28 HI.out.1 HI.out.2.1 HI.out.2.2.1 HI.out.2.2.2 rfl (by decide) (.slice ba bn bc) bn vals rfl (HROW.out _) ⟨wr.heap.size, 0, none⟩ 1 1 [.slice (some ⟨N, 0, none⟩) 4 4] rfl rfl (cell_one_new wr _ _) (oneCell_slice _ _ _) bb1 hbn ?_); intro v' w3 hA; obtain ⟨r0, r1, r2⟩ := HFIN.out _ _ _ hA; have HDONE : Hid (EPost w pb vps (.slice ba bn bc) b1 b2 commits most bn vals (.slice lo m lc) m (.returned (.tuple #[])) (w3.setCell ⟨pb, 1, none⟩ v')) := r2; clear r2; obtain ⟨ao', cap', hv', _⟩ := hA.row.form; clear hA; subst hv')
    go_end0
    exact HDONE.out
structure NoteE where
 N : Nat
 m : Nat
 ad : Nat → Option Addr
 cp : Nat → Nat
def noteV (e : NoteE) : Value := .slice (some ⟨e.N, 0, none⟩) 4 4
structure NoteOk (w : World) (i : Nat) (e : NoteE) : Prop where
 blk : Blk w e.N 51 (fourC e.m e.ad e.cp)
 mark : ∀ k, k < 4 → ∀ t, t < e.m + k → ∃ g, e.ad k = some ⟨g, 0, none⟩ ∧ Mk i w g t
 small : e.m ≤ 1000
structure BookOk (w : World) (bv : Value) (notes : List NoteE) : Prop where
 row : Row w 49 1 bv notes.length (notes.map noteV)
 each : ∀ i (h : i < notes.length), NoteOk w i notes[i]
def bookX (bv : Value) (notes : List NoteE) (b : Nat) : Prop := bv.ownBlock = some b ∨ ∃ e ∈ notes, b = e.N ∨ ∃ k, k < 4 ∧ 0 < e.m + k ∧ e.ad k = some ⟨b, 0, none⟩
theorem rmarked_zero (w : World) (ao : Option Addr) (cap i : Nat) :
  Calls Tryz.prog 18 #[.slice ao 0 cap, .agg #[.string mq, .int .i32 0, .int .u64 0, .int .u64 (i : Int), .bool false, .int .u64 0]] w fun e w' => e = .returned (.bool true) ∧ Kept (fun _ => False) w w' := by
 go_enter Tryz.func18, Tryz.ntmps18
 go_wp2
 refine wp_loop_rounds 1 ?_
 rw [rounds_succ]
 go_wp2
 go_ret
 exact ⟨rfl, Kept.alloc _ _ _⟩
theorem rmarked_note {w : World} {i k : Nat} {e : NoteE} (h : NoteOk w i e) (hk : k < 4) :
  Calls Tryz.prog 18 #[.slice (e.ad k) (e.m + k) (e.cp k), .agg #[.string mq, .int .i32 0, .int .u64 0, .int .u64 (i : Int), .bool false, .int .u64 0]] w fun e w' => e = .returned (.bool true) ∧ Kept (fun _ => False) w w' := by
 by_cases h0 : 0 < e.m + k
 · obtain ⟨g, e1, c, hb, _⟩ := h.mark k hk 0 h0
  rw [e1]
  have hsm := h.small
  refine (rmarked w g (e.m + k) (e.cp k) i mq (by omega) (fun t ht => ?_) (.inr hb.lt)).mono fun _ _ hp => ⟨hp.1, Kept.of_below hp.2 _⟩
  obtain ⟨g', e2, c', hb', hc'⟩ := h.mark k hk t ht
  rw [e1] at e2
  injection e2 with e2
  injection e2 with e2 _ _
  subst e2
  have := hc' 0 (by omega)
  rw [Nat.add_zero] at this
  refine ⟨by rw [hb'.cell, this]; rfl, by rw [hb'.cell, hc' 1 (by omega)]; rfl, by rw [hb'.cell, hc' 2 (by omega)]; rfl, by rw [hb'.cell, hc' 3 (by omega)]; rfl, by rw [hb'.cell, hc' 4 (by omega)]; rfl, by rw [hb'.cell, hc' 5 (by omega)]; rfl⟩
 · have : e.m + k = 0 := by omega
  rw [this]
  exact rmarked_zero w _ _ i
end Go.Proofs.YtpfcacedpkaihaaGreat
