import Derived.Test.YtpfcacedpkaihaaGreatC42
import Derived.Test.YtpfcacedpkaihaaGreatC48
import Derived.Test.YtpfcacedpkaihaaGreatC36
import Derived.Test.YtpfcacedpkaihaaGreatC15
import Derived.Test.YtpfcacedpkaihaaGreatC5
import Derived.Test.YtpfcacedpkaihaaGreatC10
import Derived.Test.YtpfcacedpkaihaaGreatC29
import Derived.Test.YtpfcacedpkaihaaGreatC24
namespace Go.Proofs.YtpfcacedpkaihaaGreat
open Go.RowKit
set_option maxRecDepth 100000
set_option maxHeartbeats 16000000
theorem pair_stores {w : World} {xb cb : Nat} {D : DevS} {R : RefS} (h : Pair w xb cb D R) (hu : R.uses.length < 3000000000000) (i : Int) :
  ∃ (x : Bool) (r : Int), Calls Tryz.prog 45 #[.pointer (some ⟨xb, 0, none⟩), .int .i64 i] w fun e w1 => e = .returned (.tuple #[.bool x, .int .i64 r]) ∧
   Then 46 #[.pointer (some ⟨cb, 0, none⟩), .int .i64 i] w w1 xb cb D R (.tuple #[.bool x, .int .i64 r]) := by
 have hnx1 := h.nx1
 have hps : R.puts = D.pu.puts := h.sim.puts
 have hroom : 1 ≤ R.room := by
  have hs := h.good.s1
  obtain ⟨s, hs'⟩ : ∃ s, D.pu.sites[0]? = some s := ⟨_, List.getElem?_eq_getElem hs⟩
  have h1 := h.sim.room s (List.mem_of_getElem? hs')
  have h2 := (h.good.sites s (List.mem_of_getElem? hs')).room1
  omega
 exact pair_store h (by omega) i fun w2 hr => rstore w2 cb R i hr h.rfit (by rw [hps]; exact h.good.qmax) (fun p hp => (h.good.puts p (by rw [← hps]; exact hp)).q40) (fun nd hnd => by
  have := h.el nd hnd
  exact ⟨this.1, by have := this.2.1; omega, this.2.2.2.2.2.1⟩) (by omega) hroom ⟨by omega, h.nx0⟩
theorem boxed_3 {w w1 : World} {xb cb : Nat} {kd a b c : Int} {s : ByteArray} {l : Value} {F : Nat → Prop} (k : Kept F (boxed w xb cb kd a b c s l) w1) (hF : ∀ i, F i → i < w.heap.size) : w1.cell? ⟨w.heap.size + 1, 3, none⟩ = some (.int .i64 c) :=
 k.keep (fun hf => by have := hF _ hf; simp at this; omega) (by simp [boxed])
theorem lmem_store (w : World) (pb xb cb : Nat) (a b c : Int) (s : ByteArray) (ao : Option Addr) (n cap : Nat) (D : DevS) (R : RefS) (h : Pair w xb cb D R) (hu : R.uses.length < 3000000000000) :
  Calls Tryz.prog 16 #[.pointer (some ⟨pb, 0, none⟩), .agg #[.pointer (some ⟨xb, 0, none⟩), .pointer (some ⟨cb, 0, none⟩)], .agg #[.int .i64 10, .int .i64 a, .int .i64 b, .int .i64 c, .string s, .slice ao n cap]] w fun e w' => StepPost w xb cb D R e w' := by
 have hk := boxed_kept w xb cb 10 a b c s (.slice ao n cap)
 obtain ⟨x, r, hr⟩ := pair_stores (h.kept hk fun _ _ => id) hu b
 have H0 : Hid (Calls Tryz.prog 45 #[.pointer (some ⟨xb, 0, none⟩), .int .i64 b] (boxed w xb cb 10 a b c s (.slice ao n cap)) fun e w1 => e = .returned (.tuple #[.bool x, .int .i64 r]) ∧ Hid (Then 46 #[.pointer (some ⟨cb, 0, none⟩), .int .i64 b] (boxed w xb cb 10 a b c s (.slice ao n cap)) w1 xb cb D R (.tuple #[.bool x, .int .i64 r]))) := hr
 have HK : Hid (Kept (fun _ => False) w (boxed w xb cb 10 a b c s (.slice ao n cap))) := hk
 have HL : Hid (∀ i, D.fp xb i → i < w.heap.size) := h.dev.lt
 clear hr hk h hu
 go_enter Tryz.func16, Tryz.ntmps16
 go_wp2_with first
  | (go_at_call 45; refine H0.out.mono ?_; rintro e w1 ⟨rfl, ht⟩; have q1 := boxed_c ht.out.1 HL.out; have q2 := boxed_b ht.out.1 HL.out)
  | (go_at_call 46; refine (ht.out.2 _ (Kept.refl _ _)).mono ?_; rintro e w3 ⟨rfl, hz, _⟩; have HZ : Hid (Turned (boxed w xb cb 10 a b c s (.slice ao n cap)) w3 xb cb D R) := hz; clear hz)
 go_ret
 exact ⟨rt_bool (by simp), HZ.out.from HK.out⟩
theorem lmem_evict (w : World) (pb xb cb : Nat) (a b c : Int) (s : ByteArray) (ao : Option Addr) (n cap : Nat) (D : DevS) (R : RefS) (h : Pair w xb cb D R) (hu : R.uses.length < 3000000000000) :
  Calls Tryz.prog 16 #[.pointer (some ⟨pb, 0, none⟩), .agg #[.pointer (some ⟨xb, 0, none⟩), .pointer (some ⟨cb, 0, none⟩)], .agg #[.int .i64 11, .int .i64 a, .int .i64 b, .int .i64 c, .string s, .slice ao n cap]] w fun e w' => StepPost w xb cb D R e w' := by
 have hk := boxed_kept w xb cb 11 a b c s (.slice ao n cap)
 obtain ⟨r, hr⟩ := pair_evict (h.kept hk fun _ _ => id) (by omega) b c
 have H0 : Hid (Calls Tryz.prog 47 #[.pointer (some ⟨xb, 0, none⟩), .int .i64 b, .int .i64 c] (boxed w xb cb 11 a b c s (.slice ao n cap)) fun e w1 => e = .returned (.int .i64 r) ∧ Hid (Then 48 #[.pointer (some ⟨cb, 0, none⟩), .int .i64 b, .int .i64 c] (boxed w xb cb 11 a b c s (.slice ao n cap)) w1 xb cb D R (.int .i64 r))) := hr
 have HK : Hid (Kept (fun _ => False) w (boxed w xb cb 11 a b c s (.slice ao n cap))) := hk
 have HL : Hid (∀ i, D.fp xb i → i < w.heap.size) := h.dev.lt
 clear hr hk h hu
 go_enter Tryz.func16, Tryz.ntmps16
 go_wp2_with first
  | (go_at_call 47; refine H0.out.mono ?_; rintro e w1 ⟨rfl, ht⟩; have q1 := boxed_c ht.out.1 HL.out; have q2 := boxed_b ht.out.1 HL.out; have q3 := boxed_3 ht.out.1 HL.out)
  | (go_at_call 48; refine (ht.out.2 _ (Kept.refl _ _)).mono ?_; rintro e w3 ⟨rfl, hz, _⟩; have HZ : Hid (Turned (boxed w xb cb 11 a b c s (.slice ao n cap)) w3 xb cb D R) := hz; clear hz)
 go_ret
 exact ⟨rt_bool (by simp), HZ.out.from HK.out⟩
def u8C (x : Int) : List Value := [.int .u8 x]
def numS (t : Nat) : Int := bits .and .u64 (t : Int) 255 % 256
def waitN (p : NodeP) (n : Nat) : List Int := ((List.range n).filter fun i => waitsB p.waits (p.horizon + 2 + i)).map fun i => numS (p.horizon + 2 + i)
theorem waitN_yes {p : NodeP} {n : Nat} (h : waitsB p.waits (p.horizon + 2 + n) = true) : waitN p (n + 1) = waitN p n ++ [numS (p.horizon + 2 + n)] := by
 unfold waitN
 rw [List.range_succ, List.filter_append, List.map_append]
 simp [h]
theorem waitN_no {p : NodeP} {n : Nat} (h : waitsB p.waits (p.horizon + 2 + n) = false) : waitN p (n + 1) = waitN p n := by
 unfold waitN
 rw [List.range_succ, List.filter_append, List.map_append]
 simp [h]
theorem waitN_len (p : NodeP) (n : Nat) : (waitN p n).length ≤ n := by
 unfold waitN
 rw [List.length_map]
 have := List.length_filter_le (fun i => waitsB p.waits (p.horizon + 2 + i)) (List.range n)
 rw [List.length_range] at this
 exact this
theorem Kept.setO {A : Nat} {W X : World} (h : Kept (fun j => j = A) W X) (f : Nat) (v : Value) : Kept (fun j => j = A) W (X.setCell ⟨A, f, none⟩ v) :=
 h.trans (Kept.setCell X ⟨A, f, none⟩ v) (fun _ => id) (fun _ _ he => he)
theorem Tryz.infoU8 : (Tryz.prog.info? 5).map (fun i => (i.zero, i.size, i.bytes)) = some (some (.int .u8 0), 1, 1) := by kernel_rfl
theorem oneCell_u8 (x : Int) : ∀ u ∈ u8C x, u.oneCell' = true := by
 intro u hu; simp [u8C] at hu; subst hu; rfl
theorem news_u8 (w : World) (x : Int) (t : TypeId) : ∀ j u, (u8C x)[j]? = some u → (w.alloc (.cells #[.int .u8 x] t)).cell? ((⟨w.heap.size, 0, none⟩ : Addr).add j) = some u := by
 intro j u hj
 have e' : (⟨w.heap.size, 0, none⟩ : Addr).add j = ⟨w.heap.size, j, none⟩ := by cases j <;> simp [Addr.add]
 rw [e', World.cell?_alloc_at _ _ _ _ rfl]
 simpa [u8C] using hj
theorem oneCell_ent1 (x : EntE) : ∀ u ∈ entC x, u.oneCell' = true := by
 intro u hu; simp [entC] at hu; rcases hu with rfl | rfl | rfl | rfl | rfl | rfl <;> rfl
theorem news_ent1 (w : World) (e : EntE) (t : TypeId) : ∀ j u, (entC e)[j]? = some u → (w.alloc (.cells #[.string e.q, .int .i32 e.val, .int .u64 (e.fr : Int), .int .u64 (e.till : Int), .bool e.op, .int .u64 (e.kn : Int)] t)).cell? ((⟨w.heap.size, 0, none⟩ : Addr).add j) = some u := by
 intro j u hj
 have e' : (⟨w.heap.size, 0, none⟩ : Addr).add j = ⟨w.heap.size, j, none⟩ := by cases j <;> simp [Addr.add]
 rw [e', World.cell?_alloc_at _ _ _ _ rfl]
 simpa [entC] using hj
theorem dnumbers (w : World) (b k g : Nat) (D : DevS) (nd : DNodeE) (h : Dev w b D) (hnd : D.nodes[k]? = some nd) (ho : D.vn.ownBlock = some g) (hw : nd.p.Walk) :
  Calls Tryz.prog 150 #[.pointer (some ⟨g, k * 8, none⟩)] w fun e w' => ∃ ao cap, e = .returned (.slice ao (waitN nd.p 4).length cap) ∧ Hid (Grow 5 1 u8C w w' (.slice ao (waitN nd.p 4).length cap) (waitN nd.p 4)) := by
 have c2 : w.cell? ⟨g, k * 8 + 2, none⟩ = some (.int .u64 (nd.p.horizon : Int)) := h.nodeC hnd ho 2 (by omega) _ rfl
 have c4 : w.cell? ⟨g, k * 8 + 4, none⟩ = some nd.wt := h.nodeC hnd ho 4 (by omega) _ rfl
 have hz := hw.ok.hz
 have HW : Hid (∀ (W : World) (t : Nat), Kept (fun _ => False) w W → Calls Tryz.prog 151 #[.pointer (some ⟨g, k * 8, none⟩), .int .u64 t] W fun e w' => e = .returned (.bool (waitsB nd.p.waits t)) ∧ Kept (fun _ => False) W w') := fun W t hW => dwaits W g (k * 8) nd.wt nd.p.waits t (hW.hold c4) ((h.waits nd (List.mem_of_getElem? hnd)).kept hW (fun _ _ => id)) hw.ok.wl
 obtain ⟨i0, hi, hz0, hz1, hz2⟩ := info_parts Tryz.infoU8
 have HI : Hid (Tryz.prog.info? 5 = some i0 ∧ i0.zero = some (.int .u8 0) ∧ i0.size = 1 ∧ i0.bytes = 1) := ⟨hi, hz0, hz1, hz2⟩
 obtain ⟨p, hp⟩ : ∃ p, p = nd.p := ⟨_, rfl⟩
 rw [← hp] at HW hz c2 ⊢
 clear hi hz0 hz1 hz2 h hnd ho hw c4 hp
 go_enter Tryz.func150, Tryz.ntmps150
 go_wp2
 go_loopw [3, 5] (fun v sv wr => ∃ j : Nat, j ≤ 4 ∧ sv = .int .u64 ((p.horizon + 2 + j : Nat) : Int) ∧ Hid (Grow 5 1 u8C w wr v (waitN p j))) (fun _ sv _ => p.horizon + 6 - (intOf sv).toNat)
 case atStart => exact ⟨0, by omega, by go_num, Grow.start _ _ _ _⟩
 case round =>
  obtain ⟨j, hj, rfl, HG⟩ := hrel
  obtain ⟨av, cv, hvv, _⟩ := HG.out.row.form
  have hwl := waitN_len p j
  obtain ⟨n, hn⟩ : ∃ n, n = (waitN p j).length := ⟨_, rfl⟩
  rw [← hn] at hvv hwl
  subst hvv
  by_cases hlt : j < 4
  · have hd : ((p.horizon + 2 + j : Nat) : Int) < (p.horizon : Int) + 2 + 4 := by omega
   have b1 : n + 1 ≤ maxLen := by unfold maxLen; omega
   have b2 : (n + 1) * 1 ≤ 140737488355328 := by omega
   cases hb : waitsB p.waits (p.horizon + 2 + j) with
   | false =>
    have HX : Hid (waitN p (j + 1) = waitN p j) := waitN_no hb
    have HWJ : Hid (Calls Tryz.prog 151 #[.pointer (some ⟨g, k * 8, none⟩), .int .u64 ((p.horizon + 2 + j : Nat) : Int)] wr fun e w' => e = .returned (.bool false) ∧ Kept (fun _ => False) wr w') := by have := HW.out wr (p.horizon + 2 + j) HG.out.kept; rw [hb] at this; exact this
    clear hb hn
    go_wp2_with (go_at_call 151; refine HWJ.out.mono ?_; rintro e w1 ⟨rfl, hk1⟩)
    go_roundw
    case rel => exact ⟨j + 1, by omega, by go_num, by rw [HX.out]; exact HG.out.more hk1⟩
    case measure => simp [intOf]; omega
   | true =>
    have HX : Hid (waitN p (j + 1) = waitN p j ++ [numS (p.horizon + 2 + j)]) := waitN_yes hb
    have HWJ : Hid (Calls Tryz.prog 151 #[.pointer (some ⟨g, k * 8, none⟩), .int .u64 ((p.horizon + 2 + j : Nat) : Int)] wr fun e w' => e = .returned (.bool true) ∧ Kept (fun _ => False) wr w') := by have := HW.out wr (p.horizon + 2 + j) HG.out.kept; rw [hb] at this; exact this
    have HROW : Hid (∀ (W : World) (o : Obj), Kept (fun _ => False) wr W → Row (W.alloc o) 5 1 (.slice av n cv) n ((waitN p j).flatMap u8C)) := fun W o hW => by have := (HG.out.row.kept hW (fun _ _ => id)).kept (Kept.alloc W o (fun _ => False)) (fun _ _ => id); rw [← hn] at this; exact this
    have HNX : Hid (∀ (W : World) (o : Obj) (w' : World) (v' : Value), Kept (fun _ => False) wr W → Appended (W.alloc o) w' 5 1 (.slice av n cv) v' n 1 ((waitN p j).flatMap u8C) (u8C (numS (p.horizon + 2 + j))) → Grow 5 1 u8C w w' v' (waitN p j ++ [numS (p.horizon + 2 + j)])) := by
     intro W o w' v' hW hA
     rw [hn] at hA HG
     exact ((HG.out.more hW).more (Kept.alloc W o (fun _ => False))).next hA
    clear hb hn
    go_wp2_with first
     | (go_at_call 151; refine HWJ.out.mono ?_; rintro e w1 ⟨rfl, hk1⟩; have HK1 : Hid (Kept (fun _ => False) wr w1) := hk1; clear hk1)
     | (at_builtin; go_must (refine wpList_append_mine _ rfl (.tmp 21) (.tmp 25) 100 rfl 5 i0 (.int .u8 0) 1 1 Tryz.underlying100 HI.out.1 HI.out.2.1 HI.out.2.2.1 HI.out.2.2.2 rfl (by decide) (.slice av n cv) n _ rfl (HROW.out _ _ HK1.out) ⟨w1.heap.size, 0, none⟩ 1 1 (u8C (numS (p.horizon + 2 + j))) rfl rfl (fun j u hj => news_u8 w1 _ _ j u hj) (oneCell_u8 _) b1 b2 ?_); intro v' w2 hA; have HA : Hid (Grow 5 1 u8C w w2 v' (waitN p j ++ [numS (p.horizon + 2 + j)])) := HNX.out _ _ _ _ HK1.out hA; clear hA)
    go_roundw
    case rel => exact ⟨j + 1, by omega, by go_num, by rw [HX.out]; exact HA.out⟩
    case measure => simp [intOf]; omega
  · have hje : j = 4 := by omega
   subst hje
   have HG2 : Hid (Grow 5 1 u8C w wr (.slice av (waitN p 4).length cv) (waitN p 4)) := by rw [← hn]; exact HG.out
   go_wp2
   go_ret
   rw [hn]
   exact ⟨av, cv, rfl, HG2.out⟩
theorem dlook0 (w : World) (b k g : Nat) (D : DevS) (nd : DNodeE) (h : Dev w b D) (hnd : D.nodes[k]? = some nd) (ho : D.vn.ownBlock = some g) (hw : nd.p.Walk) :
  Calls Tryz.prog 109 #[.pointer (some ⟨g, k * 8, none⟩)] w fun e w' => ∃ wa wc ea ec, e = .returned (.agg #[.bool nd.p.up, .int .u64 (nd.p.horizon : Int), .slice wa (waitN nd.p 4).length wc, .slice ea nd.p.ents.length ec]) ∧ Hid (Grow 5 1 u8C w w' (.slice wa (waitN nd.p 4).length wc) (waitN nd.p 4) ∧ Grow 55 6 entC w w' (.slice ea nd.p.ents.length ec) (nd.p.ents.map (·.e))) := by
 have hr := h.ents nd (List.mem_of_getElem? hnd)
 obtain ⟨ao, cap, hv, hp⟩ := hr.helds
 have c5 : w.cell? ⟨g, k * 8 + 5, none⟩ = some nd.en := h.nodeC hnd ho 5 (by omega) _ rfl
 have c0 : w.cell? ⟨g, k * 8, none⟩ = some (.bool nd.p.up) := h.nodeC hnd ho 0 (by omega) _ rfl
 have c2 : w.cell? ⟨g, k * 8 + 2, none⟩ = some (.int .u64 (nd.p.horizon : Int)) := h.nodeC hnd ho 2 (by omega) _ rfl
 have hgl : g < w.heap.size := World.block_lt_of_cell? w _ c5
 have hel := hw.el
 rw [hv] at c5
 obtain ⟨l, hll⟩ : ∃ l, l = nd.p.ents := ⟨_, rfl⟩
 have HP : Hid (∀ j (hj : j < l.length), ∃ ge, ao = some ⟨ge, 0, none⟩ ∧ ge < w.heap.size ∧ ∀ f, f < 7 → w.cell? ⟨ge, j * 7 + f, none⟩ = (heldC l[j])[f]?) := by rw [hll]; exact hp
 have HN : Hid (∀ W, Kept (fun _ => False) w W → Calls Tryz.prog 150 #[.pointer (some ⟨g, k * 8, none⟩)] W fun e w' => ∃ ao cap, e = .returned (.slice ao (waitN nd.p 4).length cap) ∧ Hid (Grow 5 1 u8C W w' (.slice ao (waitN nd.p 4).length cap) (waitN nd.p 4))) := fun W hW => dnumbers W b k g D nd (h.kept hW (fun _ _ => id)) hnd ho hw
 have HC : Hid (∀ W, Kept (fun _ => False) w W → W.cell? ⟨g, k * 8, none⟩ = some (.bool nd.p.up) ∧ W.cell? ⟨g, k * 8 + 2, none⟩ = some (.int .u64 (nd.p.horizon : Int))) := fun W hW => ⟨hW.hold c0, hW.hold c2⟩
 rw [← hll] at hel c5 ⊢
 obtain ⟨wn, hwn⟩ : ∃ x, x = waitN nd.p 4 := ⟨_, rfl⟩
 obtain ⟨up, hup⟩ : ∃ x, x = nd.p.up := ⟨_, rfl⟩
 obtain ⟨hzn, hhz⟩ : ∃ x, x = nd.p.horizon := ⟨_, rfl⟩
 rw [← hwn] at HN ⊢
 rw [← hup, ← hhz] at HC ⊢
 obtain ⟨i0, hi, hz0, hz1, hz2⟩ := info_parts Tryz.infoEntry
 have HI : Hid (Tryz.prog.info? 55 = some i0 ∧ i0.zero = some (.agg #[.string ByteArray.empty, .int .i32 0, .int .u64 0, .int .u64 0, .bool false, .int .u64 0]) ∧ i0.size = 6 ∧ i0.bytes = 56) := ⟨hi, hz0, hz1, hz2⟩
 clear hi hz0 hz1 hz2 h hnd ho hw hr hp hv hll c0 c2 hwn hup hhz
 have HB : Hid (∀ o W, Kept (fun _ => False) (w.alloc (.cells #[.bool false, .int .u64 0, .slice none 0 0, .slice none 0 0] o)) W → Kept (fun _ => False) w W ∧ Blk W w.heap.size o #[.bool false, .int .u64 0, .slice none 0 0, .slice none 0 0]) := fun o W hW => ⟨(Kept.alloc _ _ _).trans hW (fun _ => id) (fun _ _ => id), (Blk.new w _ _).kept hW id⟩
 go_enter Tryz.func109, Tryz.ntmps109
 go_wp2
 obtain ⟨kW, bW⟩ := HB.out 102 _ (Kept.refl _ _)
 generalize w.alloc (.cells #[.bool false, .int .u64 0, .slice none 0 0, .slice none 0 0] 102) = W at kW bW ⊢
 have HKW : Hid (Kept (fun _ => False) w W ∧ Blk W w.heap.size 102 #[.bool false, .int .u64 0, .slice none 0 0, .slice none 0 0]) := ⟨kW, bW⟩
 clear kW bW HB
 go_loopw [3, 12] (fun v iv wr => ∃ j : Nat, j ≤ l.length ∧ iv = .int .i64 j ∧ Hid (Grow 55 6 entC W wr v ((l.take j).map (·.e)))) (fun _ iv _ => l.length - (intOf iv).toNat)
 case atStart => exact ⟨0, Nat.zero_le _, rfl, Grow.start _ _ _ _⟩
 case round =>
  obtain ⟨j, hj, rfl, HG⟩ := hrel
  obtain ⟨av, cv, hvv, _⟩ := HG.out.row.form
  have hfl : ((l.take j).map (·.e)).length = j := by rw [List.length_map, List.length_take]; omega
  rw [hfl] at hvv
  subst hvv
  have hkw : Kept (fun _ => False) w wr := HKW.out.1.trans HG.out.kept (fun _ => id) (fun _ _ => id)
  by_cases hlt : j < l.length
  · obtain ⟨ge, hao, hge, hc⟩ := HP.out j hlt
   have HX : Hid ((l.take (j + 1)).map (·.e) = (l.take j).map (·.e) ++ [l[j].e]) := by show _ = _; rw [List.take_succ_eq_append_getElem hlt, List.map_append]; rfl
   obtain ⟨x, hx⟩ : ∃ x, x = l[j] := ⟨_, rfl⟩
   rw [← hx] at hc HX
   have d0 : wr.cell? ⟨ge, j * 7, none⟩ = some (.string x.e.q) := hkw.hold (hc 0 (by omega))
   have d1 : wr.cell? ⟨ge, j * 7 + 1, none⟩ = some (.int .i32 x.e.val) := hkw.hold (hc 1 (by omega))
   have d2 : wr.cell? ⟨ge, j * 7 + 2, none⟩ = some (.int .u64 (x.e.fr : Int)) := hkw.hold (hc 2 (by omega))
   have d3 : wr.cell? ⟨ge, j * 7 + 3, none⟩ = some (.int .u64 (x.e.till : Int)) := hkw.hold (hc 3 (by omega))
   have d4 : wr.cell? ⟨ge, j * 7 + 4, none⟩ = some (.bool x.e.op) := hkw.hold (hc 4 (by omega))
   have d5 : wr.cell? ⟨ge, j * 7 + 5, none⟩ = some (.int .u64 (x.e.kn : Int)) := hkw.hold (hc 5 (by omega))
   have d6 : wr.cell? ⟨ge, j * 7 + 6, none⟩ = some (.int .u64 (x.used : Int)) := hkw.hold (hc 6 (by omega))
   have hj0 : (0 : Int) ≤ (j : Int) := by omega
   have hj1 : (j : Int) < (l.length : Int) := by omega
   have HROW : Hid (∀ o o', Row ((wr.alloc o).alloc o') 55 6 (.slice av j cv) j (((l.take j).map (·.e)).flatMap entC)) := fun o o' => by have := (HG.out.row.kept (Kept.alloc wr o (fun _ => False)) (fun _ _ => id)).kept (Kept.alloc _ o' (fun _ => False)) (fun _ _ => id); rw [hfl] at this; exact this
   have HNX : Hid (∀ (o o' : Obj) (w' : World) (v' : Value), Appended ((wr.alloc o).alloc o') w' 55 6 (.slice av j cv) v' j 1 (((l.take j).map (·.e)).flatMap entC) (entC x.e) → Grow 55 6 entC W w' v' ((l.take j).map (·.e) ++ [x.e])) := by
    intro o o' w' v' hA
    have hA' : Appended ((wr.alloc o).alloc o') w' 55 6 (.slice av j cv) v' ((l.take j).map (·.e)).length 1 (((l.take j).map (·.e)).flatMap entC) (entC x.e) := by rw [hfl]; exact hA
    exact (HG.out.more ((Kept.alloc wr o (fun _ => False)).allocNew o')).next hA'
   have b1 : j + 1 ≤ maxLen := by unfold maxLen; omega
   have b2 : (j + 1) * 56 ≤ 140737488355328 := by omega
   clear hx hc hge hfl hkw
   subst hao
   go_wp2_with (at_builtin; go_must (refine wpList_append_mine _ rfl (.tmp 16) (.tmp 19) 51 rfl 55 i0 (.agg #[.string ByteArray.empty, .int .i32 0, .int .u64 0, .int .u64 0, .bool false, .int .u64 0]) 6 56 Tryz.underlying51 HI.out.1 HI.out.2.1 HI.out.2.2.1 HI.out.2.2.2 rfl (by decide) (.slice av j cv) j _ rfl (HROW.out _ _) ⟨wr.heap.size + 1, 0, none⟩ 1 1 (entC x.e) rfl rfl (fun j u hj => by simpa using news_ent1 (wr.alloc _) x.e _ j u hj) (oneCell_ent1 x.e) b1 b2 ?_); intro v' w1 hA; have HA : Hid (Grow 55 6 entC W w1 v' ((l.take j).map (·.e) ++ [x.e])) := HNX.out _ _ _ _ hA; clear hA)
   go_roundw
   case rel => exact ⟨j + 1, by omega, by go_num, by rw [HX.out]; exact HA.out⟩
   case measure => simp [intOf]; omega
  · have hjn : j = l.length := by omega
   subst hjn
   have HG2 : Hid (Grow 55 6 entC W wr (.slice av l.length cv) (l.map (·.e))) := by have := HG.out; rw [List.take_length] at this; exact this
   have HKR : Hid (Kept (fun _ => False) w wr) := hkw
   clear hfl hkw HG
   go_wp2_with (go_at_call 150; refine (HN.out _ HKR.out).mono ?_; rintro e w1 ⟨wa, wc, rfl, HW⟩)
   obtain ⟨c0, c2⟩ := HC.out w1 (HKR.out.trans HW.out.kept (fun _ => id) (fun _ _ => id))
   have bR := (HKW.out.2.kept HG2.out.kept id).kept HW.out.kept id
   have r0 : w1.cell? ⟨w.heap.size, 0, none⟩ = some (.bool false) := bR.cell 0
   have r1 : w1.cell? ⟨w.heap.size, 1, none⟩ = some (.int .u64 0) := bR.cell 1
   have r2 : w1.cell? ⟨w.heap.size, 2, none⟩ = some (.slice none 0 0) := bR.cell 2
   have r3 : w1.cell? ⟨w.heap.size, 3, none⟩ = some (.slice none 0 0) := bR.cell 3
   have rf : ∀ i, w1.frozen? ⟨w.heap.size, i, none⟩ = false := fun i => bR.free i
   have hgne : g ≠ w.heap.size := by omega
   have HFIN : Hid (∀ W', Kept (fun k => k = w.heap.size) w1 W' → Grow 5 1 u8C w W' (.slice wa wn.length wc) wn ∧ Grow 55 6 entC w W' (.slice av l.length cv) (l.map (·.e))) := fun W' k => by
    have kk : Kept (fun _ => False) w W' := (HKR.out.trans HW.out.kept (fun _ => id) (fun _ _ => id)).trans k (fun _ => id) (fun i hi he => by omega)
    have hsw := HKW.out.1.size
    have hsz : W.heap.size ≤ wr.heap.size := HG2.out.kept.size
    have hbl : w.heap.size < W.heap.size := HKW.out.2.lt
    refine ⟨⟨HW.out.row.kept k (fun i hi he => by have := HW.out.new i hi; omega), kk, fun i hi => by have := HW.out.new i hi; omega⟩, ⟨((HG2.out.row.kept HW.out.kept (fun _ _ => id))).kept k (fun i hi he => by have := HG2.out.new i hi; omega), kk, fun i hi => by have := HG2.out.new i hi; omega⟩⟩
   clear bR
   go_region
   all_goals
    go_wp2
    refine bodyPost_ret (v := .agg #[.bool up, .int .u64 (hzn : Int), .slice wa wn.length wc, .slice av l.length cv]) (by simp [results, Tryz.results109, go_sem, *]) rfl ⟨wa, wc, av, cv, rfl, HFIN.out _ ?_⟩
    repeat first
     | with_reducible refine Kept.setO ?_ _ _
     | with_reducible exact Kept.refl _ _
     | with_reducible refine Kept.drewN ?_ _
     | with_reducible refine Kept.drew ?_
def LookOf (p : NodeP) (w w' : World) (wa ea : Option Addr) (wc ec : Nat) : Prop := Grow 5 1 u8C w w' (.slice wa (waitN p 4).length wc) (waitN p 4) ∧ Grow 55 6 entC w w' (.slice ea p.ents.length ec) (p.ents.map (·.e))
theorem dlook (w : World) (b k : Nat) (D : DevS) (nd : DNodeE) (h : Dev w b D) (hnd : D.nodes[k]? = some nd) (hw : nd.p.Walk) :
  Calls Tryz.prog 49 #[.pointer (some ⟨b, 0, none⟩), .int .i64 (k : Int)] w fun e w' => ∃ wa wc ea ec, e = .returned (.tuple #[.agg #[.bool nd.p.up, .int .u64 (nd.p.horizon : Int), .slice wa (waitN nd.p 4).length wc, .slice ea nd.p.ents.length ec], .int .i64 0]) ∧ Hid (LookOf nd.p w w' wa ea wc ec) := by
 have hk : k < D.nodes.length := (List.getElem?_eq_some_iff.mp hnd).1
 obtain ⟨g, cv, hv, ho, hgl⟩ := h.nodes.block (by omega)
 have HS : Hid (∀ W, Kept (fun _ => False) w W → Calls Tryz.prog 106 #[.pointer (some ⟨b, 0, none⟩), .int .i64 (k : Int)] W fun e w' => e = .returned (.tuple #[.pointer (some ⟨g, k * 8, none⟩), .int .i64 0]) ∧ W = w') := fun W hW => dsite W b k g D (h.kept hW (fun _ _ => id)) hk ho
 have HL : Hid (∀ W, Kept (fun _ => False) w W → Calls Tryz.prog 109 #[.pointer (some ⟨g, k * 8, none⟩)] W fun e w' => ∃ wa wc ea ec, e = .returned (.agg #[.bool nd.p.up, .int .u64 (nd.p.horizon : Int), .slice wa (waitN nd.p 4).length wc, .slice ea nd.p.ents.length ec]) ∧ Hid (Grow 5 1 u8C W w' (.slice wa (waitN nd.p 4).length wc) (waitN nd.p 4) ∧ Grow 55 6 entC W w' (.slice ea nd.p.ents.length ec) (nd.p.ents.map (·.e)))) := fun W hW => dlook0 W b k g D nd (h.kept hW (fun _ _ => id)) hnd ho hw
 obtain ⟨p, hp⟩ : ∃ p, p = nd.p := ⟨_, rfl⟩
 rw [← hp] at HL ⊢
 clear h hnd hw hk hv ho hp
 go_enter Tryz.func49, Tryz.ntmps49
 go_wp2_with first
  | (go_at_call 106; refine (HS.out _ (Kept.alloc _ _ _)).mono ?_; rintro e w1 ⟨rfl, rfl⟩)
  | (go_at_call 109; refine (HL.out _ (Kept.alloc _ _ _)).mono ?_; rintro e w1 ⟨wa, wc, ea, ec, rfl, HG⟩; have bR := (Blk.new w 102 #[.bool false, .int .u64 0, .slice none 0 0, .slice none 0 0]).kept HG.out.1.kept id; have r0 : w1.cell? ⟨w.heap.size, 0, none⟩ = some (.bool false) := bR.cell 0; have r1 : w1.cell? ⟨w.heap.size, 1, none⟩ = some (.int .u64 0) := bR.cell 1; have r2 : w1.cell? ⟨w.heap.size, 2, none⟩ = some (.slice none 0 0) := bR.cell 2; have r3 : w1.cell? ⟨w.heap.size, 3, none⟩ = some (.slice none 0 0) := bR.cell 3; have rf : ∀ i, w1.frozen? ⟨w.heap.size, i, none⟩ = false := fun i => bR.free i; clear bR)
 refine bodyPost_ret (v := .tuple #[.agg #[.bool p.up, .int .u64 (p.horizon : Int), .slice wa (waitN p 4).length wc, .slice ea p.ents.length ec], .int .i64 0]) (by simp [results, Tryz.results49, go_sem, *]) rfl ⟨wa, wc, ea, ec, rfl, ?_⟩
 have hF : ∀ W', Kept (fun k => k = w.heap.size) w1 W' → LookOf p w W' wa ea wc ec := fun W' k => by
  have hsz : (w.alloc (.cells #[.bool false, .int .u64 0, .slice none 0 0, .slice none 0 0] 102)).heap.size = w.heap.size + 1 := by simp
  have kk : Kept (fun _ => False) w W' := ((Kept.alloc _ _ _).trans HG.out.1.kept (fun _ => id) (fun _ _ => id)).trans k (fun _ => id) (fun i hi he => by omega)
  refine ⟨⟨HG.out.1.row.kept k (fun i hi he => by have := HG.out.1.new i hi; omega), kk, fun i hi => by have := HG.out.1.new i hi; omega⟩, ⟨HG.out.2.row.kept k (fun i hi he => by have := HG.out.2.new i hi; omega), kk, fun i hi => by have := HG.out.2.new i hi; omega⟩⟩
 refine hF _ ?_
 repeat first
  | with_reducible refine Kept.setO ?_ _ _
  | with_reducible exact Kept.refl _ _
theorem dlook_bad (w : World) (b : Nat) (D : DevS) (k : Int) (h : Dev w b D) (hk : k < 0 ∨ (D.nodes.length : Int) ≤ k) :
  Calls Tryz.prog 49 #[.pointer (some ⟨b, 0, none⟩), .int .i64 k] w fun e w' => e = .returned (.tuple #[.agg #[.bool false, .int .u64 0, .slice none 0 0, .slice none 0 0], .int .i64 9]) ∧ Kept (fun _ => False) w w' := by
 have HS : Hid (∀ W, Kept (fun _ => False) w W → Calls Tryz.prog 106 #[.pointer (some ⟨b, 0, none⟩), .int .i64 k] W fun e w' => e = .returned (.tuple #[.pointer none, .int .i64 9]) ∧ W = w') := fun W hW => dsite_bad W b D k (h.kept hW (fun _ _ => id)) hk
 clear h hk
 go_enter Tryz.func49, Tryz.ntmps49
 go_wp2_with (go_at_call 106; refine (HS.out _ (Kept.alloc _ _ _)).mono ?_; rintro e w1 ⟨rfl, rfl⟩)
 refine bodyPost_ret (v := .tuple #[.agg #[.bool false, .int .u64 0, .slice none 0 0, .slice none 0 0], .int .i64 9]) (by simp [results, Tryz.results49, go_sem]) rfl ⟨rfl, ?_⟩
 have hF : ∀ W', Kept (fun k => k = w.heap.size) (w.alloc (.cells #[.bool false, .int .u64 0, .slice none 0 0, .slice none 0 0] 102)) W' → Kept (fun _ => False) w W' := fun W' k => (Kept.alloc w _ (fun _ => False)).trans k (fun _ => id) (fun i hi he => by omega)
 refine hF _ ?_
 repeat first
  | with_reducible refine Kept.setO ?_ _ _
  | with_reducible exact Kept.refl _ _
theorem numS_eq (t : Nat) (h : t ≤ 1000000) : numS t = (t : Int) % 256 := by
 have e : bits .and .u64 (t : Int) 255 = IntKind.u64.wrap (((BitVec.ofInt 64 (t : Int)) &&& BitVec.ofInt 64 255).toNat : Int) := rfl
 have e2 : ((BitVec.ofInt 64 (t : Int)) &&& BitVec.ofInt 64 255).toNat = t % 256 := by
  rw [BitVec.toNat_and, BitVec.ofInt_natCast, BitVec.toNat_ofNat, Nat.mod_eq_of_lt (by omega)]
  show t &&& 255 = t % 256
  exact Nat.and_two_pow_sub_one_eq_mod t 8
 unfold numS
 rw [e, e2]
 simp [IntKind.wrap, IntKind.bits, IntKind.signed]
def rwaitN (wts : List Nat) (a n : Nat) : List Int := (List.range' a n).flatMap fun t => (wts.filter fun x => decide (x = t)).map fun _ => (t : Int) % 256
theorem rwaitN_cut (wts : List Nat) (a n m : Nat) (h : ∀ x ∈ wts, ¬ (a + n ≤ x ∧ x < a + n + m)) : rwaitN wts a (n + m) = rwaitN wts a n := by
 unfold rwaitN
 rw [← List.range'_append_1, List.flatMap_append]
 have : (List.range' (a + n) m).flatMap (fun t => (wts.filter fun x => decide (x = t)).map fun _ => (t : Int) % 256) = [] := by
  rw [List.flatMap_eq_nil_iff]
  intro t ht
  rw [List.mem_range'_1] at ht
  rw [List.map_eq_nil_iff, List.filter_eq_nil_iff]
  intro x hx he
  have : x = t := by simpa using he
  subst this
  exact h x hx ht
 rw [this, List.append_nil]
theorem filter_one {l : List Nat} (hn : l.Nodup) (t : Nat) : l.filter (fun x => decide (x = t)) = if t ∈ l then [t] else [] := by
 induction l with
 | nil => rfl
 | cons x r ih =>
  rw [List.nodup_cons] at hn
  rw [List.filter_cons, ih hn.2]
  by_cases e : x = t
  · subst e
   simp [hn.1]
  · have e' : ¬ t = x := fun h => e h.symm
   simp [e, e']
theorem rwaitN_next (wts : List Nat) (a n : Nat) : rwaitN wts a (n + 1) = rwaitN wts a n ++ (wts.filter fun x => decide (x = a + n)).map fun _ => ((a + n : Nat) : Int) % 256 := by
 unfold rwaitN
 rw [← List.range'_append_1, List.flatMap_append]
 simp
theorem waitsB_in (l : List (Nat × Int)) (t : Nat) : waitsB l t = true ↔ t ∈ l.map (·.1) := by
 unfold waitsB
 rw [List.any_eq_true, List.mem_map]
 simp
theorem wait_same {s : NodeP} {top : Nat} (ht : s.horizon ≤ top) (hm : top ≤ 700) (hs : ∀ c ∈ s.waits, s.horizon + 1 < c.1 ∧ c.1 ≤ s.horizon + 5 ∧ c.1 ≤ top) (hn : (s.waits.map (·.1)).Nodup) :
  rwaitN (s.waits.map (·.1)) (s.horizon + 1) (top - s.horizon) = waitN s 4 := by
 have hW : ∀ x ∈ s.waits.map (·.1), s.horizon + 1 < x ∧ x ≤ s.horizon + 5 ∧ x ≤ top := by
  intro x hx
  obtain ⟨c, hc, rfl⟩ := List.mem_map.mp hx
  exact hs c hc
 have key : ∀ i, i ≤ 4 → rwaitN (s.waits.map (·.1)) (s.horizon + 1) (i + 1) = waitN s i := by
  intro i
  induction i with
  | zero =>
   intro _
   rw [rwaitN_next, filter_one hn, if_neg (fun hx => by have := hW _ hx; omega)]
   rfl
  | succ i ih =>
   intro hi
   rw [rwaitN_next, ih (by omega), filter_one hn, show s.horizon + 1 + (i + 1) = s.horizon + 2 + i by omega]
   cases hb : waitsB s.waits (s.horizon + 2 + i) with
   | true =>
    rw [if_pos ((waitsB_in _ _).mp hb), waitN_yes hb, numS_eq _ (by omega)]
    rfl
   | false =>
    rw [if_neg (fun hx => by rw [(waitsB_in _ _).mpr hx] at hb; cases hb), waitN_no hb]
    simp
 rw [← key 4 (by omega)]
 by_cases h5 : top - s.horizon ≤ 5
 · have := rwaitN_cut (s.waits.map (·.1)) (s.horizon + 1) (top - s.horizon) (5 - (top - s.horizon)) (fun x hx hh => by have := hW x hx; omega)
  rw [show top - s.horizon + (5 - (top - s.horizon)) = 4 + 1 by omega] at this
  exact this.symm
 · have := rwaitN_cut (s.waits.map (·.1)) (s.horizon + 1) 5 (top - s.horizon - 5) (fun x hx hh => by have := hW x hx; omega)
  rw [show 5 + (top - s.horizon - 5) = top - s.horizon by omega] at this
  exact this
def RLookPost (w : World) (R : RefS) (k : Int) (e : Ending) (w' : World) : Prop :=
 ((k < 0 ∨ (R.nodes.length : Int) ≤ k) ∧ e = .returned (.tuple #[.agg #[.bool false, .int .u64 0, .slice none 0 0, .slice none 0 0], .int .i64 9]) ∧ Kept (fun _ => False) w w') ∨
 (∃ (j : Nat) (nd : NodeE) (wa ea : Option Addr) (wc ec : Nat), k = (j : Int) ∧ R.nodes[j]? = some nd ∧ e = .returned (.tuple #[.agg #[.bool nd.up, .int .u64 (nd.horizon : Int), .slice wa (rwaitN nd.wts (nd.horizon + 1) (R.past.length - 1 - nd.horizon)).length wc, .slice ea nd.ents.length ec], .int .i64 0]) ∧
  Grow 5 1 u8C w w' (.slice wa (rwaitN nd.wts (nd.horizon + 1) (R.past.length - 1 - nd.horizon)).length wc) (rwaitN nd.wts (nd.horizon + 1) (R.past.length - 1 - nd.horizon)) ∧ Grow 55 6 entC w w' (.slice ea nd.ents.length ec) nd.ents)
end Go.Proofs.YtpfcacedpkaihaaGreat
