import Derived.Test.YtpfcacedpkaihaaGreatC15
import Derived.Test.YtpfcacedpkaihaaGreatC16
import Derived.Test.YtpfcacedpkaihaaGreatC6
namespace Go.Proofs.YtpfcacedpkaihaaGreat
open Go.RowKit
set_option maxRecDepth 100000
set_option maxHeartbeats 16000000
theorem dqnode (q : ByteArray) (n : Nat) (w : World) (hn0 : 0 < n) (hn1 : n ≤ 1000) (hq : q.size ≤ 40) :
  Calls Tryz.prog 134 #[.string q, .int .i64 (n : Int)] w fun e w' => e = .returned (.int .i64 ((sumB q.data.toList % n : Nat) : Int)) ∧ w = w' := by
 have hql : q.data.toList.length = q.size := by rw [Array.length_toList]; rfl
 have hd : ¬ (n : Int) < 1 := by omega
 go_enter Tryz.func134, Tryz.ntmps134
 go_wp2
 go_loop [5, 11] (fun s i => ∃ k : Nat, k ≤ q.size ∧ i = .int .i64 k ∧ s = .int .i64 (sumB (q.data.toList.take k) : Nat)) (fun _ i => q.size - (intOf i).toNat)
 case atStart => exact ⟨0, Nat.zero_le _, rfl, rfl⟩
 case round =>
  obtain ⟨k, hk, rfl, rfl⟩ := hrel
  have hle := sumB_le q.data.toList k (by omega)
  by_cases hlt : k < q.size
  · have HS : Hid (sumB (q.data.toList.take (k + 1)) = sumB (q.data.toList.take k) + q[k].toNat) := by
    show _ = _
    rw [sumB_snoc q.data.toList k (by omega)]; rfl
   have hb : q[k].toNat < 256 := UInt8.toNat_lt _
   go_wp2
   go_round
   case rel => exact ⟨k + 1, by omega, by go_num, by rw [HS.out]; go_num⟩
   case measure => simp [intOf]; omega
  · have hkk : k = q.size := by omega
   have HT : Hid (q.data.toList.take q.size = q.data.toList) := List.take_of_length_le (by omega)
   go_wp2
   go_ret
   refine ⟨rt_int ?_, rfl⟩
   rw [HT.out]
theorem dnodeOf (w : World) (b g : Nat) (D : DevS) (q : ByteArray) (h : Dev w b D) (ho : D.vn.ownBlock = some g) (hn0 : 0 < D.nodes.length) (hn1 : D.nodes.length ≤ 1000) (hq : q.size ≤ 40) :
  Calls Tryz.prog 88 #[.pointer (some ⟨b, 0, none⟩), .string q] w fun e w' => e = .returned (.pointer (some ⟨g, D.pu.nodeN q * 8, none⟩)) ∧ w = w' := by
 obtain ⟨g', cv, hv, ho', _⟩ := h.nodes.block hn0
 rw [ho] at ho'
 injection ho' with ho'
 subst ho'
 have c28 := h.c28
 rw [hv] at c28
 obtain ⟨k, hk⟩ : ∃ k, k = sumB q.data.toList % D.nodes.length := ⟨_, rfl⟩
 have hkl : k < D.nodes.length := by rw [hk]; exact Nat.mod_lt _ hn0
 have HN : Hid (D.pu.nodeN q = k) := by show sumB q.data.toList % (D.nodes.map (·.p)).length = k; rw [List.length_map, hk]
 have HQ : Hid (∀ W, Calls Tryz.prog 134 #[.string q, .int .i64 (D.nodes.length : Int)] W fun e w' => e = .returned (.int .i64 (k : Int)) ∧ W = w') := fun W => by rw [hk]; exact dqnode q _ W hn0 hn1 hq
 have hk0 : (0 : Int) ≤ (k : Int) := by omega
 have hk1 : (k : Int) < (D.nodes.length : Int) := by omega
 clear h hv ho hk
 go_enter Tryz.func88, Tryz.ntmps88
 go_wp2_with (go_at_call 134; refine (HQ.out _).mono ?_; rintro e w1 ⟨rfl, rfl⟩)
 go_ret
 exact ⟨by rw [HN.out]; rfl, rfl⟩
theorem dStore_bad (w : World) (b : Nat) (D : DevS) (i : Int) (h : Dev w b D) (hf : D.Fit) (hi : i < 0 ∨ (D.puts.length : Int) ≤ i) :
  Calls Tryz.prog 45 #[.pointer (some ⟨b, 0, none⟩), .int .i64 i] w fun e w' => e = .returned (.tuple #[.bool (D.pu.store i).1, .int .i64 (D.pu.store i).2.1]) ∧ Goes w b D (D.pu.store i).2.2 w' := by
 have HT : Hid (Calls Tryz.prog 99 #[.pointer (some ⟨b, 27, none⟩), .int .i64 i] w fun e w' => e = .returned (.tuple #[.agg #[.string ⟨#[]⟩, .int .i32 0, .int .u64 0, .int .u64 0, .bool false, .int .u64 0], .int .i64 10]) ∧ Kept (fun _ => False) w w') := (dtake w b D i h hf).mono fun e w' hp => by
  rcases hp with ⟨_, e1, hk⟩ | ⟨h1, h2, _⟩
  · exact ⟨e1, hk⟩
  · omega
 have HE : Hid (D.pu.store i = (false, 10, D.pu)) := by
  show _ = _
  rw [DP.store]
  by_cases h0 : i < 0
  · rw [if_pos h0]
  · rw [if_neg h0]
   have : D.pu.puts[i.toNat]? = none := List.getElem?_eq_none_iff.mpr (show D.puts.length ≤ i.toNat by omega)
   rw [this]
 have HG : Hid (∀ W, Kept (fun _ => False) w W → Goes w b D D.pu W) := fun W hW => Goes.of_kept h hW
 clear h hf hi
 go_enter Tryz.func45, Tryz.ntmps45
 go_wp2_with (go_at_call 99; refine HT.out.mono ?_; rintro e w1 ⟨rfl, hk1⟩)
 go_ret2
 exact ⟨by rw [HE.out]; rfl, by rw [HE.out]; exact HG.out _ (hk1.allocNew _)⟩
theorem dStore_good (w : World) (b : Nat) (D : DevS) (i : Nat) (h : Dev w b D) (hw : D.Walk) (hi : i < D.puts.length) :
  Calls Tryz.prog 45 #[.pointer (some ⟨b, 0, none⟩), .int .i64 (i : Int)] w fun e w' => e = .returned (.tuple #[.bool (D.pu.store i).1, .int .i64 (D.pu.store i).2.1]) ∧ Goes w b D (D.pu.store i).2.2 w' := by
 obtain ⟨x, hx⟩ : ∃ x, D.puts[i]? = some x := ⟨_, List.getElem?_eq_getElem hi⟩
 have hxq := hw.putq x (List.mem_of_getElem? hx)
 obtain ⟨k, hk⟩ : ∃ k, k = D.pu.nodeN x.q := ⟨_, rfl⟩
 have hkl : k < D.nodes.length := by rw [hk]; show sumB x.q.data.toList % (D.nodes.map (·.p)).length < _; rw [List.length_map]; exact Nat.mod_lt _ hw.n1
 obtain ⟨nd, hnd⟩ : ∃ nd, D.nodes[k]? = some nd := ⟨_, List.getElem?_eq_getElem hkl⟩
 have hW := hw.nodes nd (List.mem_of_getElem? hnd)
 have HE : Hid (D.pu.store (i : Int) = ((nd.p.store x).2, 0, { D.pu with puts := D.puts.eraseIdx i, sites := D.pu.sites.set k (nd.p.store x).1 })) := by
  show _ = _
  rw [DP.store, if_neg (by omega), Int.toNat_natCast]
  have e1 : D.pu.puts[i]? = some x := hx
  rw [e1]
  dsimp only
  rw [← hk]
  have e2 : D.pu.sites[k]? = some nd.p := by show (D.nodes.map (·.p))[k]? = _; rw [List.getElem?_map, hnd]; rfl
  rw [e2]
  rfl
 have HT : Hid (Calls Tryz.prog 99 #[.pointer (some ⟨b, 27, none⟩), .int .i64 (i : Int)] w fun e w' => e = .returned (.tuple #[.agg #[.string x.q, .int .i32 x.val, .int .u64 (x.fr : Int), .int .u64 (x.till : Int), .bool x.op, .int .u64 (x.kn : Int)], .int .i64 0]) ∧ Hid (∃ v, DBecame w b D w' (D.setPuts (D.puts.eraseIdx i) v))) := (dtake w b D i h hw.fit).mono fun e w' hp => by
  rcases hp with ⟨hb, _⟩ | ⟨h1, h2, x', hx', e1, v, r⟩
  · omega
  · rw [Int.toNat_natCast] at hx' r
   rw [hx] at hx'
   injection hx' with hx'
   subst hx'
   exact ⟨e1, v, r⟩
 have HNO : Hid (∀ W v, Dev W b (D.setPuts (D.puts.eraseIdx i) v) → ∃ g, D.vn.ownBlock = some g ∧ Calls Tryz.prog 88 #[.pointer (some ⟨b, 0, none⟩), .string x.q] W fun e w' => e = .returned (.pointer (some ⟨g, k * 8, none⟩)) ∧ W = w') := fun W v hW2 => by
  obtain ⟨g, _, _, ho, _⟩ := hW2.nodes.block hw.n1
  refine ⟨g, ho, ?_⟩
  have := dnodeOf W b g (D.setPuts (D.puts.eraseIdx i) v) x.q hW2 ho hw.n1 (by have := hw.n3; show D.nodes.length ≤ 1000; omega) hxq
  rw [hk]
  exact this
 have HST : Hid (∀ W g v, D.vn.ownBlock = some g → DBecame w b D W (D.setPuts (D.puts.eraseIdx i) v) → Calls Tryz.prog 101 #[.pointer (some ⟨g, k * 8, none⟩), .agg #[.string x.q, .int .i32 x.val, .int .u64 (x.fr : Int), .int .u64 (x.till : Int), .bool x.op, .int .u64 (x.kn : Int)]] W fun e w' => e = .returned (.bool (nd.p.store x).2) ∧ Hid (Goes w b D { D.pu with puts := D.puts.eraseIdx i, sites := D.pu.sites.set k (nd.p.store x).1 } w')) := fun W g v ho hB => by
  have hnd' : (D.setPuts (D.puts.eraseIdx i) v).nodes[k]? = some nd := hnd
  refine (dNStore W b k g _ nd x hB.1 hnd' ho hW.ok hW.el hW.r1 hW.r2 hW.us (by unfold maxLen; omega)).mono fun e w' hp => ⟨hp.1, ?_⟩
  obtain ⟨n2, e2, hb2⟩ := hp.2.out
  refine ⟨_, ?_, hB.trans hb2⟩
  rw [DevS.pu_put, e2]
  unfold DP.put
  rw [Int.toNat_natCast]
  rfl
 have HKB : Hid (∀ W W' v, DBecame w b D W (D.setPuts (D.puts.eraseIdx i) v) → Kept (fun _ => False) W W' → DBecame w b D W' (D.setPuts (D.puts.eraseIdx i) v)) := fun W W' v hB hk => ⟨hB.1.kept hk (fun _ _ => id), hB.2.1.trans hk (fun _ => id) (fun _ _ => False.elim), hB.2.2⟩
 clear h hw hi hx hnd hW hk hkl
 go_enter Tryz.func45, Tryz.ntmps45
 go_wp2_with first
  | (go_at_call 99; refine HT.out.mono ?_; rintro e w1 ⟨rfl, hv1⟩; obtain ⟨v, hB⟩ := hv1.out; have HB1 : Hid (DBecame w b D (w1.alloc (.cells #[.string x.q, .int .i32 x.val, .int .u64 (x.fr : Int), .int .u64 (x.till : Int), .bool x.op, .int .u64 (x.kn : Int)] 55)) (D.setPuts (D.puts.eraseIdx i) v)) := HKB.out _ _ _ hB (Kept.alloc _ _ _); obtain ⟨g, hg, hno⟩ := HNO.out _ _ HB1.out.1; have HG : Hid (D.vn.ownBlock = some g) := hg; have HNC : Hid (Calls Tryz.prog 88 #[.pointer (some ⟨b, 0, none⟩), .string x.q] (w1.alloc (.cells #[.string x.q, .int .i32 x.val, .int .u64 (x.fr : Int), .int .u64 (x.till : Int), .bool x.op, .int .u64 (x.kn : Int)] 55)) fun e w' => e = .returned (.pointer (some ⟨g, k * 8, none⟩)) ∧ (w1.alloc (.cells #[.string x.q, .int .i32 x.val, .int .u64 (x.fr : Int), .int .u64 (x.till : Int), .bool x.op, .int .u64 (x.kn : Int)] 55)) = w') := hno; clear hv1 hB hg hno)
  | (go_at_call 88; refine HNC.out.mono ?_; rintro e w2 ⟨rfl, rfl⟩)
  | (go_at_call 101; refine (HST.out _ g v HG.out HB1.out).mono ?_; rintro e w3 ⟨rfl, hr⟩)
 go_ret2
 exact ⟨by rw [HE.out]; rfl, by rw [HE.out]; exact hr.out⟩
theorem dStore (w : World) (b : Nat) (D : DevS) (i : Int) (h : Dev w b D) (hw : D.Walk) :
  Calls Tryz.prog 45 #[.pointer (some ⟨b, 0, none⟩), .int .i64 i] w fun e w' => e = .returned (.tuple #[.bool (D.pu.store i).1, .int .i64 (D.pu.store i).2.1]) ∧ Goes w b D (D.pu.store i).2.2 w' := by
 by_cases hi : i < 0 ∨ (D.puts.length : Int) ≤ i
 · exact dStore_bad w b D i h hw.fit hi
 · obtain ⟨j, rfl⟩ : ∃ j : Nat, i = j := ⟨i.toNat, by omega⟩
  exact dStore_good w b D j h hw (by omega)
def mapTo {α : Type} (f : α → α) (l : List α) (j : Nat) : List α := (l.take j).map f ++ l.drop j
theorem mapTo_zero {α : Type} (f : α → α) (l : List α) : mapTo f l 0 = l := by simp [mapTo]
theorem mapTo_all {α : Type} (f : α → α) (l : List α) : mapTo f l l.length = l.map f := by simp [mapTo]
theorem mapTo_len {α : Type} (f : α → α) (l : List α) (j : Nat) : (mapTo f l j).length = l.length := by simp [mapTo]; omega
theorem mapTo_at {α : Type} (f : α → α) (l : List α) (j : Nat) (h : j < l.length) : (mapTo f l j)[j]? = some l[j] := by
 unfold mapTo
 rw [List.getElem?_append_right (by simp; omega)]
 simp [Nat.min_eq_left (Nat.le_of_lt h)]
theorem mapTo_next {α : Type} (f : α → α) (l : List α) (j : Nat) (h : j < l.length) : (mapTo f l j).set j (f l[j]) = mapTo f l (j + 1) := by
 unfold mapTo
 rw [List.set_append_right _ _ (by simp; omega), List.take_succ_eq_append_getElem h, List.map_append, List.append_assoc]
 congr 1
 have e : l.drop j = l[j] :: l.drop (j + 1) := List.drop_eq_getElem_cons h
 simp only [List.length_map, List.length_take, Nat.min_eq_left (Nat.le_of_lt h), Nat.sub_self]
 rw [e]
 rfl
theorem dCommit_no (w : World) (b : Nat) (D : DevS) (ao : Option Addr) (n cap : Nat) (ws : List (Int × Int)) (er : Int) (h : Dev w b D) (her : er ≠ 0)
  (hc : Calls Tryz.prog 74 #[.pointer (some ⟨b, 0, none⟩), .slice ao n cap] w fun e w' => e = .returned (.tuple #[.int .u64 0, .int .i64 er]) ∧ Kept (fun _ => False) w w') (hE : D.pu.commit n ws = (0, er, D.pu)) :
  Calls Tryz.prog 28 #[.pointer (some ⟨b, 0, none⟩), .slice ao n cap] w fun e w' => e = .returned (.tuple #[.int .u64 ((D.pu.commit n ws).1 : Int), .int .i64 (D.pu.commit n ws).2.1]) ∧ Goes w b D (D.pu.commit n ws).2.2 w' := by
 have HC : Hid (Calls Tryz.prog 74 #[.pointer (some ⟨b, 0, none⟩), .slice ao n cap] w fun e w' => e = .returned (.tuple #[.int .u64 0, .int .i64 er]) ∧ Kept (fun _ => False) w w') := hc
 have HE : Hid (D.pu.commit n ws = (0, er, D.pu)) := hE
 have HG : Hid (∀ W, Kept (fun _ => False) w W → Goes w b D D.pu W) := fun W hW => Goes.of_kept h hW
 have hb : (er == 0) = false := beq_eq_false_iff_ne.mpr her
 have hb' : (er != 0) = true := by simp [bne, hb]
 clear h hc hE her
 go_enter Tryz.func28, Tryz.ntmps28
 go_wp2_with (go_at_call 74; refine HC.out.mono ?_; rintro e w1 ⟨rfl, hk1⟩)
 go_ret2
 exact ⟨by rw [HE.out]; rfl, by rw [HE.out]; exact HG.out _ hk1⟩
theorem dCommit_yes (w : World) (b : Nat) (D : DevS) (ao : Option Addr) (n cap : Nat) (ws : List (Int × Int)) (h : Dev w b D) (hw : D.Walk) (hwr : Wr w ao n ws) (hn : n ≤ 8) (hk : ws.all keyOk = true) (hp : D.past.length < 700) :
  Calls Tryz.prog 28 #[.pointer (some ⟨b, 0, none⟩), .slice ao n cap] w fun e w' => e = .returned (.tuple #[.int .u64 ((D.pu.commit n ws).1 : Int), .int .i64 (D.pu.commit n ws).2.1]) ∧ Goes w b D (D.pu.commit n ws).2.2 w' := by
 obtain ⟨q, hq⟩ : ∃ q, q = D.nextP ws := ⟨_, rfl⟩
 have HE : Hid (D.pu.commit n ws = (D.past.length + 1, 0, D.pu.push q)) := by
  show _ = _
  rw [DP.commit, if_neg (by omega), if_neg (by rw [hk]; simp), if_neg (show ¬ 700 ≤ D.pu.past.length by show ¬ 700 ≤ D.past.length; omega), hq]
  rfl
 have HC : Hid (Calls Tryz.prog 74 #[.pointer (some ⟨b, 0, none⟩), .slice ao n cap] w fun e w' => e = .returned (.tuple #[.int .u64 ((D.past.length : Int) + 1), .int .i64 0]) ∧ Hid (∃ v, DBecame w b D w' (D.pushP q v))) := (dcommit0 w b D ao n cap ws h hw.fit hwr hn).mono fun e w' hp2 => by
  rcases hp2 with ⟨a, _⟩ | ⟨_, a, _⟩ | ⟨_, _, e1, v, r⟩
  · rw [hk] at a; cases a
  · omega
  · rw [← hq] at r
   exact ⟨by rw [e1]; simp, v, r⟩
 have hFit : ∀ v, (D.pushP q v).Fit := fun v => ⟨by show (D.past ++ [q]).length ≤ 700; simp; omega, hw.fit.clk0, hw.fit.clk1, hw.fit.bmax, hw.fit.qmax⟩
 have HWT : Hid (∀ W v, Dev W b (D.pushP q v) → Calls Tryz.prog 75 #[.pointer (some ⟨b, 0, none⟩), .int .u64 ((D.past.length : Int) + 1)] W fun e w' => e = .returned (.int .u8 q.keys) ∧ W = w') := fun W v hD => dwrote0 W b _ D.past.length q hD (hFit v) (by show (D.past ++ [q])[D.past.length]? = _; simp)
 obtain ⟨f, hf⟩ : ∃ f : NodeP → NodeP, f = fun s => s.tell (D.past.length + 1) q.keys := ⟨_, rfl⟩
 obtain ⟨L, hL⟩ : ∃ L, L = D.pu.sites := ⟨_, rfl⟩
 have hLl : L.length = D.nodes.length := by rw [hL]; show (D.nodes.map (·.p)).length = _; simp
 obtain ⟨J, hJ⟩ : ∃ J : World → Nat → Prop, J = fun W j => ∃ D2 : DevS, D2.pu = { D.pu with past := D.past ++ [q], sites := mapTo f L j } ∧ DBecame w b D W D2 := ⟨_, rfl⟩
 have HJ0 : Hid (∀ W v, DBecame w b D W (D.pushP q v) → J W 0) := fun W v hB => by
  rw [hJ]
  exact ⟨_, by rw [mapTo_zero, hL]; rfl, hB⟩
 have HJE : Hid (∀ W, J W L.length → Goes w b D (D.pu.push q) W) := fun W hj => by
  rw [hJ] at hj
  obtain ⟨D2, e2, hb2⟩ := hj
  refine ⟨D2, ?_, hb2⟩
  rw [e2, mapTo_all, hL, hf]
  rfl
 have HCE : Hid (∀ W j, J W j → ∃ (av : Option Addr) (cv : Nat), W.cell? ⟨b, 28, none⟩ = some (.slice av L.length cv)) := fun W j hj => by
  rw [hJ] at hj
  obtain ⟨D2, e2, hb2⟩ := hj
  obtain ⟨av, cv, hv, _⟩ := hb2.1.nodes.form
  have hl2 : D2.nodes.length = L.length := by
   have : D2.pu.sites.length = L.length := by rw [e2]; exact mapTo_len f L j
   have e3 : D2.pu.sites.length = D2.nodes.length := by show (D2.nodes.map (·.p)).length = _; simp
   omega
  rw [hl2] at hv
  exact ⟨av, cv, by rw [← hv]; exact hb2.1.c28⟩
 have HTL : Hid (∀ W j (hj : j < L.length), J W j → ∃ (g cv : Nat), W.cell? ⟨b, 28, none⟩ = some (.slice (some ⟨g, 0, none⟩) L.length cv) ∧ Calls Tryz.prog 76 #[.pointer (some ⟨g, j * 8, none⟩), .int .u64 ((D.past.length : Int) + 1), .int .u8 q.keys] W fun e w' => e = .returned (.tuple #[]) ∧ Hid (J w' (j + 1))) := fun W j hj hJj => by
  rw [hJ] at hJj
  obtain ⟨D2, e2, hb2⟩ := hJj
  have hs2 : D2.nodes.map (·.p) = mapTo f L j := by
   have : D2.pu.sites = mapTo f L j := by rw [e2]
   exact this
  have hl2 : D2.nodes.length = L.length := by
   have := congrArg List.length hs2
   rw [mapTo_len] at this
   simpa using this
  obtain ⟨g, cv, hv, ho, _⟩ := hb2.1.nodes.block (by omega)
  obtain ⟨nd, hnd⟩ : ∃ nd, D2.nodes[j]? = some nd := ⟨_, List.getElem?_eq_getElem (by omega)⟩
  have hndp : nd.p = L[j] := by
   have h1 : (D2.nodes.map (·.p))[j]? = some nd.p := by rw [List.getElem?_map, hnd]; rfl
   rw [hs2, mapTo_at f L j hj] at h1
   injection h1 with h1
   exact h1.symm
  have hWn : nd.p.Walk := by
   rw [hndp]
   have : L[j] ∈ D.nodes.map (·.p) := by rw [← show D.pu.sites = D.nodes.map (·.p) from rfl, ← hL]; exact List.getElem_mem hj
   obtain ⟨x, hx, e⟩ := List.mem_map.mp this
   rw [← e]
   exact hw.nodes x hx
  refine ⟨g, cv, by rw [← hl2, ← hv]; exact hb2.1.c28, ?_⟩
  have := dtell W b j g D2 nd (D.past.length + 1) q.keys hb2.1 hnd ho hWn.fl hWn.fs (by have := hWn.ok.hz; omega)
  rw [show (((D.past.length + 1 : Nat)) : Int) = (D.past.length : Int) + 1 by omega] at this
  refine this.mono fun e w' hp3 => ⟨hp3.1, ?_⟩
  obtain ⟨n3, e3, hb3⟩ := hp3.2.out
  show J w' (j + 1)
  rw [hJ]
  refine ⟨_, ?_, hb2.trans hb3⟩
  rw [DevS.pu_put, e3, e2, hndp]
  unfold DP.put
  rw [Int.toNat_natCast, ← mapTo_next f L j hj]
  subst hf
  rfl
 have hlm : L.length ≤ 3 := by have := hw.n3; omega
 clear h hw hwr hn hk hq hFit hf hL hJ hLl
 go_enter Tryz.func28, Tryz.ntmps28
 go_wp2_with first
  | (go_at_call 74; refine HC.out.mono ?_; rintro e w1 ⟨rfl, hv1⟩; obtain ⟨v, hB⟩ := hv1.out; have HJ1 : Hid (J w1 0) := HJ0.out _ _ hB; have HW1 : Hid (Calls Tryz.prog 75 #[.pointer (some ⟨b, 0, none⟩), .int .u64 ((D.past.length : Int) + 1)] w1 fun e w' => e = .returned (.int .u8 q.keys) ∧ w1 = w') := HWT.out _ _ hB.1; obtain ⟨av, cv, c28⟩ := HCE.out _ _ HJ1.out; clear hB hv1)
  | (go_at_call 75; refine HW1.out.mono ?_; rintro e w2 ⟨rfl, rfl⟩)
 go_loopw [32] (fun iv wr => ∃ j : Nat, j ≤ L.length ∧ iv = .int .i64 j ∧ Hid (J wr j)) (fun iv _ => L.length - (intOf iv).toNat)
 case atStart => exact ⟨0, Nat.zero_le _, rfl, HJ1.out⟩
 case round =>
  obtain ⟨j, hj, rfl, HT⟩ := hrel
  by_cases hlt : j < L.length
  · obtain ⟨g, cv', d28, hcall⟩ := HTL.out wr j hlt HT.out
   have HCL : Hid (Calls Tryz.prog 76 #[.pointer (some ⟨g, j * 8, none⟩), .int .u64 ((D.past.length : Int) + 1), .int .u8 q.keys] wr fun e w' => e = .returned (.tuple #[]) ∧ Hid (J w' (j + 1))) := hcall
   have hj0 : (0 : Int) ≤ (j : Int) := by omega
   have hj1 : (j : Int) < (L.length : Int) := by omega
   clear hcall
   go_wp2_with (go_at_call 76; refine HCL.out.mono ?_; rintro e w3 ⟨rfl, hT3⟩)
   go_roundw
   case rel => exact ⟨j + 1, by omega, by go_num, hT3.out⟩
   case measure => simp [intOf]; omega
  · have hjn : j = L.length := by omega
   subst hjn
   have HG := HJE.out wr HT.out
   go_wp2
   go_ret2
   exact ⟨by rw [HE.out]; simp, by rw [HE.out]; exact HG⟩
theorem dCommit (w : World) (b : Nat) (D : DevS) (ao : Option Addr) (n cap : Nat) (ws : List (Int × Int)) (h : Dev w b D) (hw : D.Walk) (hwr : Wr w ao n ws) (hm : n ≤ maxLen) :
  Calls Tryz.prog 28 #[.pointer (some ⟨b, 0, none⟩), .slice ao n cap] w fun e w' => e = .returned (.tuple #[.int .u64 ((D.pu.commit n ws).1 : Int), .int .i64 (D.pu.commit n ws).2.1]) ∧ Goes w b D (D.pu.commit n ws).2.2 w' := by
 by_cases hn : 8 < n
 · refine dCommit_no w b D ao n cap ws 3 h (by decide) ((dcommit_long w b ao n cap hn hm).mono fun e w' hp => ⟨hp.1, by rw [← hp.2]; exact Kept.refl _ _⟩) (by rw [DP.commit, if_pos hn])
 · cases hk : ws.all keyOk with
  | false =>
   refine dCommit_no w b D ao n cap ws 5 h (by decide) ((dcommit0 w b D ao n cap ws h hw.fit hwr (by omega)).mono fun e w' hp => ?_) (by rw [DP.commit, if_neg hn, if_pos hk])
   rcases hp with ⟨_, e1, k⟩ | ⟨a, _⟩ | ⟨a, _⟩
   · exact ⟨e1, k⟩
   · rw [hk] at a; cases a
   · rw [hk] at a; cases a
  | true =>
   by_cases hp : D.past.length < 700
   · exact dCommit_yes w b D ao n cap ws h hw hwr (by omega) hk hp
   · refine dCommit_no w b D ao n cap ws 6 h (by decide) ((dcommit0 w b D ao n cap ws h hw.fit hwr (by omega)).mono fun e w' hp2 => ?_) (by rw [DP.commit, if_neg hn, if_neg (by rw [hk]; simp), if_pos (show 700 ≤ D.pu.past.length by show 700 ≤ D.past.length; omega)])
    rcases hp2 with ⟨a, _⟩ | ⟨_, _, e1, k⟩ | ⟨_, a, _⟩
    · rw [hk] at a; cases a
    · exact ⟨e1, k⟩
    · omega
def RightPost (w : World) (l : List PastE) (K : Int) (t : Nat) (e : Ending) (w' : World) : Prop :=
 e = .returned (.tuple #[.int .u64 (fromN (zeroP :: l) K t : Int), .int .u64 (((tillN (zeroP :: l) K (l.length - t)).getD 0 : Nat) : Int)]) ∧ Kept (fun _ => False) w w'
theorem dright (w : World) (b : Nat) (D : DevS) (K : Int) (t : Nat) (h : Dev w b D) (hf : D.Fit) (ht : t ≤ D.past.length) :
  Calls Tryz.prog 139 #[.pointer (some ⟨b, 0, none⟩), .int .u8 K, .int .u64 t] w fun e w' => RightPost w D.past K t e w' := by
 have hm := hf.pmax
 obtain ⟨ao, cap, hv, hno⟩ := h.past.form
 have c1 := h.c1
 rw [hv] at c1
 have HCELL : Hid (∀ k (hk : k < D.past.length), ∃ g, ao = some ⟨g, 0, none⟩ ∧ ∀ f, f < 10 → w.cell? ⟨g, k * 10 + f, none⟩ = (pastC D.past[k])[f]?) := by
  intro k hk
  obtain ⟨g, cap', hv', ho, _⟩ := h.past.block (by omega)
  rw [hv] at hv'
  injection hv' with e1 _ _
  refine ⟨g, e1, fun f hf => ?_⟩
  have e := past_at D.past k hk f hf
  obtain ⟨u, hu⟩ : ∃ u, (pastC D.past[k])[f]? = some u := ⟨(pastC D.past[k])[f]'(by simpa [pastC] using hf), List.getElem?_eq_getElem _⟩
  rw [hu]
  exact h.past.cell ho _ u (e.trans hu)
 obtain ⟨L, hL⟩ : ∃ L, L = zeroP :: D.past := ⟨_, rfl⟩
 have hll : L.length = D.past.length + 1 := by rw [hL]; rfl
 have HT : Hid (∀ k (hk : k < D.past.length), touchB L K (k + 1) = (bits .and .u8 D.past[k].keys K != 0)) := fun k hk => touchB_some K (by rw [hL, List.getElem?_cons_succ]; exact List.getElem?_eq_getElem hk)
 have HPO : Hid (∀ (e : Ending) (w' : World), e = .returned (.tuple #[.int .u64 (fromN L K t : Int), .int .u64 (((tillN L K (D.past.length - t)).getD 0 : Nat) : Int)]) → Kept (fun _ => False) w w' → RightPost w D.past K t e w') := fun e w' h1 h2 => ⟨by rw [← hL]; exact h1, h2⟩
 clear h hf hv hno hL
 go_enter Tryz.func139, Tryz.ntmps139
 go_wp2
 go_loopw [8, 17] (fun fr i wr => ∃ k : Nat, k ≤ D.past.length ∧ i = .int .i64 k ∧ fr = .int .u64 (fromN L K (min k t) : Int) ∧ Hid (∀ s, t < s → s ≤ k → touchB L K s = false) ∧ Hid (Kept (fun _ => False) w wr)) (fun _ i _ => D.past.length - (intOf i).toNat)
 case atStart => exact ⟨0, Nat.zero_le _, rfl, by simp [fromN], fun s h1 h2 => by omega, Kept.refl _ _⟩
 case round =>
  obtain ⟨k, hk, rfl, rfl, HB, HK⟩ := hrel
  have hfl := fromN_le L K (min k t)
  by_cases hlt : k < D.past.length
  · obtain ⟨g, hg, hcell⟩ := HCELL.out k hlt
   have HTK := HT.out k hlt
   obtain ⟨p, hp⟩ : ∃ p, p = D.past[k] := ⟨_, rfl⟩
   rw [← hp] at hcell HTK
   have s0 : wr.cell? ⟨g, k * 10, none⟩ = some (.int .i32 (p.st 0)) := HK.out.keep id (hcell 0 (by omega))
   have s1 : wr.cell? ⟨g, k * 10 + 1, none⟩ = some (.int .i32 (p.st 1)) := HK.out.keep id (hcell 1 (by omega))
   have s2 : wr.cell? ⟨g, k * 10 + 2, none⟩ = some (.int .i32 (p.st 2)) := HK.out.keep id (hcell 2 (by omega))
   have s3 : wr.cell? ⟨g, k * 10 + 3, none⟩ = some (.int .i32 (p.st 3)) := HK.out.keep id (hcell 3 (by omega))
   have s4 : wr.cell? ⟨g, k * 10 + 4, none⟩ = some (.int .i32 (p.st 4)) := HK.out.keep id (hcell 4 (by omega))
   have s5 : wr.cell? ⟨g, k * 10 + 5, none⟩ = some (.int .i32 (p.st 5)) := HK.out.keep id (hcell 5 (by omega))
   have s6 : wr.cell? ⟨g, k * 10 + 6, none⟩ = some (.int .i32 (p.st 6)) := HK.out.keep id (hcell 6 (by omega))
   have s7 : wr.cell? ⟨g, k * 10 + 7, none⟩ = some (.int .i32 (p.st 7)) := HK.out.keep id (hcell 7 (by omega))
   have s8 : wr.cell? ⟨g, k * 10 + 8, none⟩ = some (.int .u8 p.keys) := HK.out.keep id (hcell 8 (by omega))
   have s9 : wr.cell? ⟨g, k * 10 + 9, none⟩ = some (.int .i64 p.tick) := HK.out.keep id (hcell 9 (by omega))
   clear hcell hp c1
   subst hg
   obtain ⟨fr, hfr⟩ : ∃ fr, fr = fromN L K (min k t) := ⟨_, rfl⟩
   rw [← hfr] at hfl ⊢
   have HFR : Hid (fr = fromN L K (min k t)) := hfr
   clear hfr
   cases hbz : (bits .and .u8 p.keys K == 0) with
   | true =>
    have HTB : Hid (touchB L K (k + 1) = false) := by show _ = _; rw [HTK]; simp [bne, hbz]
    have HNX : Hid (fromN L K (min (k + 1) t) = fr) := by
     show _ = _
     by_cases hkt : k + 1 ≤ t
     · rw [fromN_step hkt, HTB.out, HFR.out]; rfl
     · rw [fromN_past (by omega), HFR.out]
    clear HTK
    go_wp2
    go_roundw
    case rel =>
     refine ⟨k + 1, by omega, by go_num, by rw [HNX.out], fun s h1 h2 => ?_, HK.out.allocNew _⟩
     by_cases e : s = k + 1
     · subst e; exact HTB.out
     · exact HB.out s h1 (by omega)
    case measure => simp [intOf]; omega
   | false =>
    have HTB : Hid (touchB L K (k + 1) = true) := by show _ = _; rw [HTK]; simp [bne, hbz]
    clear HTK
    by_cases hkt : k + 1 ≤ t
    · have HNX : Hid (fromN L K (min (k + 1) t) = k + 1) := by show _ = _; rw [fromN_step hkt, HTB.out]; rfl
     go_wp2
     go_roundw
     case rel => exact ⟨k + 1, by omega, by go_num, by rw [HNX.out]; go_num, fun s h1 h2 => by omega, HK.out.allocNew _⟩
     case measure => simp [intOf]; omega
    · have HNX : Hid (fromN L K t = fr ∧ tillN L K (D.past.length - t) = some (k + 1)) := by
      refine ⟨by rw [HFR.out]; congr 1; omega, ?_⟩
      exact till_some _ (by omega) (by omega) (by omega) HTB.out fun r h1 h2 => HB.out r (by omega) (by omega)
     go_wp2
     go_ret2
     refine HPO.out _ _ ?_ (HK.out.allocNew _)
     rw [HNX.out.1, HNX.out.2]
     rfl
  · have hkk : k = D.past.length := by omega
   subst hkk
   have HNX : Hid (fromN L K (min D.past.length t) = fromN L K t ∧ tillN L K (D.past.length - t) = none) := by
    refine ⟨by congr 1; omega, till_none _ (by omega) fun s h1 h2 => HB.out s (by omega) (by omega)⟩
   go_wp2
   go_ret2
   refine HPO.out _ _ ?_ HK.out
   rw [HNX.out.2, ← HNX.out.1]
   rfl
end Go.Proofs.YtpfcacedpkaihaaGreat
