import Derived.Deep.RegionWith
import Derived.Deep.DeepCutAuto
import Derived.Test.YtpfcacedpkaihaaGreatC17
import Derived.Test.YtpfcacedpkaihaaGreatC18
import Derived.Test.YtpfcacedpkaihaaGreatC6
namespace Go.Proofs.YtpfcacedpkaihaaGreat
open Go.RowKit
set_option maxRecDepth 100000
set_option maxHeartbeats 16000000
def DRefusePost (w : World) (er : Int) (e : Ending) (w' : World) : Prop := e = .returned (.tuple #[.int .i32 0, .bool false, .int .i64 er]) ∧ Kept (fun _ => False) w w'
theorem dread_gone (w : World) (b : Nat) (D : DevS) (m : Int) (q : ByteArray) (h : Dev w b D) (hall : ∀ i, i < 6 → (D.seats i).reads = true → (D.seats i).num ≠ m) :
  Calls Tryz.prog 38 #[.pointer (some ⟨b, 0, none⟩), .int .i64 m, .string q] w fun e w' => DRefusePost w 8 e w' := by
 have H0 : Hid (Calls Tryz.prog 87 #[.pointer (some ⟨b, 2, none⟩), .int .i64 m] w fun e w' => e = .returned (.tuple #[.agg #[.int .u64 0, .int .u64 0], .int .i64 8]) ∧ Kept (fun _ => False) w w') := (dspan w b D m h).mono fun e w' hp => by
  obtain ⟨k, ⟨_, e1⟩ | ⟨j, hj, hr, hn, _⟩⟩ := hp
  · exact ⟨e1, k⟩
  · exact absurd hn (hall j hj hr)
 clear h hall
 go_enter Tryz.func38, Tryz.ntmps38
 go_wp2_with (go_at_call 87; refine H0.out.mono ?_; rintro e w1 ⟨rfl, hk1⟩)
 exact bodyPost_ret (v := .tuple #[.int .i32 0, .bool false, .int .i64 8]) (by simp [results, Tryz.results38, go_sem]) rfl ⟨rfl, hk1.allocNew _⟩
theorem dread_bad (w : World) (b : Nat) (D : DevS) (m : Int) (q : ByteArray) (er : Int) (j : Nat) (h : Dev w b D) (hj : j < 6) (hr : (D.seats j).reads = true) (hn : (D.seats j).num = m) (hq : q.size ≤ maxLen) (her : er ≠ 0) (hrd : Q.readL q.data.toList = (er, [])) :
  Calls Tryz.prog 38 #[.pointer (some ⟨b, 0, none⟩), .int .i64 m, .string q] w fun e w' => DRefusePost w er e w' := by
 have H0 : Hid (Calls Tryz.prog 87 #[.pointer (some ⟨b, 2, none⟩), .int .i64 m] w fun e w' => ∃ x y : Int, e = .returned (.tuple #[.agg #[.int .u64 x, .int .u64 y], .int .i64 0]) ∧ Kept (fun _ => False) w w') := (dspan w b D m h).mono fun e w' hp => by
  obtain ⟨k, ⟨a, _⟩ | ⟨j, hj, hr, hn, e1⟩⟩ := hp
  · exact absurd hn (a j hj hr)
  · exact ⟨_, _, e1, k⟩
 have H1 : Hid (∀ W, Calls Tryz.prog 71 #[.string q] W fun e w' => e = .returned (.tuple #[.agg #[.int .u8 0, .int .i64 0], .int .i64 er]) ∧ Kept (fun _ => False) W w') := fun W => by
  have := qParse_any q W hq
  rw [hrd] at this
  exact this.mono fun e w' hp => ⟨hp.1, Kept.of_below hp.2 _⟩
 have hne : (er == 0) = false := beq_eq_false_iff_ne.mpr her
 clear h hj hr hn hq hrd her
 go_enter Tryz.func38, Tryz.ntmps38
 go_wp2_with first
  | (go_at_call 87; refine H0.out.mono ?_; rintro e w1 ⟨x, y, rfl, hk1⟩)
  | (go_at_call 71; refine (H1.out _).mono ?_; rintro e w2 ⟨rfl, hk2⟩)
 exact bodyPost_ret (v := .tuple #[.int .i32 0, .bool false, .int .i64 er]) (by simp [results, Tryz.results38, go_sem]) rfl ⟨rfl, ((hk1.allocNew _).trans hk2 (fun _ => id) (fun _ _ => id)).allocNew _⟩
theorem two_box {w1 w3 : World} {a b : Value} {T : TypeId} (k : Kept (fun _ => False) (w1.alloc (.cells #[a, b] T)) w3) : w3.cell? ⟨w1.heap.size, 0, none⟩ = some a ∧ w3.cell? ⟨w1.heap.size, 1, none⟩ = some b ∧ w1.heap.size < w3.heap.size :=
 ⟨k.keep id (by simp), k.keep id (by simp), by have := k.size; simp at this; omega⟩
namespace DP
end DP
theorem DBecame.seat {w W w' : World} {b j : Nat} {D D1 : DevS} {x : SeatE} (h : DBecame w b D W D1) (hd : Dev w' b (D1.seatP j x D1.begun)) (hk : Kept (D1.fp b) W w') : DBecame w b D w' (D1.seatP j x D1.begun) :=
 h.trans ⟨hd, hk, fun _ hx => .inl hx⟩
theorem DBecame.more {w W w' : World} {b : Nat} {D D1 : DevS} (h : DBecame w b D W D1) (hk : Kept (fun _ => False) W w') : DBecame w b D w' D1 := h.trans (DBecame.of_kept h.1 hk)
theorem dread_hit (w : World) (b : Nat) (D : DevS) (m : Int) (q : ByteArray) (ts : List (Nat × Nat)) (j i : Nat) (nd : DNodeE) (x : HeldE) (h : Dev w b D) (hw : D.Walk) (hj : j < 6) (hr : (D.seats j).reads = true) (hn : (D.seats j).num = m) (hone : ∀ i, i < 6 → (D.seats i).reads = true → (D.seats i).num = m → i = j) (hlh : (D.seats j).lo ≤ (D.seats j).hi) (hq : q.size ≤ 40) (hrd : Q.readL q.data.toList = (0, ts))
  (hnd : D.nodes[D.pu.nodeN q]? = some nd) (ha : nd.p.ans q (D.seats j).lo (D.seats j).hi nd.p.ents.length = (i : Int)) (hx : nd.p.ents[i]? = some x) :
  Calls Tryz.prog 38 #[.pointer (some ⟨b, 0, none⟩), .int .i64 m, .string q] w fun e w' => e = .returned (.tuple #[.int .i32 x.e.val, .bool true, .int .i64 0]) ∧ Goes w b D (D.pu.hit j (D.pu.nodeN q) i nd.p x) w' := by
 have hW := hw.nodes nd (List.mem_of_getElem? hnd)
 obtain ⟨lo, hlo⟩ : ∃ lo, lo = (D.seats j).lo := ⟨_, rfl⟩
 obtain ⟨hi, hhi⟩ : ∃ hi, hi = (D.seats j).hi := ⟨_, rfl⟩
 obtain ⟨K, hK⟩ : ∃ K, K = keysL ts := ⟨_, rfl⟩
 obtain ⟨k, hk⟩ : ∃ k, k = D.pu.nodeN q := ⟨_, rfl⟩
 obtain ⟨L, hL⟩ : ∃ L, L = lastE x.e nd.p.horizon := ⟨_, rfl⟩
 rw [← hk] at hnd ⊢
 obtain ⟨g, _, _, ho, _⟩ := h.nodes.block hw.n1
 have H0 : Hid (Calls Tryz.prog 87 #[.pointer (some ⟨b, 2, none⟩), .int .i64 m] w fun e w' => e = .returned (.tuple #[.agg #[.int .u64 (lo : Int), .int .u64 (hi : Int)], .int .i64 0]) ∧ Kept (fun _ => False) w w') := (dspan w b D m h).mono fun e w' hp => by
  obtain ⟨k, ⟨a, _⟩ | ⟨i, hi, hri, hni, e1⟩⟩ := hp
  · exact absurd hn (a j hj hr)
  · have := hone i hi hri hni
   subst this
   exact ⟨by rw [e1, hlo, hhi], k⟩
 have H1 : Hid (∀ W, Calls Tryz.prog 71 #[.string q] W fun e w' => e = .returned (.tuple #[.agg #[.int .u8 K, .int .i64 (ts.length : Int)], .int .i64 0]) ∧ Kept (fun _ => False) W w') := fun W => (qParse_good q W ts hrd).mono fun e w' hp => ⟨by rw [hp.1, hK], Kept.of_below hp.2 _⟩
 have H2 : Hid (∀ W, Kept (fun _ => False) w W → Calls Tryz.prog 88 #[.pointer (some ⟨b, 0, none⟩), .string q] W fun e w' => e = .returned (.pointer (some ⟨g, k * 8, none⟩)) ∧ W = w') := fun W hW2 => by
  rw [hk]
  exact dnodeOf W b g D q (h.kept hW2 (fun _ _ => id)) ho hw.n1 (by have := hw.n3; omega) hq
 have H3 : Hid (∀ W, Kept (fun _ => False) w W → Calls Tryz.prog 89 #[.pointer (some ⟨g, k * 8, none⟩), .string q, .agg #[.int .u64 (lo : Int), .int .u64 (hi : Int)]] W fun e w' => e = .returned (.tuple #[.int .i32 x.e.val, .agg #[.int .u64 (x.e.fr : Int), .int .u64 (L : Int)], .bool true]) ∧ Hid (Turns W b D k (nd.p.use i x) w')) := fun W hW2 => by
  rw [← hlo, ← hhi] at ha hlh
  refine (dAnswer W b k g D nd q lo hi (h.kept hW2 (fun _ _ => id)) hnd ho (by have := hW.el; omega) hW.es hlh (by have := hW.us; omega)).mono fun e w' hp => ?_
  rcases hp with ⟨h1, _⟩ | ⟨i', x', h1, h2, e1, hT⟩
  · omega
  · obtain rfl : i = i' := by omega
   rw [hx] at h2
   injection h2 with h2
   subst h2
   exact ⟨by rw [e1, hL], hT⟩
 have H4 : Hid (∀ W W', Kept (fun _ => False) w W → Turns W b D k (nd.p.use i x) W' → ∀ W'', Kept (fun _ => False) W' W'' → Calls Tryz.prog 90 #[.pointer (some ⟨b, 2, none⟩), .int .i64 m, .agg #[.int .u64 (x.e.fr : Int), .int .u64 (L : Int)]] W'' fun e w' => e = .returned (.tuple #[]) ∧ Hid (Goes w b D (D.pu.hit j k i nd.p x) w')) := fun W W' hW2 hT W'' hk2 => by
  obtain ⟨n1, e1, hb1⟩ := (Turns.from hW2 hT).then hk2
  refine (dnarrow W'' b (D.putN k n1) m j x.e.fr L hb1.1 hj hr hn hone).mono fun e w' hp => ⟨hp.1, ?_⟩
  refine ⟨_, ?_, hb1.seat hp.2.1 hp.2.2⟩
  unfold DP.hit DevS.pu
  rw [hL]
  show (⟨_, _, _, _, _, ((D.nodes.set k n1).map (·.p))⟩ : DP) = _
  rw [List.map_set, e1]
  rfl
 clear h hw hj hr hn hone hlh hrd hnd ha hx hW hlo hhi hK hk hL ho
 go_enter Tryz.func38, Tryz.ntmps38
 go_wp2_with first
  | (go_at_call 87; refine H0.out.mono ?_; rintro e w1 ⟨rfl, hk1⟩)
  | (go_at_call 71; refine (H1.out _).mono ?_; rintro e w2 ⟨rfl, hk2⟩; obtain ⟨s0, s1, s2⟩ := two_box hk2; have HK2 : Hid (Kept (fun _ => False) w w2) := (hk1.allocNew _).trans hk2 (fun _ => id) (fun _ _ => id); clear hk1 hk2)
  | (go_at_call 88; refine (H2.out _ (HK2.out.allocNew _)).mono ?_; rintro e w3 ⟨rfl, rfl⟩)
  | (go_at_call 89; refine (H3.out _ (HK2.out.allocNew _)).mono ?_; rintro e w4 ⟨rfl, hT⟩; have HT4 : Hid (∀ W'', Kept (fun _ => False) w4 W'' → Calls Tryz.prog 90 #[.pointer (some ⟨b, 2, none⟩), .int .i64 m, .agg #[.int .u64 (x.e.fr : Int), .int .u64 (L : Int)]] W'' fun e w' => e = .returned (.tuple #[]) ∧ Hid (Goes w b D (D.pu.hit j k i nd.p x) w')) := H4.out _ _ (HK2.out.allocNew _) hT.out; clear hT)
 go_region_with ((go_at_call 90; refine (HT4.out _ ((Kept.alloc _ _ _).drewN _)).mono ?_; rintro e w5 ⟨rfl, hG⟩))
 all_goals
  go_wp2
  refine bodyPost_ret (v := .tuple #[.int .i32 x.e.val, .bool true, .int .i64 0]) (by simp [results, Tryz.results38, go_sem]) rfl ⟨rfl, hG.out⟩
theorem dread_miss (w : World) (b : Nat) (D : DevS) (m : Int) (q : ByteArray) (ts : List (Nat × Nat)) (j : Nat) (nd : DNodeE) (h : Dev w b D) (hw : D.Walk) (hj : j < 6) (hr : (D.seats j).reads = true) (hn : (D.seats j).num = m) (hone : ∀ i, i < 6 → (D.seats i).reads = true → (D.seats i).num = m → i = j) (hlh : (D.seats j).lo ≤ (D.seats j).hi) (hhi : (D.seats j).hi ≤ D.past.length) (hq : q.size ≤ 40) (hrd : Q.readL q.data.toList = (0, ts))
  (hnd : D.nodes[D.pu.nodeN q]? = some nd) (ha : nd.p.ans q (D.seats j).lo (D.seats j).hi nd.p.ents.length < 0) :
  Calls Tryz.prog 38 #[.pointer (some ⟨b, 0, none⟩), .int .i64 m, .string q] w fun e w' => e = .returned (.tuple #[.int .i32 (D.pu.answer q ts (D.seats j).hi).val, .bool false, .int .i64 0]) ∧ Goes w b D (D.pu.miss j (D.pu.answer q ts (D.seats j).hi)) w' := by
 have hW := hw.nodes nd (List.mem_of_getElem? hnd)
 obtain ⟨en, hen⟩ : ∃ en, en = answerE D q ts (D.seats j).hi := ⟨_, rfl⟩
 have hen' : D.pu.answer q ts (D.seats j).hi = en := by rw [hen]; rfl
 rw [hen']
 obtain ⟨lo, hlo⟩ : ∃ lo, lo = (D.seats j).lo := ⟨_, rfl⟩
 obtain ⟨hi, hhi'⟩ : ∃ hi, hi = (D.seats j).hi := ⟨_, rfl⟩
 obtain ⟨K, hK⟩ : ∃ K, K = keysL ts := ⟨_, rfl⟩
 obtain ⟨k, hk⟩ : ∃ k, k = D.pu.nodeN q := ⟨_, rfl⟩
 rw [← hk] at hnd
 have hbl := h.blk.lt
 obtain ⟨g, _, _, ho, _⟩ := h.nodes.block hw.n1
 have H0 : Hid (Calls Tryz.prog 87 #[.pointer (some ⟨b, 2, none⟩), .int .i64 m] w fun e w' => e = .returned (.tuple #[.agg #[.int .u64 (lo : Int), .int .u64 (hi : Int)], .int .i64 0]) ∧ Kept (fun _ => False) w w') := (dspan w b D m h).mono fun e w' hp => by
  obtain ⟨k, ⟨a, _⟩ | ⟨i, hi, hri, hni, e1⟩⟩ := hp
  · exact absurd hn (a j hj hr)
  · have := hone i hi hri hni
   subst this
   exact ⟨by rw [e1, hlo, hhi'], k⟩
 have H1 : Hid (∀ W, Calls Tryz.prog 71 #[.string q] W fun e w' => e = .returned (.tuple #[.agg #[.int .u8 K, .int .i64 (ts.length : Int)], .int .i64 0]) ∧ Kept (fun _ => False) W w') := fun W => (qParse_good q W ts hrd).mono fun e w' hp => ⟨by rw [hp.1, hK], Kept.of_below hp.2 _⟩
 have HNO : Hid (∀ W, Kept (fun _ => False) w W → Calls Tryz.prog 88 #[.pointer (some ⟨b, 0, none⟩), .string q] W fun e w' => e = .returned (.pointer (some ⟨g, k * 8, none⟩)) ∧ W = w') := fun W hW2 => by
  rw [hk]
  exact dnodeOf W b g D q (h.kept hW2 (fun _ _ => id)) ho hw.n1 (by have := hw.n3; omega) hq
 have HAN : Hid (∀ W, Kept (fun _ => False) w W → Calls Tryz.prog 89 #[.pointer (some ⟨g, k * 8, none⟩), .string q, .agg #[.int .u64 (lo : Int), .int .u64 (hi : Int)]] W fun e w' => e = .returned (.tuple #[.int .i32 0, .agg #[.int .u64 0, .int .u64 0], .bool false]) ∧ Kept (fun _ => False) W w') := fun W hW2 => by
  rw [← hlo, ← hhi'] at ha hlh
  refine (dAnswer W b k g D nd q lo hi (h.kept hW2 (fun _ _ => id)) hnd ho (by have := hW.el; omega) hW.es hlh (by have := hW.us; omega)).mono fun e w' hp => ?_
  rcases hp with ⟨_, e1, hk1⟩ | ⟨i', x', h1, _⟩
  · exact ⟨e1, hk1⟩
  · omega
 have H2 : Hid (∀ W, Kept (fun _ => False) w W → Calls Tryz.prog 91 #[.pointer (some ⟨b, 0, none⟩), .string q, .int .u8 K, .int .u64 (hi : Int)] W fun e w' => e = .returned (.agg #[.string en.q, .int .i32 en.val, .int .u64 (en.fr : Int), .int .u64 (en.till : Int), .bool en.op, .int .u64 (en.kn : Int)]) ∧ Kept (fun _ => False) W w') := fun W hW => by
  have := danswer W b D q ts (D.seats j).hi (h.kept hW (fun _ _ => id)) hw.fit hhi hrd
  rw [← hen, ← hhi', ← hK] at this
  exact this
 have H3 : Hid (∀ W, Kept (fun _ => False) w W → Calls Tryz.prog 90 #[.pointer (some ⟨b, 2, none⟩), .int .i64 m, .agg #[.int .u64 (en.fr : Int), .int .u64 (hi : Int)]] W fun e w' => e = .returned (.tuple #[]) ∧ Hid (DBecame w b D w' (D.seatP j ((D.seats j).cut en.fr hi) D.begun) ∧ Kept (D.fp b) W w')) := fun W hW =>
  (dnarrow W b D m j en.fr hi (h.kept hW (fun _ _ => id)) hj hr hn hone).mono fun e w' hp => ⟨hp.1, (DBecame.of_kept h hW).seat hp.2.1 hp.2.2, hp.2.2⟩
 have H4 : Hid (∀ W, DBecame w b D W (D.seatP j ((D.seats j).cut en.fr hi) D.begun) → Calls Tryz.prog 92 #[.pointer (some ⟨b, 27, none⟩), .agg #[.string en.q, .int .i32 en.val, .int .u64 (en.fr : Int), .int .u64 (en.till : Int), .bool en.op, .int .u64 (en.kn : Int)]] W fun e w' => e = .returned (.tuple #[]) ∧ Hid (Goes w b D (D.pu.miss j en) w' ∧ Kept ((D.seatP j ((D.seats j).cut en.fr hi) D.begun).fp b) W w')) := fun W hB => by
  refine (djoin W b _ en hB.1 ⟨hw.fit.pmax, hw.fit.clk0, hw.fit.clk1, hw.fit.bmax, hw.fit.qmax⟩).mono fun e w' hp => ⟨hp.1, ?_⟩
  obtain ⟨v, r⟩ := hp.2
  refine ⟨⟨_, ?_, hB.trans r⟩, r.2.1⟩
  rw [hhi']
  rfl
 have HLT : Hid (∀ k, D.fp b k → k < w.heap.size) := h.lt
 clear h hw hj hr hn hone hlh hhi hrd hen hen' hnd ha hW hlo hhi' hK hk ho
 go_enter Tryz.func38, Tryz.ntmps38
 go_wp2_with first
  | (go_at_call 87; refine H0.out.mono ?_; rintro e w1 ⟨rfl, hk1⟩)
  | (go_at_call 71; refine (H1.out _).mono ?_; rintro e w2 ⟨rfl, hk2⟩; obtain ⟨s0, s1, s2⟩ := two_box hk2; have HK2 : Hid (Kept (fun _ => False) w w2) := (hk1.allocNew _).trans hk2 (fun _ => id) (fun _ _ => id); clear hk1 hk2)
  | (go_at_call 88; refine (HNO.out _ (HK2.out.allocNew _)).mono ?_; rintro e w3 ⟨rfl, rfl⟩)
  | (go_at_call 89; refine (HAN.out _ (HK2.out.allocNew _)).mono ?_; rintro e w4 ⟨rfl, hk4⟩; obtain ⟨t0, t1, t2⟩ := two_box hk4; have r0 := hk4.keep id (hold_al s0); have r1 := hk4.keep id (hold_al s1); have HK4 : Hid (Kept (fun _ => False) w w4) := (HK2.out.allocNew _).trans hk4 (fun _ => id) (fun _ _ => id); have s4 : w1.heap.size < w4.heap.size := World.block_lt_of_cell? w4 _ r0; clear hk4)
  | (go_at_call 91; refine (H2.out _ (HK4.out.allocNew _)).mono ?_; rintro e w5 ⟨rfl, hk5⟩; have q1 := hk5.keep id (hold_al r1); have HK5 : Hid (Kept (fun _ => False) w w5) := (HK4.out.allocNew _).trans hk5 (fun _ => id) (fun _ _ => id); have s5 : w1.heap.size < w5.heap.size := World.block_lt_of_cell? w5 _ q1; clear hk5)
 obtain ⟨W, hW⟩ : ∃ W, W = w5.alloc (.cells #[.string en.q, .int .i32 en.val, .int .u64 (en.fr : Int), .int .u64 (en.till : Int), .bool en.op, .int .u64 (en.kn : Int)] 55) := ⟨_, rfl⟩
 have kW : Kept (fun _ => False) w W := by rw [hW]; exact HK5.out.allocNew _
 have bW : Blk W w5.heap.size 55 #[.string en.q, .int .i32 en.val, .int .u64 (en.fr : Int), .int .u64 (en.till : Int), .bool en.op, .int .u64 (en.kn : Int)] := by rw [hW]; exact Blk.new _ _ _
 have r2 : W.cell? ⟨w1.heap.size, 1, none⟩ = some (.int .u64 (hi : Int)) := by rw [hW]; exact hold_al q1
 have p2 : W.cell? ⟨w5.heap.size, 2, none⟩ = some (.int .u64 (en.fr : Int)) := bW.cell 2
 have hP : w.heap.size ≤ w5.heap.size := HK5.out.size
 rw [← hW]
 have HKW : Hid (Kept (fun _ => False) w W) := kW
 have HBW : Hid (Blk W w5.heap.size 55 #[.string en.q, .int .i32 en.val, .int .u64 (en.fr : Int), .int .u64 (en.till : Int), .bool en.op, .int .u64 (en.kn : Int)]) := bW
 clear hW kW bW q1 r0 r1 s0 s1 s2 s4 s5 t0 t1 t2
 generalize w5.heap.size = P at *
 generalize w1.heap.size = S at *
 go_cut [71] (fun _ wx => Hid (DBecame w b D wx (D.seatP j ((D.seats j).cut en.fr hi) D.begun) ∧ Blk wx P 55 #[.string en.q, .int .i32 en.val, .int .u64 (en.fr : Int), .int .u64 (en.till : Int), .bool en.op, .int .u64 (en.kn : Int)]))
 case first =>
  have H3W : Hid (∀ n, Calls Tryz.prog 90 #[.pointer (some ⟨b, 2, none⟩), .int .i64 m, .agg #[.int .u64 (en.fr : Int), .int .u64 (hi : Int)]] (W.drewN n) fun e w' => e = .returned (.tuple #[]) ∧ Hid (DBecame w b D w' (D.seatP j ((D.seats j).cut en.fr hi) D.begun) ∧ Blk w' P 55 #[.string en.q, .int .i32 en.val, .int .u64 (en.fr : Int), .int .u64 (en.till : Int), .bool en.op, .int .u64 (en.kn : Int)])) := fun n => (H3.out _ (HKW.out.drewN n)).mono fun e w' hp => ⟨hp.1, hp.2.out.1, (HBW.out.same (w' := W.drewN n) rfl).kept hp.2.out.2 (fun hh => by have := HLT.out P hh; omega)⟩
  go_region_with ((go_at_call 90; refine (H3W.out _).mono ?_; rintro e w6 ⟨rfl, hn6⟩))
  all_goals
   go_wp2
   go_meet
   case rel => exact hn6.out
 case rest =>
  have HC := hcut
  clear hcut p2 r2
  have hbw := HC.out.2
  have z0 : wc.cell? ⟨P, 0, none⟩ = some (.string en.q) := hbw.cell 0
  have z1 : wc.cell? ⟨P, 1, none⟩ = some (.int .i32 en.val) := hbw.cell 1
  have z2 : wc.cell? ⟨P, 2, none⟩ = some (.int .u64 (en.fr : Int)) := hbw.cell 2
  have z3 : wc.cell? ⟨P, 3, none⟩ = some (.int .u64 (en.till : Int)) := hbw.cell 3
  have z4 : wc.cell? ⟨P, 4, none⟩ = some (.bool en.op) := hbw.cell 4
  have z5 : wc.cell? ⟨P, 5, none⟩ = some (.int .u64 (en.kn : Int)) := hbw.cell 5
  clear hbw
  have H4W : Hid (∀ n, Calls Tryz.prog 92 #[.pointer (some ⟨b, 27, none⟩), .agg #[.string en.q, .int .i32 en.val, .int .u64 (en.fr : Int), .int .u64 (en.till : Int), .bool en.op, .int .u64 (en.kn : Int)]] (wc.drewN n) fun e w' => e = .returned (.tuple #[]) ∧ Hid (Goes w b D (D.pu.miss j en) w' ∧ w'.cell? ⟨P, 1, none⟩ = some (.int .i32 en.val))) := fun n => (H4.out _ (HC.out.1.more ((Kept.refl _ _).drewN n))).mono fun e w' hp => ⟨hp.1, hp.2.out.1, hp.2.out.2.keep (fun hh => by have := HLT.out P hh; omega) (HC.out.2.cell 1)⟩
  go_wp2_with fail
  go_cut [76] (fun _ wx => Hid (Goes w b D (D.pu.miss j en) wx ∧ wx.cell? ⟨P, 1, none⟩ = some (.int .i32 en.val)))
  case first =>
   go_region_with ((go_at_call 92; refine (H4W.out _).mono ?_; rintro e w7 ⟨rfl, hn7⟩))
   all_goals
    go_wp2
    go_meet
    case rel => exact hn7.out
  case rest =>
   have HC7 := hcut
   have y1 := HC7.out.2
   clear hcut z0 z1 z2 z3 z4 z5
   go_wp2
   refine bodyPost_ret (v := .tuple #[.int .i32 en.val, .bool false, .int .i64 0]) (by simp [results, Tryz.results38, go_sem]) rfl ⟨rfl, HC7.out.1⟩
structure DP.Good (P : DP) (n : Nat) : Prop where
 pmax : P.past.length ≤ 700
 clk0 : 0 ≤ P.clock
 clk1 : P.clock ≤ 100000
 bmax : P.begun ≤ 200
 qmax : P.puts.length ≤ 10
 s1 : 0 < P.sites.length
 s3 : P.sites.length ≤ 3
 sites : ∀ s ∈ P.sites, s.Good P.past.length n
 puts : ∀ e ∈ P.puts, EntOk e P.past.length
theorem DP.Good.walk {D : DevS} {n : Nat} (h : D.pu.Good n) (hn : n < 9223372036854775807) : D.Walk := by
 have e : D.pu.sites = D.nodes.map (·.p) := rfl
 have hl : D.pu.sites.length = D.nodes.length := by rw [e, List.length_map]
 refine ⟨⟨h.pmax, h.clk0, h.clk1, h.bmax, h.qmax⟩, by rw [← hl]; exact h.s1, by rw [← hl]; exact h.s3, fun nd hnd => ?_, fun x hx => (h.puts x hx).q40⟩
 exact (h.sites nd.p (by rw [e]; exact List.mem_map_of_mem hnd)).walk h.pmax hn
theorem DP.Good.more {P : DP} {n n' : Nat} (h : P.Good n) (hn : n ≤ n') : P.Good n' :=
 ⟨h.pmax, h.clk0, h.clk1, h.bmax, h.qmax, h.s1, h.s3, fun s hs => (h.sites s hs).more (Nat.le_refl _) hn, h.puts⟩
theorem DP.Good.put {P : DP} {n : Nat} (h : P.Good n) (k : Int) {s : NodeP} (hs : s.Good P.past.length n) : (P.put k s).Good n := by
 refine ⟨h.pmax, h.clk0, h.clk1, h.bmax, h.qmax, by show 0 < (P.sites.set _ _).length; rw [List.length_set]; exact h.s1, by show (P.sites.set _ _).length ≤ 3; rw [List.length_set]; exact h.s3, fun x hx => ?_, h.puts⟩
 rcases List.mem_or_eq_of_mem_set hx with hx | rfl
 · exact h.sites x hx
 · exact hs
theorem DP.Good.drop {P : DP} {n : Nat} (h : P.Good n) (i : Int) : (P.drop i).2.Good n := by
 unfold DP.drop
 split
 · exact h
 · have hle := List.length_eraseIdx_le P.puts i.toNat
  exact ⟨h.pmax, h.clk0, h.clk1, h.bmax, by have := h.qmax; show (P.puts.eraseIdx _).length ≤ 10; omega, h.s1, h.s3, h.sites, fun e he => h.puts e (List.mem_of_mem_eraseIdx he)⟩
theorem DP.Good.store {P : DP} {n : Nat} (h : P.Good n) (i : Int) : (P.store i).2.2.Good (n + 1) := by
 unfold DP.store
 split
 · exact h.more (Nat.le_succ _)
 · cases he : P.puts[i.toNat]? with
  | none => exact h.more (Nat.le_succ _)
  | some e =>
   dsimp only
   cases hs : P.sites[P.nodeN e.q]? with
   | none => exact h.more (Nat.le_succ _)
   | some s =>
    dsimp only
    have hle := List.length_eraseIdx_le P.puts i.toNat
    refine ⟨h.pmax, h.clk0, h.clk1, h.bmax, by have := h.qmax; show (P.puts.eraseIdx _).length ≤ 10; omega, by show 0 < (P.sites.set _ _).length; rw [List.length_set]; exact h.s1, by show (P.sites.set _ _).length ≤ 3; rw [List.length_set]; exact h.s3, fun x hx => ?_, fun y hy => h.puts y (List.mem_of_mem_eraseIdx hy)⟩
    rcases List.mem_or_eq_of_mem_set hx with hx | rfl
    · exact (h.sites x hx).more (Nat.le_refl _) (Nat.le_succ _)
    · exact (h.sites s (List.mem_of_getElem? hs)).store (h.puts e (List.mem_of_getElem? he))
theorem DP.Good.push {P : DP} {n : Nat} (h : P.Good n) (q : PastE) (hp : P.past.length < 700) : (P.push q).Good n := by
 have e : (P.past ++ [q]).length = P.past.length + 1 := by simp
 refine ⟨by show (P.past ++ [q]).length ≤ 700; omega, h.clk0, h.clk1, h.bmax, h.qmax, by show 0 < (P.sites.map _).length; rw [List.length_map]; exact h.s1, by show (P.sites.map _).length ≤ 3; rw [List.length_map]; exact h.s3, fun x hx => ?_, fun y hy => (h.puts y hy).more (by show P.past.length ≤ (P.past ++ [q]).length; omega)⟩
 obtain ⟨s, hs, rfl⟩ := List.mem_map.mp hx
 show NodeP.Good _ (P.past ++ [q]).length n
 rw [e]
 exact (h.sites s hs).tell q.keys
theorem till_le {l : List PastE} {K : Int} {s : Nat} : ∀ n, tillN l K n = some s → s ≤ l.length - 1
 | 0, h => by simp [tillN] at h
 | n + 1, h => by
  simp only [tillN] at h
  split at h
  · injection h with h; omega
  · exact till_le n h
theorem readL_len {l : List UInt8} {ts : List (Nat × Nat)} (h : Q.readL l = (0, ts)) : l.length ≤ 40 := by
 unfold Q.readL at h
 split at h
 · simp at h
 · omega
theorem answer_ok {P : DP} {q : ByteArray} {ts : List (Nat × Nat)} {t : Nat} (hq : Q.readL q.data.toList = (0, ts)) (ht : t ≤ P.past.length) : EntOk (P.answer q ts t) P.past.length := by
 have hl := readL_len hq
 have hql : q.data.toList.length = q.size := by rw [Array.length_toList]; rfl
 have e : (zeroP :: P.past).length - 1 = P.past.length := by simp
 have hfr := fromN_le (zeroP :: P.past) (keysL ts) t
 refine ⟨by show q.size ≤ 40; omega, by show (zeroP :: P.past).length - 1 ≤ _; omega, ?_, fun ho => ?_, fun ho => ?_⟩
 · show (tillN (zeroP :: P.past) (keysL ts) ((zeroP :: P.past).length - 1 - t)).getD 0 ≤ _
  cases h : tillN (zeroP :: P.past) (keysL ts) ((zeroP :: P.past).length - 1 - t) with
  | none => simp
  | some s => have := till_le _ h; simp only [Option.getD_some]; omega
 · have ho' : (tillN (zeroP :: P.past) (keysL ts) ((zeroP :: P.past).length - 1 - t)).isNone = false := ho
  show fromN _ _ t < (tillN (zeroP :: P.past) (keysL ts) ((zeroP :: P.past).length - 1 - t)).getD 0
  cases h : tillN (zeroP :: P.past) (keysL ts) ((zeroP :: P.past).length - 1 - t) with
  | none => rw [h] at ho'; cases ho'
  | some s => have := till_pos _ (by omega) h; simp only [Option.getD_some]; omega
 · show fromN _ _ t ≤ (zeroP :: P.past).length - 1
  omega
theorem DP.Good.hit {P : DP} {n j k i : Nat} {s : NodeP} {x : HeldE} (h : P.Good n) (hs : P.sites[k]? = some s) (hx : s.ents[i]? = some x) : (P.hit j k i s x).Good (n + 1) := by
 refine ⟨h.pmax, h.clk0, h.clk1, h.bmax, h.qmax, by show 0 < (P.sites.set _ _).length; rw [List.length_set]; exact h.s1, by show (P.sites.set _ _).length ≤ 3; rw [List.length_set]; exact h.s3, fun y hy => ?_, h.puts⟩
 rcases List.mem_or_eq_of_mem_set hy with hy | rfl
 · exact (h.sites y hy).more (Nat.le_refl _) (Nat.le_succ _)
 · exact (h.sites s (List.mem_of_getElem? hs)).use hx
theorem DP.Good.miss {P : DP} {n j : Nat} {e : EntE} (h : P.Good n) (he : EntOk e P.past.length) : (P.miss j e).Good n := by
 have hq := h.qmax
 refine ⟨h.pmax, h.clk0, h.clk1, h.bmax, ?_, h.s1, h.s3, h.sites, fun y hy => ?_⟩
 · show (if P.puts.length < 10 then P.puts ++ [e] else P.puts).length ≤ 10
  split
  · simp; omega
  · exact hq
 · have hy' : y ∈ (if P.puts.length < 10 then P.puts ++ [e] else P.puts) := hy
  split at hy'
  · rw [List.mem_append, List.mem_singleton] at hy'
   rcases hy' with hy' | rfl
   · exact h.puts y hy'
   · exact he
  · exact h.puts y hy'
theorem DP.Good.seats {P : DP} {n : Nat} (h : P.Good n) (f : Nat → SeatE) (m : Nat) (hm : m ≤ 200) : ({ P with seats := f, begun := m } : DP).Good n := ⟨h.pmax, h.clk0, h.clk1, hm, h.qmax, h.s1, h.s3, h.sites, h.puts⟩
end Go.Proofs.YtpfcacedpkaihaaGreat
