/- The program's calls (package almanac): nodeOf, Ask, Store, Drop, Tick, walked. -/
import Derived.Test.YtpfcacedpkaihaaGreatEhEi
import Derived.Test.YtpfcacedpkaihaaGreatDlDmDz
namespace Go.Proofs.YtpfcacedpkaihaaGreat
open Go.RowKit

set_option maxHeartbeats 1000000 in
theorem dqnode (q : ByteArray) (n : Nat) (w : World) (hn0 : 0 < n) (hn1 : n ≤ 1000) (hq : q.size ≤ 40) :
    Calls Tryz.prog 134 #[.string q, .int .i64 (n : Int)] w fun e w' => e = .returned (.int .i64 ((sumB q.data.toList % n : Nat) : Int)) ∧ w = w' := by
  have hql : q.data.toList.length = q.size := by rw [Array.length_toList]; rfl
  have hd : ¬ (n : Int) < 1 := by omega
  go_enter Tryz.func134, Tryz.ntmps134
  go_wp2
  go_loop [5, 11] (fun s i => ∃ k : Nat, k ≤ q.size ∧ i = .int .i64 k ∧ s = .int .i64 (sumB (q.data.toList.take k) : Nat)) (fun _ i => q.size - (intOf i).toNat)
  case atStart => exact ⟨0, Nat.zero_le _, rfl, rfl⟩
  case round =>
    obtain ⟨k, hk, rfl, rfl⟩ := hrel
    have hle := sumB_le q.data.toList k (by omega)
    by_cases hlt : k < q.size
    · have HS : Hid (sumB (q.data.toList.take (k + 1)) = sumB (q.data.toList.take k) + q[k].toNat) := by
        show _ = _
        rw [sumB_snoc q.data.toList k (by omega)]; rfl
      have hb : q[k].toNat < 256 := UInt8.toNat_lt _
      go_wp2
      go_round
      case rel => exact ⟨k + 1, by omega, by go_num, by rw [HS.out]; go_num⟩
      case measure => simp [intOf]; omega
    · have hkk : k = q.size := by omega
      have HT : Hid (q.data.toList.take q.size = q.data.toList) := List.take_of_length_le (by omega)
      go_wp2
      go_ret
      refine ⟨rt_int ?_, rfl⟩
      rw [HT.out]

set_option maxHeartbeats 1000000 in
theorem dnodeOf (w : World) (b g : Nat) (D : DevS) (q : ByteArray) (h : Dev w b D) (ho : D.vn.ownBlock = some g) (hn0 : 0 < D.nodes.length) (hn1 : D.nodes.length ≤ 1000) (hq : q.size ≤ 40) :
    Calls Tryz.prog 88 #[.pointer (some ⟨b, 0, none⟩), .string q] w fun e w' => e = .returned (.pointer (some ⟨g, D.pu.nodeN q * 8, none⟩)) ∧ w = w' := by
  obtain ⟨g', cv, hv, ho', _⟩ := h.nodes.block hn0
  rw [ho] at ho'
  injection ho' with ho'
  subst ho'
  have c28 := h.c28
  rw [hv] at c28
  obtain ⟨k, hk⟩ : ∃ k, k = sumB q.data.toList % D.nodes.length := ⟨_, rfl⟩
  have hkl : k < D.nodes.length := by rw [hk]; exact Nat.mod_lt _ hn0
  have HN : Hid (D.pu.nodeN q = k) := by show sumB q.data.toList % (D.nodes.map (·.p)).length = k; rw [List.length_map, hk]
  have HQ : Hid (∀ W, Calls Tryz.prog 134 #[.string q, .int .i64 (D.nodes.length : Int)] W fun e w' => e = .returned (.int .i64 (k : Int)) ∧ W = w') := fun W => by rw [hk]; exact dqnode q _ W hn0 hn1 hq
  have hk0 : (0 : Int) ≤ (k : Int) := by omega
  have hk1 : (k : Int) < (D.nodes.length : Int) := by omega
  clear h hv ho hk
  go_enter Tryz.func88, Tryz.ntmps88
  go_wp2_with (go_at_call 134; refine (HQ.out _).mono ?_; rintro e w1 ⟨rfl, rfl⟩)
  go_ret
  exact ⟨by rw [HN.out]; rfl, rfl⟩

set_option maxHeartbeats 4000000 in
theorem dAsk (w : World) (b : Nat) (D : DevS) (k : Int) (h : Dev w b D) (hw : D.Walk) :
    Calls Tryz.prog 63 #[.pointer (some ⟨b, 0, none⟩), .int .i64 k] w fun e w' => e = .returned (.tuple #[.int .u64 ((D.pu.ask k).1 : Int), .int .i64 (D.pu.ask k).2.1]) ∧ Goes w b D (D.pu.ask k).2.2 w' := by
  by_cases hk : k < 0 ∨ (D.nodes.length : Int) ≤ k
  · have HS : Hid (Calls Tryz.prog 106 #[.pointer (some ⟨b, 0, none⟩), .int .i64 k] w fun e w' => e = .returned (.tuple #[.pointer none, .int .i64 9]) ∧ w = w') := dsite_bad w b D k h hk
    have HE : Hid (D.pu.ask k = (0, 9, D.pu)) := by show _ = _; rw [DP.ask, DevS.pu_none hk]
    have HG : Hid (Goes w b D D.pu w) := Goes.of_kept h (Kept.refl _ _)
    clear h hw hk
    go_enter Tryz.func63, Tryz.ntmps63
    go_wp2_with (go_at_call 106; refine HS.out.mono ?_; rintro e w1 ⟨rfl, rfl⟩)
    go_ret2
    exact ⟨by rw [HE.out]; rfl, by rw [HE.out]; exact HG.out⟩
  · obtain ⟨k, rfl⟩ : ∃ j : Nat, k = j := ⟨k.toNat, by omega⟩
    have hkl : k < D.nodes.length := by omega
    obtain ⟨nd, hnd⟩ : ∃ nd, D.nodes[k]? = some nd := ⟨_, List.getElem?_eq_getElem hkl⟩
    have hW := hw.nodes nd (List.mem_of_getElem? hnd)
    obtain ⟨g, _, _, ho, _⟩ := h.nodes.block hw.n1
    have HS : Hid (Calls Tryz.prog 106 #[.pointer (some ⟨b, 0, none⟩), .int .i64 (k : Int)] w fun e w' => e = .returned (.tuple #[.pointer (some ⟨g, k * 8, none⟩), .int .i64 0]) ∧ w = w') := dsite w b k g D h hkl ho
    have hsite := D.pu_site hnd
    have HT : Hid (∀ p w', Turns w b D k p w' → Goes w b D (D.pu.put (k : Int) p) w') := fun p w' hT => hT.goes
    have HE : Hid (D.pu.ask k = ((D.pu.askS nd.p).horizon, 0, D.pu.put k (D.pu.askS nd.p))) := by show _ = _; rw [DP.ask, hsite]
    have HN : Hid (Calls Tryz.prog 80 #[.pointer (some ⟨b, 0, none⟩)] w fun e w' => e = .returned (.int .u64 (D.past.length : Int)) ∧ w = w') := dnewest w b D h hw.fit
    have c0 : w.cell? ⟨g, k * 8, none⟩ = some (.bool nd.p.up) := h.nodeC hnd ho 0 (by omega) _ rfl
    have c2 : w.cell? ⟨g, k * 8 + 2, none⟩ = some (.int .u64 (nd.p.horizon : Int)) := h.nodeC hnd ho 2 (by omega) _ rfl
    have HU : Hid (Calls Tryz.prog 118 #[.pointer (some ⟨g, k * 8, none⟩)] w fun e w' => e = .returned (.bool nd.p.up) ∧ w = w') := dup w g (k * 8) nd.p.up c0
    have HZ : Hid (∀ W p, Turns w b D k p W → Calls Tryz.prog 120 #[.pointer (some ⟨g, k * 8, none⟩)] W fun e w' => e = .returned (.int .u64 (p.horizon : Int)) ∧ W = w') := fun W p hT => by
      obtain ⟨n1, e1, hb1⟩ := hT
      rw [← e1]
      exact dhorizon W g (k * 8) n1.p.horizon (hb1.1.nodeC (putN_at n1 hnd) ho 2 (by omega) _ rfl)
    have HT0 : Hid (Turns w b D k nd.p w) := Turns.of_kept h hnd (Kept.refl _ _)
    have hpm := hw.fit.pmax
    have hzm := hW.ok.hz
    cases hup : nd.p.up with
    | false =>
      rw [hup] at HU
      have HA : Hid (D.pu.askS nd.p = nd.p.rise D.past.length) := by show _ = _; rw [DP.askS, if_pos hup]; rfl
      have HR : Hid (Calls Tryz.prog 119 #[.pointer (some ⟨g, k * 8, none⟩), .int .u64 (D.past.length : Int)] w fun e w' => e = .returned (.tuple #[]) ∧ Hid (Turns w b D k (nd.p.rise D.past.length) w')) := drise w b k g D nd D.past.length h hnd ho
      clear h hw hk hnd ho hW hsite hup c0 c2
      go_enter Tryz.func63, Tryz.ntmps63
      go_wp2_with first
        | (go_at_call 106; refine HS.out.mono ?_; rintro e w1 ⟨rfl, rfl⟩)
        | (go_at_call 80; refine HN.out.mono ?_; rintro e w1 ⟨rfl, rfl⟩)
        | (go_at_call 118; refine HU.out.mono ?_; rintro e w1 ⟨rfl, rfl⟩)
        | (go_at_call 119; refine HR.out.mono ?_; rintro e w2 ⟨rfl, hT⟩)
      go_ret2
      exact ⟨by rw [HE.out, HA.out]; rfl, by rw [HE.out, HA.out]; exact HT.out _ _ hT.out⟩
    | true =>
      rw [hup] at HU
      by_cases hlt : nd.p.horizon < D.past.length
      · obtain ⟨q, hq⟩ : ∃ q, D.past[nd.p.horizon]? = some q := ⟨_, List.getElem?_eq_getElem hlt⟩
        have HA : Hid (D.pu.askS nd.p = nd.p.hear q.keys) := by
          show _ = _
          rw [DP.askS, if_neg (by rw [hup]; simp), if_pos (show nd.p.horizon < D.pu.past.length from hlt)]
          show nd.p.hear ((D.past[nd.p.horizon]?.map PastE.keys).getD 0) = _
          rw [hq]; rfl
        have HWR : Hid (Calls Tryz.prog 75 #[.pointer (some ⟨b, 0, none⟩), .int .u64 ((nd.p.horizon : Int) + 1)] w fun e w' => e = .returned (.int .u8 q.keys) ∧ w = w') := dwrote0 w b D nd.p.horizon q h hw.fit hq
        have HH : Hid (Calls Tryz.prog 121 #[.pointer (some ⟨g, k * 8, none⟩), .int .u8 q.keys] w fun e w' => e = .returned (.tuple #[]) ∧ Hid (Turns w b D k (nd.p.hear q.keys) w')) := dHear w b k g D nd q.keys h hnd ho hW.ok
        have HZ0 := HZ.out w nd.p HT0.out
        have HZ0' : Hid (Calls Tryz.prog 120 #[.pointer (some ⟨g, k * 8, none⟩)] w fun e w' => e = .returned (.int .u64 (nd.p.horizon : Int)) ∧ w = w') := HZ0
        have HZ1 : Hid (∀ W, Turns w b D k (nd.p.hear q.keys) W → Calls Tryz.prog 120 #[.pointer (some ⟨g, k * 8, none⟩)] W fun e w' => e = .returned (.int .u64 ((nd.p.hear q.keys).horizon : Int)) ∧ W = w') := fun W hT => HZ.out W _ hT
        have hlt' : (nd.p.horizon : Int) < (D.past.length : Int) := by omega
        clear h hw hk hnd ho hW hsite hup c0 c2 HZ0 hq
        go_enter Tryz.func63, Tryz.ntmps63
        go_wp2_with first
          | (go_at_call 106; refine HS.out.mono ?_; rintro e w1 ⟨rfl, rfl⟩)
          | (go_at_call 80; refine HN.out.mono ?_; rintro e w1 ⟨rfl, rfl⟩)
          | (go_at_call 118; refine HU.out.mono ?_; rintro e w1 ⟨rfl, rfl⟩)
          | (go_at_call 120; refine (HZ1.out _ hT.out).mono ?_; rintro e w1 ⟨rfl, rfl⟩)
          | (go_at_call 120; refine HZ0'.out.mono ?_; rintro e w1 ⟨rfl, rfl⟩)
          | (go_at_call 75; refine HWR.out.mono ?_; rintro e w1 ⟨rfl, rfl⟩)
          | (go_at_call 121; refine HH.out.mono ?_; rintro e w2 ⟨rfl, hT⟩)
        go_ret2
        exact ⟨by rw [HE.out, HA.out]; rfl, by rw [HE.out, HA.out]; exact HT.out _ _ hT.out⟩
      · have HA : Hid (D.pu.askS nd.p = nd.p) := by
          show _ = _
          rw [DP.askS, if_neg (by rw [hup]; simp), if_neg (show ¬ nd.p.horizon < D.pu.past.length from hlt)]
        have HZ0' : Hid (Calls Tryz.prog 120 #[.pointer (some ⟨g, k * 8, none⟩)] w fun e w' => e = .returned (.int .u64 (nd.p.horizon : Int)) ∧ w = w') := HZ.out w nd.p HT0.out
        have hlt' : ¬ (nd.p.horizon : Int) < (D.past.length : Int) := by omega
        clear h hw hk hnd ho hW hsite hup c0 c2
        go_enter Tryz.func63, Tryz.ntmps63
        go_wp2_with first
          | (go_at_call 106; refine HS.out.mono ?_; rintro e w1 ⟨rfl, rfl⟩)
          | (go_at_call 80; refine HN.out.mono ?_; rintro e w1 ⟨rfl, rfl⟩)
          | (go_at_call 118; refine HU.out.mono ?_; rintro e w1 ⟨rfl, rfl⟩)
          | (go_at_call 120; refine HZ0'.out.mono ?_; rintro e w1 ⟨rfl, rfl⟩)
        go_ret2
        exact ⟨by rw [HE.out, HA.out]; rfl, by rw [HE.out, HA.out]; exact HT.out _ _ HT0.out⟩

theorem dTick (w : World) (b : Nat) (D : DevS) (h : Dev w b D) (hf : D.Fit) :
    Calls Tryz.prog 31 #[.pointer (some ⟨b, 0, none⟩)] w fun e w' => e = .returned (.int .i64 D.pu.tick.1) ∧ Goes w b D D.pu.tick.2 w' :=
  (dtick w b D h hf).mono fun e w' hp => by
    rcases hp with ⟨h1, e1, rfl⟩ | ⟨h1, e1, r1, r2⟩
    · rw [DP.tick, if_pos (show D.pu.clock = 100000 from h1)]
      exact ⟨e1, Goes.of_kept h (Kept.refl _ _)⟩
    · rw [DP.tick, if_neg (show ¬ D.pu.clock = 100000 by show ¬ D.clock = 100000; omega)]
      exact ⟨e1, _, rfl, r1, r2, fun x hx => .inl hx⟩

theorem dDrop (w : World) (b : Nat) (D : DevS) (i : Int) (h : Dev w b D) (hf : D.Fit) :
    Calls Tryz.prog 43 #[.pointer (some ⟨b, 0, none⟩), .int .i64 i] w fun e w' => e = .returned (.int .i64 (D.pu.drop i).1) ∧ Goes w b D (D.pu.drop i).2 w' :=
  (ddrop w b D i h hf).mono fun e w' hp => by
    rcases hp with ⟨h1, e1, hk⟩ | ⟨h1, h2, e1, v, r⟩
    · rw [DP.drop, if_pos (show i < 0 ∨ (D.pu.puts.length : Int) ≤ i from h1)]
      exact ⟨e1, Goes.of_kept h hk⟩
    · rw [DP.drop, if_neg (show ¬ (i < 0 ∨ (D.pu.puts.length : Int) ≤ i) by show ¬ (i < 0 ∨ (D.puts.length : Int) ≤ i); omega)]
      exact ⟨e1, _, rfl, r⟩

set_option maxHeartbeats 2000000 in
theorem dStore_bad (w : World) (b : Nat) (D : DevS) (i : Int) (h : Dev w b D) (hf : D.Fit) (hi : i < 0 ∨ (D.puts.length : Int) ≤ i) :
    Calls Tryz.prog 45 #[.pointer (some ⟨b, 0, none⟩), .int .i64 i] w fun e w' => e = .returned (.tuple #[.bool (D.pu.store i).1, .int .i64 (D.pu.store i).2.1]) ∧ Goes w b D (D.pu.store i).2.2 w' := by
  have HT : Hid (Calls Tryz.prog 99 #[.pointer (some ⟨b, 27, none⟩), .int .i64 i] w fun e w' => e = .returned (.tuple #[.agg #[.string ⟨#[]⟩, .int .i32 0, .int .u64 0, .int .u64 0, .bool false, .int .u64 0], .int .i64 10]) ∧ Kept (fun _ => False) w w') := (dtake w b D i h hf).mono fun e w' hp => by
    rcases hp with ⟨_, e1, hk⟩ | ⟨h1, h2, _⟩
    · exact ⟨e1, hk⟩
    · omega
  have HE : Hid (D.pu.store i = (false, 10, D.pu)) := by
    show _ = _
    rw [DP.store]
    by_cases h0 : i < 0
    · rw [if_pos h0]
    · rw [if_neg h0]
      have : D.pu.puts[i.toNat]? = none := List.getElem?_eq_none_iff.mpr (show D.puts.length ≤ i.toNat by omega)
      rw [this]
  have HG : Hid (∀ W, Kept (fun _ => False) w W → Goes w b D D.pu W) := fun W hW => Goes.of_kept h hW
  clear h hf hi
  go_enter Tryz.func45, Tryz.ntmps45
  go_wp2_with (go_at_call 99; refine HT.out.mono ?_; rintro e w1 ⟨rfl, hk1⟩)
  go_ret2
  exact ⟨by rw [HE.out]; rfl, by rw [HE.out]; exact HG.out _ (hk1.allocNew _)⟩

theorem two_at {w1 w3 : World} {x : EntE} {T : TypeId} (k : Kept (fun _ => False) (w1.alloc (.cells #[.string x.q, .int .i32 x.val, .int .u64 (x.fr : Int), .int .u64 (x.till : Int), .bool x.op, .int .u64 (x.kn : Int)] T)) w3) : w3.cell? ⟨w1.heap.size, 0, none⟩ = some (.string x.q) ∧ w3.cell? ⟨w1.heap.size, 1, none⟩ = some (.int .i32 x.val) ∧ w3.cell? ⟨w1.heap.size, 2, none⟩ = some (.int .u64 (x.fr : Int)) ∧ w3.cell? ⟨w1.heap.size, 3, none⟩ = some (.int .u64 (x.till : Int)) ∧ w3.cell? ⟨w1.heap.size, 4, none⟩ = some (.bool x.op) ∧ w3.cell? ⟨w1.heap.size, 5, none⟩ = some (.int .u64 (x.kn : Int)) :=
  ⟨k.keep id (by simp), k.keep id (by simp), k.keep id (by simp), k.keep id (by simp), k.keep id (by simp), k.keep id (by simp)⟩

set_option maxHeartbeats 4000000 in
theorem dStore_good (w : World) (b : Nat) (D : DevS) (i : Nat) (h : Dev w b D) (hw : D.Walk) (hi : i < D.puts.length) :
    Calls Tryz.prog 45 #[.pointer (some ⟨b, 0, none⟩), .int .i64 (i : Int)] w fun e w' => e = .returned (.tuple #[.bool (D.pu.store i).1, .int .i64 (D.pu.store i).2.1]) ∧ Goes w b D (D.pu.store i).2.2 w' := by
  obtain ⟨x, hx⟩ : ∃ x, D.puts[i]? = some x := ⟨_, List.getElem?_eq_getElem hi⟩
  have hxq := hw.putq x (List.mem_of_getElem? hx)
  obtain ⟨k, hk⟩ : ∃ k, k = D.pu.nodeN x.q := ⟨_, rfl⟩
  have hkl : k < D.nodes.length := by rw [hk]; show sumB x.q.data.toList % (D.nodes.map (·.p)).length < _; rw [List.length_map]; exact Nat.mod_lt _ hw.n1
  obtain ⟨nd, hnd⟩ : ∃ nd, D.nodes[k]? = some nd := ⟨_, List.getElem?_eq_getElem hkl⟩
  have hW := hw.nodes nd (List.mem_of_getElem? hnd)
  have HE : Hid (D.pu.store (i : Int) = ((nd.p.store x).2, 0, { D.pu with puts := D.puts.eraseIdx i, sites := D.pu.sites.set k (nd.p.store x).1 })) := by
    show _ = _
    rw [DP.store, if_neg (by omega), Int.toNat_natCast]
    have e1 : D.pu.puts[i]? = some x := hx
    rw [e1]
    dsimp only
    rw [← hk]
    have e2 : D.pu.sites[k]? = some nd.p := by show (D.nodes.map (·.p))[k]? = _; rw [List.getElem?_map, hnd]; rfl
    rw [e2]
    rfl
  have HT : Hid (Calls Tryz.prog 99 #[.pointer (some ⟨b, 27, none⟩), .int .i64 (i : Int)] w fun e w' => e = .returned (.tuple #[.agg #[.string x.q, .int .i32 x.val, .int .u64 (x.fr : Int), .int .u64 (x.till : Int), .bool x.op, .int .u64 (x.kn : Int)], .int .i64 0]) ∧ Hid (∃ v, DBecame w b D w' (D.setPuts (D.puts.eraseIdx i) v))) := (dtake w b D i h hw.fit).mono fun e w' hp => by
    rcases hp with ⟨hb, _⟩ | ⟨h1, h2, x', hx', e1, v, r⟩
    · omega
    · rw [Int.toNat_natCast] at hx' r
      rw [hx] at hx'
      injection hx' with hx'
      subst hx'
      exact ⟨e1, v, r⟩
  have HNO : Hid (∀ W v, Dev W b (D.setPuts (D.puts.eraseIdx i) v) → ∃ g, D.vn.ownBlock = some g ∧ Calls Tryz.prog 88 #[.pointer (some ⟨b, 0, none⟩), .string x.q] W fun e w' => e = .returned (.pointer (some ⟨g, k * 8, none⟩)) ∧ W = w') := fun W v hW2 => by
    obtain ⟨g, _, _, ho, _⟩ := hW2.nodes.block hw.n1
    refine ⟨g, ho, ?_⟩
    have := dnodeOf W b g (D.setPuts (D.puts.eraseIdx i) v) x.q hW2 ho hw.n1 (by have := hw.n3; show D.nodes.length ≤ 1000; omega) hxq
    rw [hk]
    exact this
  have HST : Hid (∀ W g v, D.vn.ownBlock = some g → DBecame w b D W (D.setPuts (D.puts.eraseIdx i) v) → Calls Tryz.prog 101 #[.pointer (some ⟨g, k * 8, none⟩), .agg #[.string x.q, .int .i32 x.val, .int .u64 (x.fr : Int), .int .u64 (x.till : Int), .bool x.op, .int .u64 (x.kn : Int)]] W fun e w' => e = .returned (.bool (nd.p.store x).2) ∧ Hid (Goes w b D { D.pu with puts := D.puts.eraseIdx i, sites := D.pu.sites.set k (nd.p.store x).1 } w')) := fun W g v ho hB => by
    have hnd' : (D.setPuts (D.puts.eraseIdx i) v).nodes[k]? = some nd := hnd
    refine (dNStore W b k g _ nd x hB.1 hnd' ho hW.ok hW.el hW.r1 hW.r2 hW.us (by unfold maxLen; omega)).mono fun e w' hp => ⟨hp.1, ?_⟩
    obtain ⟨n2, e2, hb2⟩ := hp.2.out
    refine ⟨_, ?_, hB.trans hb2⟩
    rw [DevS.pu_put, e2]
    unfold DP.put
    rw [Int.toNat_natCast]
    rfl
  have HKB : Hid (∀ W W' v, DBecame w b D W (D.setPuts (D.puts.eraseIdx i) v) → Kept (fun _ => False) W W' → DBecame w b D W' (D.setPuts (D.puts.eraseIdx i) v)) := fun W W' v hB hk => ⟨hB.1.kept hk (fun _ _ => id), hB.2.1.trans hk (fun _ => id) (fun _ _ => False.elim), hB.2.2⟩
  clear h hw hi hx hnd hW hk hkl
  go_enter Tryz.func45, Tryz.ntmps45
  go_wp2_with first
    | (go_at_call 99; refine HT.out.mono ?_; rintro e w1 ⟨rfl, hv1⟩; obtain ⟨v, hB⟩ := hv1.out; have HB1 : Hid (DBecame w b D (w1.alloc (.cells #[.string x.q, .int .i32 x.val, .int .u64 (x.fr : Int), .int .u64 (x.till : Int), .bool x.op, .int .u64 (x.kn : Int)] 55)) (D.setPuts (D.puts.eraseIdx i) v)) := HKB.out _ _ _ hB (Kept.alloc _ _ _); obtain ⟨g, hg, hno⟩ := HNO.out _ _ HB1.out.1; have HG : Hid (D.vn.ownBlock = some g) := hg; have HNC : Hid (Calls Tryz.prog 88 #[.pointer (some ⟨b, 0, none⟩), .string x.q] (w1.alloc (.cells #[.string x.q, .int .i32 x.val, .int .u64 (x.fr : Int), .int .u64 (x.till : Int), .bool x.op, .int .u64 (x.kn : Int)] 55)) fun e w' => e = .returned (.pointer (some ⟨g, k * 8, none⟩)) ∧ (w1.alloc (.cells #[.string x.q, .int .i32 x.val, .int .u64 (x.fr : Int), .int .u64 (x.till : Int), .bool x.op, .int .u64 (x.kn : Int)] 55)) = w') := hno; clear hv1 hB hg hno)
    | (go_at_call 88; refine HNC.out.mono ?_; rintro e w2 ⟨rfl, rfl⟩)
    | (go_at_call 101; refine (HST.out _ g v HG.out HB1.out).mono ?_; rintro e w3 ⟨rfl, hr⟩)
  go_ret2
  exact ⟨by rw [HE.out]; rfl, by rw [HE.out]; exact hr.out⟩

theorem dStore (w : World) (b : Nat) (D : DevS) (i : Int) (h : Dev w b D) (hw : D.Walk) :
    Calls Tryz.prog 45 #[.pointer (some ⟨b, 0, none⟩), .int .i64 i] w fun e w' => e = .returned (.tuple #[.bool (D.pu.store i).1, .int .i64 (D.pu.store i).2.1]) ∧ Goes w b D (D.pu.store i).2.2 w' := by
  by_cases hi : i < 0 ∨ (D.puts.length : Int) ≤ i
  · exact dStore_bad w b D i h hw.fit hi
  · obtain ⟨j, rfl⟩ : ∃ j : Nat, i = j := ⟨i.toNat, by omega⟩
    exact dStore_good w b D j h hw (by omega)

end Go.Proofs.YtpfcacedpkaihaaGreat
