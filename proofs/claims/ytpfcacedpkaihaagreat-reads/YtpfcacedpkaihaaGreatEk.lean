/- The program's Commit (package almanac), walked. -/
import Derived.Test.YtpfcacedpkaihaaGreatEj
namespace Go.Proofs.YtpfcacedpkaihaaGreat
open Go.RowKit

/-- a list, of whose elements the first j are turned. -/
def mapTo {α : Type} (f : α → α) (l : List α) (j : Nat) : List α := (l.take j).map f ++ l.drop j
theorem mapTo_zero {α : Type} (f : α → α) (l : List α) : mapTo f l 0 = l := by simp [mapTo]
theorem mapTo_all {α : Type} (f : α → α) (l : List α) : mapTo f l l.length = l.map f := by simp [mapTo]
theorem mapTo_len {α : Type} (f : α → α) (l : List α) (j : Nat) : (mapTo f l j).length = l.length := by simp [mapTo]; omega
theorem mapTo_at {α : Type} (f : α → α) (l : List α) (j : Nat) (h : j < l.length) : (mapTo f l j)[j]? = some l[j] := by
  unfold mapTo
  rw [List.getElem?_append_right (by simp; omega)]
  simp [Nat.min_eq_left (Nat.le_of_lt h)]
theorem mapTo_next {α : Type} (f : α → α) (l : List α) (j : Nat) (h : j < l.length) : (mapTo f l j).set j (f l[j]) = mapTo f l (j + 1) := by
  unfold mapTo
  rw [List.set_append_right _ _ (by simp; omega), List.take_succ_eq_append_getElem h, List.map_append, List.append_assoc]
  congr 1
  have e : l.drop j = l[j] :: l.drop (j + 1) := List.drop_eq_getElem_cons h
  simp only [List.length_map, List.length_take, Nat.min_eq_left (Nat.le_of_lt h), Nat.sub_self]
  rw [e]
  rfl

set_option maxHeartbeats 1000000 in
theorem dCommit_no (w : World) (b : Nat) (D : DevS) (ao : Option Addr) (n cap : Nat) (ws : List (Int × Int)) (er : Int) (h : Dev w b D) (her : er ≠ 0)
    (hc : Calls Tryz.prog 74 #[.pointer (some ⟨b, 0, none⟩), .slice ao n cap] w fun e w' => e = .returned (.tuple #[.int .u64 0, .int .i64 er]) ∧ Kept (fun _ => False) w w') (hE : D.pu.commit n ws = (0, er, D.pu)) :
    Calls Tryz.prog 28 #[.pointer (some ⟨b, 0, none⟩), .slice ao n cap] w fun e w' => e = .returned (.tuple #[.int .u64 ((D.pu.commit n ws).1 : Int), .int .i64 (D.pu.commit n ws).2.1]) ∧ Goes w b D (D.pu.commit n ws).2.2 w' := by
  have HC : Hid (Calls Tryz.prog 74 #[.pointer (some ⟨b, 0, none⟩), .slice ao n cap] w fun e w' => e = .returned (.tuple #[.int .u64 0, .int .i64 er]) ∧ Kept (fun _ => False) w w') := hc
  have HE : Hid (D.pu.commit n ws = (0, er, D.pu)) := hE
  have HG : Hid (∀ W, Kept (fun _ => False) w W → Goes w b D D.pu W) := fun W hW => Goes.of_kept h hW
  have hb : (er == 0) = false := beq_eq_false_iff_ne.mpr her
  have hb' : (er != 0) = true := by simp [bne, hb]
  clear h hc hE her
  go_enter Tryz.func28, Tryz.ntmps28
  go_wp2_with (go_at_call 74; refine HC.out.mono ?_; rintro e w1 ⟨rfl, hk1⟩)
  go_ret2
  exact ⟨by rw [HE.out]; rfl, by rw [HE.out]; exact HG.out _ hk1⟩

set_option maxRecDepth 100000 in
set_option maxHeartbeats 2000000 in
theorem dCommit_yes (w : World) (b : Nat) (D : DevS) (ao : Option Addr) (n cap : Nat) (ws : List (Int × Int)) (h : Dev w b D) (hw : D.Walk) (hwr : Wr w ao n ws) (hn : n ≤ 8) (hk : ws.all keyOk = true) (hp : D.past.length < 700) :
    Calls Tryz.prog 28 #[.pointer (some ⟨b, 0, none⟩), .slice ao n cap] w fun e w' => e = .returned (.tuple #[.int .u64 ((D.pu.commit n ws).1 : Int), .int .i64 (D.pu.commit n ws).2.1]) ∧ Goes w b D (D.pu.commit n ws).2.2 w' := by
  obtain ⟨q, hq⟩ : ∃ q, q = D.nextP ws := ⟨_, rfl⟩
  have HE : Hid (D.pu.commit n ws = (D.past.length + 1, 0, D.pu.push q)) := by
    show _ = _
    rw [DP.commit, if_neg (by omega), if_neg (by rw [hk]; simp), if_neg (show ¬ 700 ≤ D.pu.past.length by show ¬ 700 ≤ D.past.length; omega), hq]
    rfl
  have HC : Hid (Calls Tryz.prog 74 #[.pointer (some ⟨b, 0, none⟩), .slice ao n cap] w fun e w' => e = .returned (.tuple #[.int .u64 ((D.past.length : Int) + 1), .int .i64 0]) ∧ Hid (∃ v, DBecame w b D w' (D.pushP q v))) := (dcommit0 w b D ao n cap ws h hw.fit hwr hn).mono fun e w' hp2 => by
    rcases hp2 with ⟨a, _⟩ | ⟨_, a, _⟩ | ⟨_, _, e1, v, r⟩
    · rw [hk] at a; cases a
    · omega
    · rw [← hq] at r
      exact ⟨by rw [e1]; simp, v, r⟩
  have hFit : ∀ v, (D.pushP q v).Fit := fun v => ⟨by show (D.past ++ [q]).length ≤ 700; simp; omega, hw.fit.clk0, hw.fit.clk1, hw.fit.bmax, hw.fit.qmax⟩
  have HWT : Hid (∀ W v, Dev W b (D.pushP q v) → Calls Tryz.prog 75 #[.pointer (some ⟨b, 0, none⟩), .int .u64 ((D.past.length : Int) + 1)] W fun e w' => e = .returned (.int .u8 q.keys) ∧ W = w') := fun W v hD => dwrote0 W b _ D.past.length q hD (hFit v) (by show (D.past ++ [q])[D.past.length]? = _; simp)
  obtain ⟨f, hf⟩ : ∃ f : NodeP → NodeP, f = fun s => s.tell (D.past.length + 1) q.keys := ⟨_, rfl⟩
  obtain ⟨L, hL⟩ : ∃ L, L = D.pu.sites := ⟨_, rfl⟩
  have hLl : L.length = D.nodes.length := by rw [hL]; show (D.nodes.map (·.p)).length = _; simp
  obtain ⟨J, hJ⟩ : ∃ J : World → Nat → Prop, J = fun W j => ∃ D2 : DevS, D2.pu = { D.pu with past := D.past ++ [q], sites := mapTo f L j } ∧ DBecame w b D W D2 := ⟨_, rfl⟩
  have HJ0 : Hid (∀ W v, DBecame w b D W (D.pushP q v) → J W 0) := fun W v hB => by
    rw [hJ]
    exact ⟨_, by rw [mapTo_zero, hL]; rfl, hB⟩
  have HJE : Hid (∀ W, J W L.length → Goes w b D (D.pu.push q) W) := fun W hj => by
    rw [hJ] at hj
    obtain ⟨D2, e2, hb2⟩ := hj
    refine ⟨D2, ?_, hb2⟩
    rw [e2, mapTo_all, hL, hf]
    rfl
  have HCE : Hid (∀ W j, J W j → ∃ (av : Option Addr) (cv : Nat), W.cell? ⟨b, 28, none⟩ = some (.slice av L.length cv)) := fun W j hj => by
    rw [hJ] at hj
    obtain ⟨D2, e2, hb2⟩ := hj
    obtain ⟨av, cv, hv, _⟩ := hb2.1.nodes.form
    have hl2 : D2.nodes.length = L.length := by
      have : D2.pu.sites.length = L.length := by rw [e2]; exact mapTo_len f L j
      have e3 : D2.pu.sites.length = D2.nodes.length := by show (D2.nodes.map (·.p)).length = _; simp
      omega
    rw [hl2] at hv
    exact ⟨av, cv, by rw [← hv]; exact hb2.1.c28⟩
  have HTL : Hid (∀ W j (hj : j < L.length), J W j → ∃ (g cv : Nat), W.cell? ⟨b, 28, none⟩ = some (.slice (some ⟨g, 0, none⟩) L.length cv) ∧ Calls Tryz.prog 76 #[.pointer (some ⟨g, j * 8, none⟩), .int .u64 ((D.past.length : Int) + 1), .int .u8 q.keys] W fun e w' => e = .returned (.tuple #[]) ∧ Hid (J w' (j + 1))) := fun W j hj hJj => by
    rw [hJ] at hJj
    obtain ⟨D2, e2, hb2⟩ := hJj
    have hs2 : D2.nodes.map (·.p) = mapTo f L j := by
      have : D2.pu.sites = mapTo f L j := by rw [e2]
      exact this
    have hl2 : D2.nodes.length = L.length := by
      have := congrArg List.length hs2
      rw [mapTo_len] at this
      simpa using this
    obtain ⟨g, cv, hv, ho, _⟩ := hb2.1.nodes.block (by omega)
    obtain ⟨nd, hnd⟩ : ∃ nd, D2.nodes[j]? = some nd := ⟨_, List.getElem?_eq_getElem (by omega)⟩
    have hndp : nd.p = L[j] := by
      have h1 : (D2.nodes.map (·.p))[j]? = some nd.p := by rw [List.getElem?_map, hnd]; rfl
      rw [hs2, mapTo_at f L j hj] at h1
      injection h1 with h1
      exact h1.symm
    have hWn : nd.p.Walk := by
      rw [hndp]
      have : L[j] ∈ D.nodes.map (·.p) := by rw [← show D.pu.sites = D.nodes.map (·.p) from rfl, ← hL]; exact List.getElem_mem hj
      obtain ⟨x, hx, e⟩ := List.mem_map.mp this
      rw [← e]
      exact hw.nodes x hx
    refine ⟨g, cv, by rw [← hl2, ← hv]; exact hb2.1.c28, ?_⟩
    have := dtell W b j g D2 nd (D.past.length + 1) q.keys hb2.1 hnd ho hWn.fl hWn.fs (by have := hWn.ok.hz; omega)
    rw [show (((D.past.length + 1 : Nat)) : Int) = (D.past.length : Int) + 1 by omega] at this
    refine this.mono fun e w' hp3 => ⟨hp3.1, ?_⟩
    obtain ⟨n3, e3, hb3⟩ := hp3.2.out
    show J w' (j + 1)
    rw [hJ]
    refine ⟨_, ?_, hb2.trans hb3⟩
    rw [DevS.pu_put, e3, e2, hndp]
    unfold DP.put
    rw [Int.toNat_natCast, ← mapTo_next f L j hj]
    subst hf
    rfl
  have hlm : L.length ≤ 3 := by have := hw.n3; omega
  clear h hw hwr hn hk hq hFit hf hL hJ hLl
  go_enter Tryz.func28, Tryz.ntmps28
  go_wp2_with first
    | (go_at_call 74; refine HC.out.mono ?_; rintro e w1 ⟨rfl, hv1⟩; obtain ⟨v, hB⟩ := hv1.out; have HJ1 : Hid (J w1 0) := HJ0.out _ _ hB; have HW1 : Hid (Calls Tryz.prog 75 #[.pointer (some ⟨b, 0, none⟩), .int .u64 ((D.past.length : Int) + 1)] w1 fun e w' => e = .returned (.int .u8 q.keys) ∧ w1 = w') := HWT.out _ _ hB.1; obtain ⟨av, cv, c28⟩ := HCE.out _ _ HJ1.out; clear hB hv1)
    | (go_at_call 75; refine HW1.out.mono ?_; rintro e w2 ⟨rfl, rfl⟩)
  go_loopw [32] (fun iv wr => ∃ j : Nat, j ≤ L.length ∧ iv = .int .i64 j ∧ Hid (J wr j)) (fun iv _ => L.length - (intOf iv).toNat)
  case atStart => exact ⟨0, Nat.zero_le _, rfl, HJ1.out⟩
  case round =>
    obtain ⟨j, hj, rfl, HT⟩ := hrel
    by_cases hlt : j < L.length
    · obtain ⟨g, cv', d28, hcall⟩ := HTL.out wr j hlt HT.out
      have HCL : Hid (Calls Tryz.prog 76 #[.pointer (some ⟨g, j * 8, none⟩), .int .u64 ((D.past.length : Int) + 1), .int .u8 q.keys] wr fun e w' => e = .returned (.tuple #[]) ∧ Hid (J w' (j + 1))) := hcall
      have hj0 : (0 : Int) ≤ (j : Int) := by omega
      have hj1 : (j : Int) < (L.length : Int) := by omega
      clear hcall
      go_wp2_with (go_at_call 76; refine HCL.out.mono ?_; rintro e w3 ⟨rfl, hT3⟩)
      go_roundw
      case rel => exact ⟨j + 1, by omega, by go_num, hT3.out⟩
      case measure => simp [intOf]; omega
    · have hjn : j = L.length := by omega
      subst hjn
      have HG := HJE.out wr HT.out
      go_wp2
      go_ret2
      exact ⟨by rw [HE.out]; simp, by rw [HE.out]; exact HG⟩

theorem dCommit (w : World) (b : Nat) (D : DevS) (ao : Option Addr) (n cap : Nat) (ws : List (Int × Int)) (h : Dev w b D) (hw : D.Walk) (hwr : Wr w ao n ws) (hm : n ≤ maxLen) :
    Calls Tryz.prog 28 #[.pointer (some ⟨b, 0, none⟩), .slice ao n cap] w fun e w' => e = .returned (.tuple #[.int .u64 ((D.pu.commit n ws).1 : Int), .int .i64 (D.pu.commit n ws).2.1]) ∧ Goes w b D (D.pu.commit n ws).2.2 w' := by
  by_cases hn : 8 < n
  · refine dCommit_no w b D ao n cap ws 3 h (by decide) ((dcommit_long w b ao n cap hn hm).mono fun e w' hp => ⟨hp.1, by rw [← hp.2]; exact Kept.refl _ _⟩) (by rw [DP.commit, if_pos hn])
  · cases hk : ws.all keyOk with
    | false =>
      refine dCommit_no w b D ao n cap ws 5 h (by decide) ((dcommit0 w b D ao n cap ws h hw.fit hwr (by omega)).mono fun e w' hp => ?_) (by rw [DP.commit, if_neg hn, if_pos hk])
      rcases hp with ⟨_, e1, k⟩ | ⟨a, _⟩ | ⟨a, _⟩
      · exact ⟨e1, k⟩
      · rw [hk] at a; cases a
      · rw [hk] at a; cases a
    | true =>
      by_cases hp : D.past.length < 700
      · exact dCommit_yes w b D ao n cap ws h hw hwr (by omega) hk hp
      · refine dCommit_no w b D ao n cap ws 6 h (by decide) ((dcommit0 w b D ao n cap ws h hw.fit hwr (by omega)).mono fun e w' hp2 => ?_) (by rw [DP.commit, if_neg hn, if_neg (by rw [hk]; simp), if_pos (show 700 ≤ D.pu.past.length by show 700 ≤ D.past.length; omega)])
        rcases hp2 with ⟨a, _⟩ | ⟨_, _, e1, k⟩ | ⟨_, a, _⟩
        · rw [hk] at a; cases a
        · exact ⟨e1, k⟩
        · omega

end Go.Proofs.YtpfcacedpkaihaaGreat
