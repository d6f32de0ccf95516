import Derived.Test.YtpfcacedpkaihabDzQfAa
/- The law Again (package almanackeep): what holds once the script is over; the program's calls from there. -/
namespace Go.Proofs.Ytpfcacedpkaihab
open Go.RowKit

/-- the plain data, once the script is over. -/
structure AP (P : DP) (rm : Int) (n : Nat) : Prop where
  good : P.Good n
  sem : P.Sem rm
  sh : ∀ s ∈ P.sites, s.Sh P.past
  psh : ∀ e ∈ P.puts, Shut P.past e
  clk : ∀ i (h : i < P.past.length), P.past[i].tick ≤ P.clock
structure AC (w0 : Fr) (W : World) (pb n : Nat) (K : KS) (D : DevS) : Prop where
  core : KCore w0 W pb K D
  ok : K.ok = true
  st : K.states = (fun _ => 0) :: D.past.map PastE.st
  ap : AP D.pu K.room n
  cl : K.clock = D.clock
theorem AC.kept {w0 : Fr} {W W' : World} {pb n : Nat} {K : KS} {D : DevS} (h : AC w0 W pb n K D) (k : Kept (fun _ => False) W W') : AC w0 W' pb n K D := ⟨h.core.kept k, h.ok, h.st, h.ap, h.cl⟩
theorem AC.setOk {w0 : Fr} {W : World} {pb n : Nat} {K : KS} {D : DevS} (h : AC w0 W pb n K D) : AC w0 (W.setCell ⟨pb, 8, none⟩ (.bool true)) pb n K D := by
  have e : ({ K with ok := true } : KS) = K := by
    have := h.ok
    cases K
    simp at this
    subst this
    rfl
  have s1 := h.core.keep.setOwn (K' := { K with ok := true }) 8 (.bool true) rfl rfl
  have hc := h.core.turn s1 rfl
  rw [e] at hc
  exact ⟨hc, h.ok, h.st, h.ap, h.cl⟩
theorem AC.goes {w0 : Fr} {W W' : World} {pb n n' : Nat} {K : KS} {D : DevS} {P : DP} (h : AC w0 W pb n K D) (hG : Goes W K.xb D P W') (hp : P.past = D.past) (hc : P.clock = D.clock) (hap : AP P K.room n') : ∃ D', D'.pu = P ∧ AC w0 W' pb n' K D' := by
  obtain ⟨D', e, hB⟩ := hG
  have e1 : D'.past = D.past := (congrArg DP.past e).trans hp
  have e2 : D'.clock = D.clock := (congrArg DP.clock e).trans hc
  exact ⟨D', e, h.core.prog hB, h.ok, by rw [e1]; exact h.st, by rw [e]; exact hap, by rw [e2]; exact h.cl⟩
theorem AC.seat {w0 : Fr} {W W' : World} {pb n b : Nat} {K : KS} {D : DevS} {j : Nat} {x : SeatE} (h : AC w0 W pb n K D) (hd : Dev W' K.xb (D.seatP j x b)) (hk : Kept (D.fp K.xb) W W') (hb : b ≤ 200) : AC w0 W' pb n K (D.seatP j x b) :=
  ⟨h.core.prog ⟨hd, hk, fun _ hx => .inl hx⟩, h.ok, h.st, ⟨h.ap.good.seats _ _ hb, ⟨h.ap.sem.past, h.ap.sem.sites, h.ap.sem.puts⟩, h.ap.sh, h.ap.psh, h.ap.clk⟩, h.cl⟩
theorem AC.walk {w0 : Fr} {W : World} {pb n : Nat} {K : KS} {D : DevS} (h : AC w0 W pb n K D) (hn : n ≤ 1000) : D.Walk := h.ap.good.walk (by omega)

/-- the first k nodes are up, and have heard all. -/
def UpTo (P : DP) (k : Nat) : Prop := ∀ (j : Nat) (s : NodeP), j < k → P.sites[j]? = some s → s.up = true ∧ s.horizon = P.past.length
/-- nothing but nodes and puts has turned. -/
structure Quiet (D D' : DevS) : Prop where
  past : D'.past = D.past
  clock : D'.clock = D.clock
  begun : D'.begun = D.begun
  seats : ∀ i, (D'.seats i).reads = (D.seats i).reads ∧ (D'.seats i).num = (D.seats i).num
theorem Quiet.refl (D : DevS) : Quiet D D := ⟨rfl, rfl, rfl, fun _ => ⟨rfl, rfl⟩⟩
theorem Quiet.trans {D D1 D2 : DevS} (h : Quiet D D1) (h2 : Quiet D1 D2) : Quiet D D2 := ⟨h2.past.trans h.past, h2.clock.trans h.clock, h2.begun.trans h.begun, fun i => ⟨(h2.seats i).1.trans (h.seats i).1, (h2.seats i).2.trans (h.seats i).2⟩⟩
theorem Quiet.nodes {D D' : DevS} {P : DP} (e : D'.pu = P) (h : D.pu.NodesOnly P) : Quiet D D' := by
  obtain ⟨h1, h2, h3, h4⟩ := h
  have e1 : D'.past = D.past := (congrArg DP.past e).trans h1
  have e2 : D'.clock = D.clock := (congrArg DP.clock e).trans h2
  have e3 : D'.seats = D.seats := (congrArg DP.seats e).trans h3
  have e4 : D'.begun = D.begun := (congrArg DP.begun e).trans h4
  exact ⟨e1, e2, e4, fun i => by rw [e3]; exact ⟨rfl, rfl⟩⟩

theorem AP.ask {P : DP} {rm : Int} {n : Nat} (h : AP P rm n) (k : Int) : AP (P.ask k).2.2 rm n := by
  have hp : (P.ask k).2.2.past = P.past := (nodes_ask P k).1
  have hc : (P.ask k).2.2.clock = P.clock := (nodes_ask P k).2.1
  refine ⟨h.good.ask k, h.sem.ask k, by rw [hp]; exact DP.sh_ask h.sem h.sh k, ?_, ?_⟩
  · rw [hp]
    unfold DP.ask; split <;> exact h.psh
  · intro i hi
    have hi' : i < P.past.length := by rw [← hp]; exact hi
    have e : (P.ask k).2.2.past[i] = P.past[i] := by simp only [hp]
    rw [e, hc]
    exact h.clk i hi'
theorem AP.drop {P : DP} {rm : Int} {n : Nat} (h : AP P rm n) (i : Int) : AP (P.drop i).2 rm n := by
  unfold DP.drop
  split
  · exact h
  · have hg := h.good.drop i
    have hs := h.sem.drop i
    unfold DP.drop at hg hs
    rename_i hc
    rw [if_neg hc] at hg hs
    exact ⟨hg, hs, h.sh, fun e he => h.psh e (List.mem_of_mem_eraseIdx he), h.clk⟩

/-- one time more a node asks. -/
def Asking (w0 : Fr) (pb n k : Nat) (K : KS) (D : DevS) (i : Nat) (W : World) : Prop := ∃ D', AC w0 W pb n K D' ∧ Quiet D D' ∧ D'.nodes.length = D.nodes.length ∧ UpTo D'.pu k ∧ (i = 0 ∨ ∃ s, D'.pu.sites[k]? = some s ∧ s.up = true ∧ i ≤ s.horizon ∧ s.horizon < D.past.length)
def Asked (w0 : Fr) (pb n k : Nat) (K : KS) (D : DevS) (W : World) : Prop := ∃ D', AC w0 W pb n K D' ∧ Quiet D D' ∧ D'.nodes.length = D.nodes.length ∧ UpTo D'.pu k
theorem Asking.ask {w0 : Fr} {pb n k i : Nat} {K : KS} {D : DevS} {W : World} (h : Asking w0 pb n k K D i W) (hn : n ≤ 1000) (hk : k < D.nodes.length) :
    Calls Try.prog 26 #[.pointer (some ⟨K.xb, 0, none⟩), .int .i64 (k : Int)] W fun e w' => ∃ t : Nat, e = .returned (.tuple #[.int .u64 (t : Int), .int .i64 0]) ∧ t ≤ D.past.length ∧ ((t = D.past.length ∧ Hid (Asked w0 pb n (k + 1) K D w')) ∨ (t < D.past.length ∧ i + 1 ≤ t ∧ Hid (Asking w0 pb n k K D (i + 1) w'))) := by
  obtain ⟨D', hA, hQ, hl, hU, hi⟩ := h
  have hk' : k < D'.nodes.length := by omega
  have hsl : D'.pu.sites.length = D'.nodes.length := by show (D'.nodes.map (·.p)).length = _; rw [List.length_map]
  have hks : k < D'.pu.sites.length := by omega
  obtain ⟨s, hs⟩ : ∃ s, s = D'.pu.sites[k] := ⟨_, rfl⟩
  have hs? : D'.pu.sites[k]? = some s := by rw [hs]; exact List.getElem?_eq_getElem hks
  have hst : D'.pu.site? (k : Int) = some s := by
    unfold DP.site?
    rw [if_neg (by omega), Int.toNat_natCast]
    exact hs?
  have hsg := hA.ap.good.sites s (List.mem_of_getElem? hs?)
  have hz := askS_hz D'.pu s hsg.hz
  have hup := askS_up D'.pu s
  have hsg' : (D'.pu.askS s).Good D'.pu.past.length n := DP.Good.askS hsg
  have hask : D'.pu.ask (k : Int) = ((D'.pu.askS s).horizon, 0, D'.pu.put (k : Int) (D'.pu.askS s)) := by unfold DP.ask; rw [hst]
  have hap := hA.ap.ask (k : Int)
  have hno := nodes_ask D'.pu (k : Int)
  have hpl : D'.pu.past.length = D.past.length := by show D'.past.length = _; rw [hQ.past]
  exact (dAsk W K.xb D' k hA.core.dev (hA.walk hn)).mono fun e w' hp => by
    rw [hask] at hp hap hno
    obtain ⟨D2, e2, hA2⟩ := hA.goes hp.2 hno.1 hno.2.1 hap
    have hQ2 : Quiet D D2 := hQ.trans (Quiet.nodes e2 hno)
    have hl2 : D2.nodes.length = D.nodes.length := by
      have h1 : D2.pu.sites.length = (D'.pu.put (k : Int) (D'.pu.askS s)).sites.length := by rw [e2]
      have h2 : (D'.pu.put (k : Int) (D'.pu.askS s)).sites.length = D'.pu.sites.length := by show (D'.pu.sites.set _ _).length = _; rw [List.length_set]
      have h3 : D2.pu.sites.length = D2.nodes.length := by show (D2.nodes.map (·.p)).length = _; rw [List.length_map]
      omega
    have hsites : D2.pu.sites = D'.pu.sites.set k (D'.pu.askS s) := by rw [e2]; show D'.pu.sites.set (k : Int).toNat _ = _; rw [Int.toNat_natCast]
    have hpast2 : D2.pu.past.length = D.past.length := by show D2.past.length = _; rw [hQ2.past]
    have hU2 : UpTo D2.pu k := by
      intro j s' hj hs'
      rw [hsites, List.getElem?_set_ne (by omega)] at hs'
      have := hU j s' hj hs'
      exact ⟨this.1, by rw [this.2, hpl, hpast2]⟩
    have hsk : D2.pu.sites[k]? = some (D'.pu.askS s) := by rw [hsites, List.getElem?_set_self hks]
    refine ⟨(D'.pu.askS s).horizon, hp.1, by rw [← hpl]; exact hsg'.hz, ?_⟩
    by_cases ht : (D'.pu.askS s).horizon = D.past.length
    · refine .inl ⟨ht, D2, hA2, hQ2, hl2, fun j s' hj hs' => ?_⟩
      by_cases ej : j = k
      · subst ej
        rw [hsk] at hs'
        injection hs' with hs'
        subst hs'
        exact ⟨hup, by rw [ht, hpast2]⟩
      · exact hU2 j s' (by omega) hs'
    · have hlt : (D'.pu.askS s).horizon < D.past.length := by
        have := hsg'.hz
        omega
      have hi1 : i + 1 ≤ (D'.pu.askS s).horizon := by
        rcases hz with hz | hz
        · omega
        · rcases hi with rfl | ⟨s2, h1, h2, h3, h4⟩
          · omega
          · rw [hs?] at h1
            injection h1 with h1
            subst h1
            omega
      exact .inr ⟨hlt, hi1, D2, hA2, hQ2, hl2, hU2, .inr ⟨_, hsk, hup, hi1, hlt⟩⟩

/-! ### readers -/
/-- at most one seat is taken. -/
def Seats1 (D : DevS) : Prop := ∃ j0, ∀ i, i < 6 → (D.seats i).reads = true → i = j0 ∧ (D.seats i).num < (D.begun : Int)
def Sit (D : DevS) (a : Nat) : Prop := ∃ j, j < 6 ∧ (D.seats j).reads = true ∧ (D.seats j).num = (a : Int) ∧ (∀ i, i < 6 → (D.seats i).reads = true → (D.seats i).num = (a : Int) → i = j) ∧ (D.seats j).lo = D.past.length ∧ (D.seats j).hi = D.past.length
theorem Seats1.quiet {D D' : DevS} (h : Seats1 D) (q : Quiet D D') : Seats1 D' := by
  obtain ⟨j0, h⟩ := h
  refine ⟨j0, fun i hi hr => ?_⟩
  rw [(q.seats i).1] at hr
  rw [(q.seats i).2, q.begun]
  exact h i hi hr

theorem abegin {w0 : Fr} {W : World} {pb n : Nat} {K : KS} {D : DevS} (h : AC w0 W pb n K D) (hn : n ≤ 1000) (hs : Seats1 D) (hb : D.begun < 200) (hc : ∀ i (hi : i < D.past.length), D.past[i].tick < D.clock) :
    Calls Try.prog 11 #[.pointer (some ⟨K.xb, 0, none⟩), .int .i64 0] W fun e w' => e = .returned (.tuple #[.int .i64 (D.begun : Int), .int .i64 0]) ∧ Hid (∃ D', AC w0 w' pb n K D' ∧ Sit D' D.begun ∧ D'.pu.sites = D.pu.sites ∧ D'.puts = D.puts ∧ D'.past = D.past ∧ D'.clock = D.clock ∧ D'.begun = D.begun + 1 ∧ ((∀ i, i < 6 → (D.seats i).reads = false) → Seats1 D')) := by
  have hfit := (h.walk hn).fit
  obtain ⟨j0, hs⟩ := hs
  exact (dbegin W K.xb D 0 h.core.dev hfit (Int.le_refl _) (by omega)).mono fun e w' hp => by
    obtain ⟨lo, hF, hp⟩ := hp
    have hlo : lo = D.past.length := by
      by_cases hl : lo < D.past.length
      · have h1 := hF.2.2 hl
        have h2 := hc lo hl
        omega
      · have := hF.1
        omega
    rcases hp with ⟨ha, _⟩ | ⟨_, _, _, h200, _⟩ | ⟨j, hj, hjr, _, e1, hd, hk⟩
    · have h0 := (hs 0 (by omega) (ha 0 (by omega))).1
      have h1 := (hs 1 (by omega) (ha 1 (by omega))).1
      omega
    · omega
    · subst hlo
      refine ⟨e1, _, h.seat hd hk (by omega), ⟨j, hj, ?_⟩, rfl, rfl, rfl, rfl, rfl, fun hno => ⟨j, fun i hi hir => ?_⟩⟩
      · have e0 : (D.seatP j ⟨true, D.begun, D.past.length, D.past.length⟩ (D.begun + 1)).seats j = ⟨true, D.begun, D.past.length, D.past.length⟩ := putSeat_self _ _ _
        rw [e0]
        refine ⟨rfl, rfl, fun i hi hir hin => ?_, rfl, rfl⟩
        by_cases ei : i = j
        · exact ei
        · have e2 : (D.seatP j ⟨true, D.begun, D.past.length, D.past.length⟩ (D.begun + 1)).seats i = D.seats i := putSeat_ne _ _ _ _ ei
          rw [e2] at hir hin
          have := (hs i hi hir).2
          omega
      · by_cases ei : i = j
        · subst ei
          have e0 : (D.seatP i ⟨true, D.begun, D.past.length, D.past.length⟩ (D.begun + 1)).seats i = ⟨true, D.begun, D.past.length, D.past.length⟩ := putSeat_self _ _ _
          rw [e0]
          exact ⟨rfl, by show (D.begun : Int) < ((D.begun + 1 : Nat) : Int); omega⟩
        · have e2 : (D.seatP j ⟨true, D.begun, D.past.length, D.past.length⟩ (D.begun + 1)).seats i = D.seats i := putSeat_ne _ _ _ _ ei
          rw [e2, hno i hi] at hir
          cases hir

/-- the node of a query answers it at the newest stamp. -/
def Ready (P : DP) (q : ByteArray) : Prop := ∃ (s : NodeP) (i : Nat) (x : HeldE), P.sites[P.nodeN q]? = some s ∧ s.ents[i]? = some x ∧ meetsE s.horizon q P.past.length P.past.length x.e
theorem aread_bad {w0 : Fr} {W : World} {pb n a : Nat} {K : KS} {D : DevS} {q : ByteArray} {er : Int} (h : AC w0 W pb n K D) (hs : Sit D a) (hq : q.size ≤ maxLen) (her : er ≠ 0) (hr : Q.readL q.data.toList = (er, [])) :
    Calls Try.prog 12 #[.pointer (some ⟨K.xb, 0, none⟩), .int .i64 (a : Int), .string q] W fun e w' => e = .returned (.tuple #[.int .i32 0, .bool false, .int .i64 er]) ∧ Kept (fun _ => False) W w' := by
  obtain ⟨j, hj, hjr, hjn, _⟩ := hs
  exact dread_bad W K.xb D a q er j h.core.dev hj hjr hjn hq her hr
theorem right_at {l : List PastE} {q : ByteArray} {v : Int} {a b t : Nat} {ts : List (Nat × Nat)} (h : RightS l q v a b) (hq : Q.readL q.data.toList = (0, ts)) (h1 : a ≤ t) (h2 : t ≤ b) : v = evalL (stAt l t) ts := by
  obtain ⟨ts', hr, hv⟩ := h
  rw [hq] at hr
  simp at hr
  subst hr
  exact (hv t h1 h2).symm
theorem AP.hit {P : DP} {rm : Int} {n j k i : Nat} {s : NodeP} {x : HeldE} (h : AP P rm n) (hs : P.sites[k]? = some s) (hx : s.ents[i]? = some x) : AP (P.hit j k i s x) rm (n + 1) :=
  ⟨h.good.hit hs hx, h.sem.hit hs hx, fun y hy => by
    rcases List.mem_or_eq_of_mem_set hy with hy | rfl
    · exact h.sh y hy
    · exact (h.sh s (List.mem_of_getElem? hs)).use hx, h.psh, h.clk⟩
theorem AP.miss {P : DP} {rm : Int} {n j : Nat} {q : ByteArray} {ts : List (Nat × Nat)} {t : Nat} (h : AP P rm n) (hq : Q.readL q.data.toList = (0, ts)) (ht : t ≤ P.past.length) : AP (P.miss j (P.answer q ts t)) rm (n + 1) :=
  ⟨(h.good.miss (answer_ok hq ht)).more (Nat.le_succ _), h.sem.miss (answer_sem h.sem.past hq ht), h.sh, fun y hy => by
    have hy' : y ∈ (if P.puts.length < 10 then P.puts ++ [P.answer q ts t] else P.puts) := hy
    split at hy'
    · rcases mem_snoc hy' with hy' | rfl
      · exact h.psh y hy'
      · exact answer_shut hq
    · exact h.psh y hy', h.clk⟩
theorem cut_quiet {D D' : DevS} {j f g : Nat} (e1 : D'.past = D.past) (e2 : D'.clock = D.clock) (e3 : D'.begun = D.begun) (e4 : D'.seats = putSeat D.seats j ((D.seats j).cut f g)) : Quiet D D' := by
  refine ⟨e1, e2, e3, fun i => ?_⟩
  rw [e4]
  by_cases ei : i = j
  · subst ei; rw [putSeat_self]; exact ⟨rfl, rfl⟩
  · rw [putSeat_ne _ _ _ _ ei]; exact ⟨rfl, rfl⟩

theorem aread {w0 : Fr} {W : World} {pb n a : Nat} {K : KS} {D : DevS} {q : ByteArray} {ts : List (Nat × Nat)} (h : AC w0 W pb n K D) (hn : n ≤ 1000) (hs : Sit D a) (hr : Q.readL q.data.toList = (0, ts)) :
    Calls Try.prog 12 #[.pointer (some ⟨K.xb, 0, none⟩), .int .i64 (a : Int), .string q] W fun e w' =>
      (e = .returned (.tuple #[.int .i32 (evalL (stAt D.past D.past.length) ts), .bool true, .int .i64 0]) ∧ Hid (∃ D', AC w0 w' pb (n + 1) K D' ∧ Quiet D D' ∧ D'.puts = D.puts ∧ Ready D'.pu q)) ∨
      (¬ Ready D.pu q ∧ e = .returned (.tuple #[.int .i32 (evalL (stAt D.past D.past.length) ts), .bool false, .int .i64 0]) ∧ Hid (∃ D', AC w0 w' pb (n + 1) K D' ∧ Quiet D D' ∧ D'.pu.sites = D.pu.sites ∧ (D.puts = [] → D'.puts = [D.pu.answer q ts D.past.length]))) := by
  obtain ⟨j, hj, hjr, hjn, hone, hlo, hhi⟩ := hs
  have hw := h.walk hn
  have hl40 := readL_len hr
  have hql : q.data.toList.length = q.size := by rw [Array.length_toList]; rfl
  have hq : q.size ≤ 40 := by omega
  have hsl : D.pu.sites.length = D.nodes.length := by show (D.nodes.map (·.p)).length = _; rw [List.length_map]
  have hnN : D.pu.nodeN q < D.nodes.length := by rw [← hsl]; exact Nat.mod_lt _ (by rw [hsl]; exact hw.n1)
  obtain ⟨nd, hnd⟩ : ∃ nd, D.nodes[D.pu.nodeN q]? = some nd := ⟨_, List.getElem?_eq_getElem hnN⟩
  have hns : D.pu.sites[D.pu.nodeN q]? = some nd.p := by show (D.nodes.map (·.p))[_]? = _; rw [List.getElem?_map, hnd]; rfl
  have hgd := h.ap.good.sites nd.p (List.mem_of_getElem? hns)
  have hsm := h.ap.sem.sites nd.p (List.mem_of_getElem? hns)
  have hlh : (D.seats j).lo ≤ (D.seats j).hi := by rw [hlo, hhi]; exact Nat.le_refl _
  have hlt := ansN_lt true nd.p.horizon q (D.seats j).lo (D.seats j).hi (nd.p.ents.map (·.e)) nd.p.ents.length
  have hal : -1 ≤ nd.p.ans q (D.seats j).lo (D.seats j).hi nd.p.ents.length ∧ nd.p.ans q (D.seats j).lo (D.seats j).hi nd.p.ents.length < (nd.p.ents.length : Int) := hlt
  by_cases ha : nd.p.ans q (D.seats j).lo (D.seats j).hi nd.p.ents.length < 0
  · refine (dread_miss W K.xb D a q ts j nd h.core.dev hw hj hjr hjn hone hlh (by rw [hhi]; exact Nat.le_refl _) hq hr hnd ha).mono fun e w' hp => .inr ⟨?_, ?_, ?_⟩
    · rintro ⟨s, i, x, h1, h2, h3⟩
      rw [hns] at h1
      injection h1 with h1
      subst h1
      have hil : i < nd.p.ents.length := (List.getElem?_eq_some_iff.mp h2).1
      have := ans_nonneg nd.p q D.past.length D.past.length nd.p.ents.length i x hil h2 h3
      rw [hlo, hhi] at ha
      omega
    · rw [hp.1, hhi]; rfl
    · have hG := hp.2
      rw [hhi] at hG
      obtain ⟨D', e', hA'⟩ := h.goes hG rfl rfl (h.ap.miss hr (Nat.le_refl _))
      refine ⟨D', hA', cut_quiet (congrArg DP.past e') (congrArg DP.clock e') (congrArg DP.begun e') (congrArg DP.seats e'), by rw [e']; rfl, fun h0 => ?_⟩
      have e5 : D'.puts = D.pu.joined (D.pu.answer q ts D.past.length) := congrArg DP.puts e'
      rw [e5]
      unfold DP.joined
      have h0' : D.pu.puts = [] := h0
      rw [h0']
      rfl
  · obtain ⟨i, hi⟩ : ∃ i : Nat, nd.p.ans q (D.seats j).lo (D.seats j).hi nd.p.ents.length = (i : Int) := ⟨(nd.p.ans q (D.seats j).lo (D.seats j).hi nd.p.ents.length).toNat, by omega⟩
    have hil : i < nd.p.ents.length := by omega
    obtain ⟨x, hx⟩ : ∃ x, nd.p.ents[i]? = some x := ⟨_, List.getElem?_eq_getElem hil⟩
    have hm := ans_meets nd.p q (D.seats j).lo (D.seats j).hi nd.p.ents.length i x hi hx
    rw [hlo, hhi] at hm
    refine (dread_hit W K.xb D a q ts j i nd x h.core.dev hw hj hjr hjn hone hlh hq hr hnd hi hx).mono fun e w' hp => .inl ⟨?_, ?_⟩
    · have hE := (hsm.es x (List.mem_of_getElem? hx)).right
      rw [hm.1] at hE
      have hv : x.e.val = evalL (stAt D.past D.past.length) ts := right_at hE hr (by have := hm.2; omega) (by have := hm.2; omega)
      rw [hp.1, hv]
    · obtain ⟨D', e', hA'⟩ := h.goes hp.2 rfl rfl (h.ap.hit hns hx)
      have hQ : Quiet D D' := cut_quiet (congrArg DP.past e') (congrArg DP.clock e') (congrArg DP.begun e') (congrArg DP.seats e')
      refine ⟨D', hA', hQ, congrArg DP.puts e', ?_⟩
      have hnl : D.pu.nodeN q < D.pu.sites.length := (List.getElem?_eq_some_iff.mp hns).1
      have hsites : D'.pu.sites = D.pu.sites.set (D.pu.nodeN q) (nd.p.use i x) := congrArg DP.sites e'
      have hnn : D'.pu.nodeN q = D.pu.nodeN q := by unfold DP.nodeN; rw [hsites, List.length_set]
      have hpl : D'.pu.past.length = D.past.length := by show D'.past.length = _; rw [hQ.past]
      refine ⟨nd.p.use i x, i, { x with used := nd.p.uses + 1 }, ?_, ?_, ?_⟩
      · rw [hnn, hsites, List.getElem?_set_self hnl]
      · show (nd.p.ents.set i _)[i]? = _
        rw [List.getElem?_set_self hil]
      · rw [hpl]; exact hm

theorem astore {w0 : Fr} {W : World} {pb n : Nat} {K : KS} {D : DevS} {q : ByteArray} {ts : List (Nat × Nat)} (h : AC w0 W pb n K D) (hn : n ≤ 1000) (hU : UpTo D.pu D.nodes.length) (hr : Q.readL q.data.toList = (0, ts)) (hp : D.puts = [D.pu.answer q ts D.past.length]) :
    Calls Try.prog 15 #[.pointer (some ⟨K.xb, 0, none⟩), .int .i64 0] W fun e w' => e = .returned (.tuple #[.bool true, .int .i64 0]) ∧ Hid (∃ D', AC w0 w' pb (n + 1) K D' ∧ Quiet D D' ∧ Ready D'.pu q) := by
  have hw := h.walk hn
  have hsl : D.pu.sites.length = D.nodes.length := by show (D.nodes.map (·.p)).length = _; rw [List.length_map]
  have hnN : D.pu.nodeN q < D.pu.sites.length := Nat.mod_lt _ (by rw [hsl]; exact hw.n1)
  obtain ⟨s, hs⟩ : ∃ s, D.pu.sites[D.pu.nodeN q]? = some s := ⟨_, List.getElem?_eq_getElem hnN⟩
  have hsm := List.mem_of_getElem? hs
  obtain ⟨hup, hz⟩ := hU _ s (by rw [← hsl]; exact hnN) hs
  obtain ⟨m1, i, x, m2, m3⟩ := store_meets (h.ap.good.sites s hsm) (h.ap.sh s hsm) hup hz hr
  have hpp : D.pu.puts = [D.pu.answer q ts D.pu.past.length] := hp
  have hst : D.pu.store 0 = (true, 0, { D.pu with puts := [], sites := D.pu.sites.set (D.pu.nodeN q) (s.store (D.pu.answer q ts D.pu.past.length)).1 }) := by
    unfold DP.store
    rw [if_neg (by omega), hpp]
    show (match D.pu.sites[D.pu.nodeN q]? with
      | none => _
      | some s => _) = _
    rw [hs]
    dsimp only
    rw [m1]
    rfl
  have hap : AP (D.pu.store 0).2.2 K.room (n + 1) := by
    have hh := DP.sh_store h.ap.sem h.ap.sh h.ap.psh 0
    have hno := nodes_store D.pu 0
    refine ⟨h.ap.good.store 0, h.ap.sem.store 0, by rw [hno.1]; exact hh.1, by rw [hno.1]; exact hh.2, fun i hi => ?_⟩
    have hi' : i < D.pu.past.length := by rw [← hno.1]; exact hi
    have e : (D.pu.store 0).2.2.past[i] = D.pu.past[i] := by simp only [hno.1]
    rw [e, hno.2.1]
    exact h.ap.clk i hi'
  have hno := nodes_store D.pu 0
  exact (dStore W K.xb D 0 h.core.dev hw).mono fun e w' hq => by
    rw [hst] at hq hap hno
    obtain ⟨D', e', hA'⟩ := h.goes hq.2 rfl rfl hap
    have hQ : Quiet D D' := Quiet.nodes e' hno
    refine ⟨hq.1, D', hA', hQ, ?_⟩
    have hsites : D'.pu.sites = D.pu.sites.set (D.pu.nodeN q) (s.store (D.pu.answer q ts D.pu.past.length)).1 := congrArg DP.sites e'
    have hnn : D'.pu.nodeN q = D.pu.nodeN q := by unfold DP.nodeN; rw [hsites, List.length_set]
    have hpl : D'.pu.past.length = D.pu.past.length := by show D'.past.length = D.past.length; rw [hQ.past]
    refine ⟨_, i, x, ?_, m2, ?_⟩
    · rw [hnn, hsites, List.getElem?_set_self hnN]
    · rw [hpl]; exact m3

end Go.Proofs.Ytpfcacedpkaihab

/- The law Again (package almanackeep): ask, tick, walked once the script is over. -/
namespace Go.Proofs.Ytpfcacedpkaihab
open Go.RowKit

set_option maxRecDepth 100000 in
set_option maxHeartbeats 2000000 in
theorem kask (w0 : Fr) (w : World) (pb n k : Nat) (K : KS) (D : DevS) (h : AC w0 w pb n K D) (hn : n ≤ 1000) (hk : k < D.nodes.length) (hU : UpTo D.pu k) :
    Calls Try.prog 7 #[.pointer (some ⟨pb, 0, none⟩), .int .i64 (k : Int)] w fun e w' => e = .returned (.bool true) ∧ Hid (Asked w0 pb n (k + 1) K D w') := by
  have hm : D.past.length ≤ 700 := h.ap.good.pmax
  have HS : Hid (Asking w0 pb n k K D 0 w) := ⟨D, h, Quiet.refl D, rfl, hU, .inl rfl⟩
  have HAS : Hid (∀ (W : World) (i : Nat), Asking w0 pb n k K D i W → Calls Try.prog 26 #[.pointer (some ⟨K.xb, 0, none⟩), .int .i64 (k : Int)] W fun e w' => (e = .returned (.tuple #[.int .u64 (D.past.length : Int), .int .i64 0]) ∧ Hid (Asked w0 pb n (k + 1) K D w')) ∨ (∃ t : Nat, e = .returned (.tuple #[.int .u64 (t : Int), .int .i64 0]) ∧ t < D.past.length ∧ IntKind.i64.wrap (t : Int) = t ∧ Hid (Asking w0 pb n k K D (i + 1) w'))) := fun W i hA => (hA.ask hn hk).mono fun e w' hp => by
    obtain ⟨t, e1, ht, ⟨rfl, hB⟩ | ⟨hlt, hit, hB⟩⟩ := hp
    · exact .inl ⟨e1, hB⟩
    · exact .inr ⟨t, e1, hlt, by simp [IntKind.wrap, IntKind.bits, IntKind.signed]; omega, hB⟩
  have HNW : Hid (∀ (W : World) (j : Nat), Asked w0 pb n j K D W → Calls Try.prog 17 #[.pointer (some ⟨pb, 0, none⟩)] W fun e w' => e = .returned (.int .i64 (D.past.length : Int)) ∧ W = w') := fun W j hA => by
    obtain ⟨D', hA, hQ, _⟩ := hA
    obtain ⟨sa, cs, hvs, _⟩ := hA.core.keep.states.form
    have hsl : K.states.length = D.past.length + 1 := by rw [hA.st, hQ.past]; simp
    have c3 := hA.core.keep.c3
    rw [hvs, hsl] at c3
    exact knewest_c W pb sa D.past.length cs c3 (by omega)
  have HIN : Hid (∀ (W : World) (i : Nat), Asking w0 pb n k K D i W → Asked w0 pb n k K D W) := fun W i hA => by
    obtain ⟨D', h1, h2, h3, h4, _⟩ := hA
    exact ⟨D', h1, h2, h3, h4⟩
  have HC0 : Hid (∀ (W : World) (i : Nat), Asking w0 pb n k K D i W → W.cell? ⟨pb, 0, none⟩ = some (.pointer (some ⟨K.xb, 0, none⟩)) ∧ i ≤ 700) := fun W i hA => by
    obtain ⟨D', h1, h2, h3, h4, h5⟩ := hA
    refine ⟨h1.core.keep.c0, ?_⟩
    rcases h5 with rfl | ⟨s, _, _, h6, h7⟩ <;> omega
  obtain ⟨m, hm'⟩ : ∃ m, m = D.past.length := ⟨_, rfl⟩
  rw [← hm'] at HAS HNW hm
  have hwm : IntKind.i64.wrap (m : Int) = m := by simp [IntKind.wrap, IntKind.bits, IntKind.signed]; omega
  clear h hn hk hU hm'
  go_enter Try.func7, Try.ntmps7
  go_wp2
  go_loopw [5] (fun iv wr => ∃ i : Nat, iv = .int .i64 i ∧ Hid (Asking w0 pb n k K D i wr)) (fun iv _ => 702 - (intOf iv).toNat)
  case atStart => exact ⟨0, rfl, HS.out⟩
  case round =>
    obtain ⟨i, rfl, HA⟩ := hrel
    obtain ⟨c0, hi⟩ := HC0.out _ _ HA.out
    have hi7 : (i : Int) ≤ 701 := by omega
    go_wp2_with first
      | (go_at_call 26; refine (HAS.out _ i HA.out).mono ?_; rintro e w2 (⟨rfl, HB⟩ | ⟨t, rfl, hlt, hwt, HB⟩))
      | (go_at_call 17; refine (HNW.out _ _ HB.out).mono ?_; rintro e w3 ⟨rfl, rfl⟩)
      | (go_at_call 17; refine (HNW.out _ _ (HIN.out _ _ HB.out)).mono ?_; rintro e w3 ⟨rfl, rfl⟩; have hne : ((t : Int) == (m : Int)) = false := beq_eq_false_iff_ne.mpr (by omega))
    · go_ret
      exact ⟨rfl, HB.out⟩
    · go_roundw
      case rel => exact ⟨i + 1, by go_num, HB.out⟩
      case measure => simp [intOf]; omega

set_option maxHeartbeats 1000000 in
theorem atick (w0 : Fr) (w : World) (pb n : Nat) (K : KS) (D : DevS) (h : AC w0 w pb n K D) (hn : n ≤ 1000) (hc : D.clock < 100000) :
    Calls Try.prog 10 #[.pointer (some ⟨pb, 0, none⟩)] w fun e w' => e = .returned (.tuple #[]) ∧ Hid (∃ K' D', AC w0 w' pb n K' D' ∧ K'.xb = K.xb ∧ K'.states = K.states ∧ D'.pu = { D.pu with clock := D.clock + 1 }) := by
  have hW := h.walk hn
  have hcl : K.clock = D.clock := h.cl
  have hck0 := hW.fit.clk0
  have c0 := h.core.keep.c0
  have HT : Hid (Calls Try.prog 29 #[.pointer (some ⟨K.xb, 0, none⟩)] w fun e w' => e = .returned (.int .i64 0) ∧ Hid (∃ D', D'.pu = { D.pu with clock := D.clock + 1 } ∧ KCore w0 w' pb K D')) := (dTick w K.xb D h.core.dev hW.fit).mono fun e w' hp => by
    rw [DP.tick, if_neg (show ¬ D.pu.clock = 100000 by show ¬ D.clock = 100000; omega)] at hp
    obtain ⟨D', e', hB⟩ := hp.2
    exact ⟨hp.1, D', e', h.core.prog hB⟩
  have HK : Hid (∀ W D', D'.pu = { D.pu with clock := D.clock + 1 } → KCore w0 W pb K D' → W.cell? ⟨pb, 5, none⟩ = some (.int .i64 K.clock) ∧ W.cell? ⟨pb, 8, none⟩ = some (.bool true) ∧ (∀ i, W.frozen? ⟨pb, i, none⟩ = false) ∧ ∃ K' D', AC w0 ((W.setCell ⟨pb, 5, none⟩ (.int .i64 (K.clock + 1))).setCell ⟨pb, 8, none⟩ (.bool true)) pb n K' D' ∧ K'.xb = K.xb ∧ K'.states = K.states ∧ D'.pu = { D.pu with clock := D.clock + 1 }) := fun W D' e' hC => by
    refine ⟨hC.keep.c5, by have := hC.keep.c8; rw [h.ok] at this; exact this, fun i => hC.keep.blk.free i, ?_⟩
    have s1 := hC.keep.setOwn (K' := { K with clock := K.clock + 1 }) 5 (.int .i64 (K.clock + 1)) rfl rfl
    have s2 := s1.1.setOwn (K' := { K with clock := K.clock + 1, ok := true }) 8 (.bool true) rfl rfl
    have ep : D'.past = D.past := congrArg DP.past e'
    have ec : D'.clock = D.clock + 1 := congrArg DP.clock e'
    refine ⟨{ K with clock := K.clock + 1, ok := true }, D', ⟨hC.turn (s1.trans s2) rfl, rfl, by rw [ep]; exact h.st, ?_, by rw [ec]; show K.clock + 1 = _; rw [hcl]⟩, rfl, rfl, e'⟩
    rw [e']
    have hg := h.ap.good.tick
    rw [DP.tick, if_neg (show ¬ D.pu.clock = 100000 by show ¬ D.clock = 100000; omega)] at hg
    exact ⟨hg, ⟨h.ap.sem.past, h.ap.sem.sites, h.ap.sem.puts⟩, h.ap.sh, h.ap.psh, fun i hi => by have := h.ap.clk i hi; show D.pu.past[i].tick ≤ D.pu.clock + 1; omega⟩
  have hk1 : K.clock < 100000 := by omega
  have hk0 : 0 ≤ K.clock := by omega
  clear h hW hcl
  go_enter Try.func10, Try.ntmps10
  go_wp2_with (go_at_call 29; refine HT.out.mono ?_; rintro e w1 ⟨rfl, hr⟩; obtain ⟨D', e', hC⟩ := hr.out; obtain ⟨d5, d8, df, hP⟩ := HK.out _ _ e' hC; have HP : Hid (∃ K' D', AC w0 ((w1.setCell ⟨pb, 5, none⟩ (.int .i64 (K.clock + 1))).setCell ⟨pb, 8, none⟩ (.bool true)) pb n K' D' ∧ K'.xb = K.xb ∧ K'.states = K.states ∧ D'.pu = { D.pu with clock := D.clock + 1 }) := hP; clear hr e' hC hP)
  go_end0
  exact ⟨rfl, HP.out⟩

end Go.Proofs.Ytpfcacedpkaihab
