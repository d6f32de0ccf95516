/- The law Again (package almanackeep): its phases behind the script, call by call. -/
import Derived.Test.YtpfcacedpkaihabAbAc
namespace Go.Proofs.Ytpfcacedpkaihab
open Go.RowKit

/-! ### the script -/
def KJn (w0 : Fr) (pb j : Nat) (W : World) : Prop := ∃ K D, KInv w0 W pb j K D ∧ (∀ rd ∈ K.q.rds, rd.told.length ≤ j) ∧ SAll j K.q D.pu
theorem KJn.is {w0 : Fr} {pb j : Nat} {W : World} (h : KJn w0 pb j W) : w0.Is W := by
  obtain ⟨K, D, hI, _⟩ := h
  exact hI.core.below
theorem KJn.ok {w0 : Fr} {pb j : Nat} {W : World} (h : KJn w0 pb j W) : W.cell? ⟨pb, 8, none⟩ = some (.bool true) := by
  obtain ⟨K, D, hI, _⟩ := h
  have := hI.core.keep.c8
  rw [hI.ok] at this
  exact this
theorem KPost.nextN {w0 : Fr} {pb n : Nat} {K : KS} {D : DevS} {W W' : World} (h : KInv w0 W pb n K D) (hT : ∀ rd ∈ K.q.rds, rd.told.length ≤ n) (hg : SAll n K.q D.pu) (hp : KPost w0 pb n K D W') : KJn w0 pb (n + 1) W' := by
  obtain ⟨K', D', hI, hs⟩ := hp
  exact ⟨K', D', hI, hs.told hT, SAll.stays h.ki hg hs⟩
theorem jstepN (w0 : Fr) (w : World) (pb n : Nat) (o : StE) (h : KJn w0 pb n w) (ho : StOk w o) (hn : n ≤ 1048576) :
    Calls Try.prog 6 #[.pointer (some ⟨pb, 0, none⟩), .agg #[.int .i64 o.kd, .int .i64 o.b, .int .i64 o.c, .string o.s, .slice o.ka o.kn o.kc, .slice o.va o.vn o.vc]] w fun e w' => e = .returned (.tuple #[]) ∧ KJn w0 pb (n + 1) w' := by
  obtain ⟨K, D, hI, hT, hg⟩ := h
  exact (kstep w0 w pb n K D o hI ho hT hn).mono fun e w' hp => ⟨hp.1, KPost.nextN hI hT hg hp.2⟩
theorem jendN (w0 : Fr) (w : World) (pb n : Nat) (raw : Int) (h : KJn w0 pb n w) (h1 : -9223372036854775808 ≤ raw) (h2 : raw ≤ 9223372036854775807) :
    Calls Try.prog 5 #[.pointer (some ⟨pb, 0, none⟩), .int .i64 raw] w fun e w' => ∃ v, e = .returned v ∧ KJn w0 pb (n + 1) w' := by
  obtain ⟨K, D, hI, hT, hg⟩ := h
  exact (kend w0 w pb n K D raw hI h1 h2).mono fun e w' hp => by
    obtain ⟨v, e1, hp2⟩ := hp.post
    exact ⟨v, e1, KPost.nextN hI hT hg hp2⟩
theorem SAll.start {Q : KQ} {m : Nat} {r : Int} (h : Q.rds = []) (hr : Q.room = r) : SAll 0 Q (p0 m r) := by
  refine ⟨⟨⟨fun i p hp => by simp [p0] at hp, fun s hs => ?_, fun e he => by simp [p0] at he⟩, fun r j x hx => by rw [h] at hx; simp at hx⟩, fun s hs => ?_, fun e he => by simp [p0] at he, fun i hi => by simp [p0] at hi, Int.le_refl _, Nat.le_refl _⟩
  · have hs' : s ∈ List.replicate m (newP r) := hs
    obtain rfl := List.eq_of_mem_replicate hs'
    exact ⟨fun c hc => (by cases hc), fun c hc => (by cases hc), fun c hc => (by cases hc), fun c hc => (by cases hc), List.nodup_nil, hr.symm⟩
  · have hs' : s ∈ List.replicate m (newP r) := hs
    obtain rfl := List.eq_of_mem_replicate hs'
    intro x hx
    cases hx
theorem jbeganN (w : World) (a b : Int) (ha0 : -9223372036854775808 ≤ a) (ha1 : a ≤ 9223372036854775807) (hb0 : -9223372036854775808 ≤ b) (hb1 : b ≤ 9223372036854775807) :
    Calls Try.prog 4 #[.int .i64 a, .int .i64 b] w fun e w' => ∃ pb, e = .returned (.pointer (some ⟨pb, 0, none⟩)) ∧ KJn (frOf w) pb 0 w' :=
  (kbegan w a b ha0 ha1 hb0 hb1).mono fun e w' hp => by
    obtain ⟨pb, m, r, K, D, e1, hI, e2, e3, _, _, _, _, e4⟩ := hp
    refine ⟨pb, e1, K, D, hI, (by rw [e3]; intro rd hrd; cases hrd), ?_⟩
    rw [e2]
    exact SAll.start e3 e4

/-! ### asking -/
theorem Asked.call {w0 : Fr} {pb n k : Nat} {K : KS} {D : DevS} {W : World} (h : Asked w0 pb n k K D W) (hn : n ≤ 1000) (hk : k < D.nodes.length) :
    Calls Try.prog 7 #[.pointer (some ⟨pb, 0, none⟩), .int .i64 (k : Int)] W fun e w' => e = .returned (.bool true) ∧ Hid (Asked w0 pb n (k + 1) K D w') := by
  obtain ⟨D', hA, hQ, hl, hU⟩ := h
  exact (kask w0 W pb n k K D' hA hn (by omega) hU).mono fun e w' hp => by
    obtain ⟨D2, hA2, hQ2, hl2, hU2⟩ := hp.2.out
    exact ⟨hp.1, D2, hA2, hQ.trans hQ2, by omega, hU2⟩
theorem Asked.setOk {w0 : Fr} {pb n k : Nat} {K : KS} {D : DevS} {W : World} (h : Asked w0 pb n k K D W) : Asked w0 pb n k K D (W.setCell ⟨pb, 8, none⟩ (.bool true)) := by
  obtain ⟨D', hA, h⟩ := h
  exact ⟨D', hA.setOk, h⟩

/-! ### the readers end -/
def End3 (w0 : Fr) (pb n rl i : Nat) (K : KS) (W : World) : Prop := ∃ D, AC w0 W pb n K D ∧ UpTo D.pu D.nodes.length ∧ D.begun ≤ 150 ∧ D.clock ≤ 150 ∧ (∀ j, j < 6 → (D.seats j).reads = true → ∃ r : Nat, (D.seats j).num = (r : Int) ∧ i ≤ r ∧ r < rl) ∧ (∀ a b, a < 6 → b < 6 → (D.seats a).reads = true → (D.seats b).reads = true → (D.seats a).num = (D.seats b).num → a = b)
theorem End3.call {w0 : Fr} {pb n rl i : Nat} {K : KS} {W : World} (h : End3 w0 pb n rl i K W) : Calls Try.prog 8 #[.pointer (some ⟨K.xb, 0, none⟩), .int .i64 (i : Int)] W fun e w' => ∃ v, e = .returned v ∧ Hid (End3 w0 pb n rl (i + 1) K w') := by
  obtain ⟨D, hA, hU, hb, hc, hs, ho⟩ := h
  exact (dend W K.xb D i hA.core.dev).mono fun e w' hp => by
    rcases hp with ⟨ha, e1, hk⟩ | ⟨j, hj, hjr, hjn, e1, hd, hk⟩
    · refine ⟨_, e1, D, hA.kept hk, hU, hb, hc, fun j hj hr => ?_, ho⟩
      obtain ⟨r, h1, h2, h3⟩ := hs j hj hr
      have := ha j hj hr
      exact ⟨r, h1, by omega, h3⟩
    · refine ⟨_, e1, _, hA.seat hd hk (by have := hA.ap.good.bmax; exact this), hU, hb, hc, fun k hk' hr => ?_, fun a b ha hb' hra hrb hab => ?_⟩
      · by_cases ek : k = j
        · subst ek
          have e0 : (D.seatP k ⟨false, 0, 0, 0⟩ D.begun).seats k = ⟨false, 0, 0, 0⟩ := putSeat_self _ _ _
          rw [e0] at hr; cases hr
        · have e0 : (D.seatP j ⟨false, 0, 0, 0⟩ D.begun).seats k = D.seats k := putSeat_ne _ _ _ _ ek
          rw [e0] at hr ⊢
          obtain ⟨r, h1, h2, h3⟩ := hs k hk' hr
          have hne : r ≠ i := by
            rintro rfl
            exact ek (ho k j hk' hj hr hjr (by rw [h1, hjn]))
          exact ⟨r, h1, by omega, h3⟩
      · have key : ∀ c, c < 6 → ((D.seatP j ⟨false, 0, 0, 0⟩ D.begun).seats c).reads = true → c ≠ j ∧ (D.seatP j ⟨false, 0, 0, 0⟩ D.begun).seats c = D.seats c := by
          intro c hc' hr
          by_cases ec : c = j
          · subst ec
            have e0 : (D.seatP c ⟨false, 0, 0, 0⟩ D.begun).seats c = ⟨false, 0, 0, 0⟩ := putSeat_self _ _ _
            rw [e0] at hr; cases hr
          · exact ⟨ec, putSeat_ne _ _ _ _ ec⟩
        have ka := (key a ha hra).2
        have kb := (key b hb' hrb).2
        rw [ka] at hra hab
        rw [kb] at hrb hab
        exact ho a b ha hb' hra hrb hab

/-! ### the puts are lost -/
def Drop4 (w0 : Fr) (pb n i : Nat) (K : KS) (W : World) : Prop := ∃ D, AC w0 W pb n K D ∧ UpTo D.pu D.nodes.length ∧ D.begun ≤ 150 ∧ D.clock ≤ 150 ∧ (∀ j, j < 6 → (D.seats j).reads = false) ∧ D.puts.length + i ≤ 10
theorem UpTo.of {D D' : DevS} (h : UpTo D.pu D.nodes.length) (hs : D'.pu.sites = D.pu.sites) (hp : D'.past = D.past) : UpTo D'.pu D'.nodes.length := by
  intro j s hj hs'
  have hl : D'.nodes.length = D.nodes.length := by
    have h1 : D'.pu.sites.length = D'.nodes.length := by show (D'.nodes.map (·.p)).length = _; rw [List.length_map]
    have h2 : D.pu.sites.length = D.nodes.length := by show (D.nodes.map (·.p)).length = _; rw [List.length_map]
    rw [← h1, hs, h2]
  rw [hs] at hs'
  have := h j s (by omega) hs'
  exact ⟨this.1, this.2.trans (by show D.past.length = D'.past.length; rw [hp])⟩
theorem Drop4.call {w0 : Fr} {pb n i : Nat} {K : KS} {W : World} (h : Drop4 w0 pb n i K W) (hn : n ≤ 1000) (hi : i < 10) : Calls Try.prog 9 #[.pointer (some ⟨K.xb, 0, none⟩), .int .i64 0] W fun e w' => ∃ v, e = .returned v ∧ Hid (Drop4 w0 pb n (i + 1) K w') := by
  obtain ⟨D, hA, hU, hb, hc, hs, hp⟩ := h
  exact (dDrop W K.xb D 0 hA.core.dev (hA.walk hn).fit).mono fun e w' hq => by
    have hno := nodes_drop D.pu 0
    obtain ⟨D', e', hA'⟩ := hA.goes hq.2 hno.1 hno.2.1 (hA.ap.drop 0)
    have hQ := Quiet.nodes e' hno
    have hsi : D'.pu.sites = D.pu.sites := by rw [e']; unfold DP.drop; split <;> rfl
    have hpl : D'.puts.length + (i + 1) ≤ 10 := by
      have e5 : D'.puts = (D.pu.drop 0).2.puts := congrArg DP.puts e'
      rw [e5]
      unfold DP.drop
      split
      · rename_i hc
        have : (D.pu.puts.length : Int) ≤ 0 := by rcases hc with hc | hc <;> omega
        show D.pu.puts.length + (i + 1) ≤ 10
        omega
      · rename_i hc
        have h0 : ¬ (D.pu.puts.length : Int) ≤ 0 := fun hh => hc (.inr hh)
        show (D.pu.puts.eraseIdx (0 : Int).toNat).length + (i + 1) ≤ 10
        have h1 : (0 : Int).toNat < D.pu.puts.length := by omega
        rw [List.length_eraseIdx_of_lt h1]
        have hp' : D.pu.puts.length + i ≤ 10 := hp
        omega
    exact ⟨_, hq.1, D', hA', hU.of hsi hQ.past, by rw [hQ.begun]; exact hb, by rw [hQ.clock]; exact hc, fun j hj => by rw [(hQ.seats j).1]; exact hs j hj, hpl⟩

/-! ### from there -/
def Rest5 (w0 : Fr) (pb n : Nat) (K : KS) (W : World) : Prop := ∃ D, AC w0 W pb n K D ∧ UpTo D.pu D.nodes.length ∧ D.begun ≤ 150 ∧ (∀ j, j < 6 → (D.seats j).reads = false) ∧ D.puts = [] ∧ ∀ i (hi : i < D.past.length), D.past[i].tick < D.clock
theorem Drop4.tick {w0 : Fr} {pb n : Nat} {K : KS} {W : World} (h : Drop4 w0 pb n 10 K W) (hn : n ≤ 1000) : Calls Try.prog 10 #[.pointer (some ⟨pb, 0, none⟩)] W fun e w' => e = .returned (.tuple #[]) ∧ Hid (∃ K', Rest5 w0 pb n K' w' ∧ K'.xb = K.xb) := by
  obtain ⟨D, hA, hU, hb, hc, hs, hp⟩ := h
  exact (atick w0 W pb n K D hA hn (by omega)).mono fun e w' hq => by
    obtain ⟨K', D', hA', hx, _, e'⟩ := hq.2.out
    have ep : D'.past = D.past := congrArg DP.past e'
    have ec : D'.clock = D.clock + 1 := congrArg DP.clock e'
    have es : D'.seats = D.seats := congrArg DP.seats e'
    have eb : D'.begun = D.begun := congrArg DP.begun e'
    have eq : D'.puts = D.puts := congrArg DP.puts e'
    have esi : D'.pu.sites = D.pu.sites := by rw [e']
    refine ⟨hq.1, K', ⟨D', hA', hU.of esi ep, by rw [eb]; exact hb, by rw [es]; exact hs, ?_, fun i hi => ?_⟩, hx⟩
    · rw [eq]; exact List.eq_nil_of_length_eq_zero (by omega)
    · have hi' : i < D.past.length := by rw [← ep]; exact hi
      have e1 : D'.past[i] = D.past[i] := by simp only [ep]
      rw [e1, ec]
      have h1 : D.past[i].tick ≤ D.clock := hA.ap.clk i hi'
      omega
def Sit6 (w0 : Fr) (pb n a : Nat) (K : KS) (W : World) : Prop := ∃ D, AC w0 W pb n K D ∧ UpTo D.pu D.nodes.length ∧ D.begun ≤ 151 ∧ Seats1 D ∧ Sit D a ∧ D.puts = [] ∧ ∀ i (hi : i < D.past.length), D.past[i].tick < D.clock
theorem strict_of {D D' : DevS} (h : ∀ i (hi : i < D.past.length), D.past[i].tick < D.clock) (e1 : D'.past = D.past) (e2 : D'.clock = D.clock) : ∀ i (hi : i < D'.past.length), D'.past[i].tick < D'.clock := by
  intro i hi
  have hi' : i < D.past.length := by rw [← e1]; exact hi
  have e3 : D'.past[i] = D.past[i] := by simp only [e1]
  rw [e3, e2]
  exact h i hi'
theorem Rest5.begin {w0 : Fr} {pb n : Nat} {K : KS} {W : World} (h : Rest5 w0 pb n K W) (hn : n ≤ 1000) : Calls Try.prog 11 #[.pointer (some ⟨K.xb, 0, none⟩), .int .i64 0] W fun e w' => ∃ a : Nat, e = .returned (.tuple #[.int .i64 (a : Int), .int .i64 0]) ∧ Hid (Sit6 w0 pb n a K w') := by
  obtain ⟨D, hA, hU, hb, hs, hp, hc⟩ := h
  exact (abegin hA hn ⟨0, fun i hi hr => by rw [hs i hi] at hr; cases hr⟩ (by omega) hc).mono fun e w' hq => by
    obtain ⟨D', hA', hS, e1, e2, e3, e4, e5, h1⟩ := hq.2.out
    exact ⟨D.begun, hq.1, D', hA', hU.of e1 e3, by omega, h1 hs, hS, by rw [e2]; exact hp, strict_of hc e3 e4⟩
theorem Sit6.bad {w0 : Fr} {pb n a : Nat} {K : KS} {W : World} {q : ByteArray} {er : Int} (h : Sit6 w0 pb n a K W) (hq : q.size ≤ maxLen) (her : er ≠ 0) (hr : Q.readL q.data.toList = (er, [])) :
    Calls Try.prog 12 #[.pointer (some ⟨K.xb, 0, none⟩), .int .i64 (a : Int), .string q] W fun e w' => e = .returned (.tuple #[.int .i32 0, .bool false, .int .i64 er]) ∧ Kept (fun _ => False) W w' := by
  obtain ⟨D, hA, _, _, _, hS, _⟩ := h
  exact aread_bad hA hS hq her hr
def Ready8 (w0 : Fr) (pb n : Nat) (K : KS) (q : ByteArray) (ts : List (Nat × Nat)) (v : Int) (W : World) : Prop := ∃ D, AC w0 W pb n K D ∧ D.begun ≤ 151 ∧ Seats1 D ∧ Ready D.pu q ∧ (∀ i (hi : i < D.past.length), D.past[i].tick < D.clock) ∧ v = evalL (stAt D.past D.past.length) ts
def Hit7 (w0 : Fr) (pb n : Nat) (K : KS) (q : ByteArray) (ts : List (Nat × Nat)) (v : Int) (W : World) : Prop := ∃ D, AC w0 W pb n K D ∧ D.begun ≤ 151 ∧ Seats1 D ∧ Ready D.pu q ∧ (∀ i (hi : i < D.past.length), D.past[i].tick < D.clock) ∧ v = evalL (stAt D.past D.past.length) ts ∧ D.puts = []
def Miss7 (w0 : Fr) (pb n : Nat) (K : KS) (q : ByteArray) (ts : List (Nat × Nat)) (v : Int) (W : World) : Prop := ∃ D, AC w0 W pb n K D ∧ D.begun ≤ 151 ∧ Seats1 D ∧ UpTo D.pu D.nodes.length ∧ (∀ i (hi : i < D.past.length), D.past[i].tick < D.clock) ∧ v = evalL (stAt D.past D.past.length) ts ∧ D.puts = [D.pu.answer q ts D.past.length]
theorem Sit6.read {w0 : Fr} {pb n a : Nat} {K : KS} {W : World} {q : ByteArray} {ts : List (Nat × Nat)} (h : Sit6 w0 pb n a K W) (hn : n ≤ 1000) (hr : Q.readL q.data.toList = (0, ts)) :
    Calls Try.prog 12 #[.pointer (some ⟨K.xb, 0, none⟩), .int .i64 (a : Int), .string q] W fun e w' => ∃ v, (e = .returned (.tuple #[.int .i32 v, .bool true, .int .i64 0]) ∧ Hid (Hit7 w0 pb (n + 1) K q ts v w')) ∨ (e = .returned (.tuple #[.int .i32 v, .bool false, .int .i64 0]) ∧ Hid (Miss7 w0 pb (n + 1) K q ts v w')) := by
  obtain ⟨D, hA, hU, hb, h1, hS, hp, hc⟩ := h
  exact (aread hA hn hS hr).mono fun e w' hq => by
    refine ⟨evalL (stAt D.past D.past.length) ts, ?_⟩
    rcases hq with ⟨e1, D', hA', hQ, e2, hR⟩ | ⟨_, e1, D', hA', hQ, e2, e3⟩
    · exact .inl ⟨e1, D', hA', by rw [hQ.begun]; exact hb, h1.quiet hQ, hR, strict_of hc hQ.past hQ.clock, by rw [hQ.past], by rw [e2]; exact hp⟩
    · refine .inr ⟨e1, D', hA', by rw [hQ.begun]; exact hb, h1.quiet hQ, hU.of e2 hQ.past, strict_of hc hQ.past hQ.clock, by rw [hQ.past], ?_⟩
      rw [e3 hp]
      unfold DP.answer
      have e4 : D'.pu.past = D.pu.past := hQ.past
      rw [e4, hQ.past]
theorem Hit7.puts {w0 : Fr} {pb n : Nat} {K : KS} {q : ByteArray} {ts : List (Nat × Nat)} {v : Int} {W : World} (h : Hit7 w0 pb n K q ts v W) (hn : n ≤ 1000) : Calls Try.prog 14 #[.pointer (some ⟨K.xb, 0, none⟩)] W fun e w' => ∃ ap cp, e = .returned (.slice ap 0 cp) ∧ Hid (Ready8 w0 pb n K q ts v w') := by
  obtain ⟨D, hA, hb, h1, hR, hc, hv, hp⟩ := h
  exact (dputs W K.xb D hA.core.dev (hA.walk hn).fit).mono fun e w' hq => by
    obtain ⟨v', e1, r1, r2, r3⟩ := hq
    obtain ⟨ap, cp, hv', _⟩ := r1.form
    rw [hp] at hv'
    exact ⟨ap, cp, by rw [e1, hv']; rfl, D, hA.kept r2, hb, h1, hR, hc, hv⟩
theorem Miss7.puts {w0 : Fr} {pb n : Nat} {K : KS} {q : ByteArray} {ts : List (Nat × Nat)} {v : Int} {W : World} (h : Miss7 w0 pb n K q ts v W) (hn : n ≤ 1000) : Calls Try.prog 14 #[.pointer (some ⟨K.xb, 0, none⟩)] W fun e w' => ∃ ap cp, e = .returned (.slice ap 1 cp) ∧ Hid (Miss7 w0 pb n K q ts v w') := by
  obtain ⟨D, hA, hb, h1, hU, hc, hv, hp⟩ := h
  exact (dputs W K.xb D hA.core.dev (hA.walk hn).fit).mono fun e w' hq => by
    obtain ⟨v', e1, r1, r2, r3⟩ := hq
    obtain ⟨ap, cp, hv', _⟩ := r1.form
    have hl : D.puts.length = 1 := by rw [hp]; rfl
    rw [hl] at hv'
    exact ⟨ap, cp, by rw [e1, hv'], D, hA.kept r2, hb, h1, hU, hc, hv, hp⟩
theorem Miss7.store {w0 : Fr} {pb n : Nat} {K : KS} {q : ByteArray} {ts : List (Nat × Nat)} {v : Int} {W : World} (h : Miss7 w0 pb n K q ts v W) (hn : n ≤ 1000) (hr : Q.readL q.data.toList = (0, ts)) : Calls Try.prog 15 #[.pointer (some ⟨K.xb, 0, none⟩), .int .i64 0] W fun e w' => e = .returned (.tuple #[.bool true, .int .i64 0]) ∧ Hid (Ready8 w0 pb (n + 1) K q ts v w') := by
  obtain ⟨D, hA, hb, h1, hU, hc, hv, hp⟩ := h
  exact (astore hA hn hU hr hp).mono fun e w' hq => by
    obtain ⟨D', hA', hQ, hR⟩ := hq.2.out
    exact ⟨hq.1, D', hA', by rw [hQ.begun]; exact hb, h1.quiet hQ, hR, strict_of hc hQ.past hQ.clock, by rw [hQ.past]; exact hv⟩
def Ready9 (w0 : Fr) (pb n b : Nat) (K : KS) (q : ByteArray) (ts : List (Nat × Nat)) (v : Int) (W : World) : Prop := ∃ D, AC w0 W pb n K D ∧ Sit D b ∧ Ready D.pu q ∧ v = evalL (stAt D.past D.past.length) ts
theorem Ready8.begin {w0 : Fr} {pb n : Nat} {K : KS} {q : ByteArray} {ts : List (Nat × Nat)} {v : Int} {W : World} (h : Ready8 w0 pb n K q ts v W) (hn : n ≤ 1000) : Calls Try.prog 11 #[.pointer (some ⟨K.xb, 0, none⟩), .int .i64 0] W fun e w' => ∃ b : Nat, e = .returned (.tuple #[.int .i64 (b : Int), .int .i64 0]) ∧ Hid (Ready9 w0 pb n b K q ts v w') := by
  obtain ⟨D, hA, hb, h1, hR, hc, hv⟩ := h
  exact (abegin hA hn h1 (by omega) hc).mono fun e w' hq => by
    obtain ⟨D', hA', hS, e1, e2, e3, e4, e5, _⟩ := hq.2.out
    refine ⟨D.begun, hq.1, D', hA', hS, ?_, by rw [e3]; exact hv⟩
    obtain ⟨s, i, x, r1, r2, r3⟩ := hR
    have hnn : D'.pu.nodeN q = D.pu.nodeN q := by unfold DP.nodeN; rw [e1]
    have hpl : D'.pu.past.length = D.pu.past.length := by show D'.past.length = D.past.length; rw [e3]
    exact ⟨s, i, x, by rw [hnn, e1]; exact r1, r2, by rw [hpl]; exact r3⟩
def Fin10 (w0 : Fr) (pb : Nat) (K : KS) (ts : List (Nat × Nat)) (v : Int) (W : World) : Prop := ∃ l, Keep W pb K ∧ w0.Is W ∧ K.states = (fun _ => 0) :: l.map PastE.st ∧ l.length ≤ 700 ∧ v = evalL (stAt l l.length) ts
theorem Ready9.read {w0 : Fr} {pb n b : Nat} {K : KS} {q : ByteArray} {ts : List (Nat × Nat)} {v : Int} {W : World} (h : Ready9 w0 pb n b K q ts v W) (hn : n ≤ 1000) (hr : Q.readL q.data.toList = (0, ts)) :
    Calls Try.prog 12 #[.pointer (some ⟨K.xb, 0, none⟩), .int .i64 (b : Int), .string q] W fun e w' => e = .returned (.tuple #[.int .i32 v, .bool true, .int .i64 0]) ∧ Hid (Fin10 w0 pb K ts v w') := by
  obtain ⟨D, hA, hS, hR, hv⟩ := h
  exact (aread hA hn hS hr).mono fun e w' hq => by
    rcases hq with ⟨e1, D', hA', hQ, _⟩ | ⟨hno, _⟩
    · exact ⟨by rw [hv]; exact e1, D'.past, hA'.core.keep, hA'.core.below, hA'.st, hA'.ap.good.pmax, by rw [hQ.past]; exact hv⟩
    · exact absurd hR hno

end Go.Proofs.Ytpfcacedpkaihab
