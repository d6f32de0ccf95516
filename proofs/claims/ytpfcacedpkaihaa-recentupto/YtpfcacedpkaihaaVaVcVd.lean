import Derived.Test.YtpfcacedpkaihaaKn
import Derived.Test.YtpfcacedpkaihaaKo
import Derived.Test.YtpfcacedpkaihaaOt
/- What holds between two steps of a keeping law's script. -/
namespace Go.Proofs.Ytpfcacedpkaihaa
open Go.RowKit

/-- a fact on what a law keeps and on the program's world that every step keeps. -/
def Stays (G : KQ → DP → Prop) : Prop := ∀ (Q Q' : KQ) (P P' : DP) (n : Nat), KI Q P n → G Q P → KStep Q P Q' P' → G Q' P'
def KJ (G : KQ → DP → Prop) (w0 : Fr) (pb j : Nat) (W : World) : Prop := ∃ K D, KInv w0 W pb j K D ∧ (∀ rd ∈ K.q.rds, rd.told.length ≤ j) ∧ G K.q D.pu

theorem KPost.next {G : KQ → DP → Prop} (hG : Stays G) {w0 : Fr} {pb n : Nat} {K : KS} {D : DevS} {W W' : World} (h : KInv w0 W pb n K D) (hT : ∀ rd ∈ K.q.rds, rd.told.length ≤ n) (hg : G K.q D.pu) (hp : KPost w0 pb n K D W') : KJ G w0 pb (n + 1) W' := by
  obtain ⟨K', D', hI, hs⟩ := hp
  exact ⟨K', D', hI, hs.told hT, hG _ _ _ _ n h.ki hg hs⟩
theorem KJ.is {G : KQ → DP → Prop} {w0 : Fr} {pb j : Nat} {W : World} (h : KJ G w0 pb j W) : w0.Is W := by
  obtain ⟨K, D, hI, _⟩ := h
  exact hI.core.below
theorem KJ.ok {G : KQ → DP → Prop} {w0 : Fr} {pb j : Nat} {W : World} (h : KJ G w0 pb j W) : W.cell? ⟨pb, 8, none⟩ = some (.bool true) := by
  obtain ⟨K, D, hI, _⟩ := h
  have := hI.core.keep.c8
  rw [hI.ok] at this
  exact this
theorem KEndPost.post {w0 : Fr} {pb n : Nat} {K : KS} {D : DevS} {raw : Int} {e : Ending} {w' : World} (h : KEndPost w0 pb n K D raw e w') : ∃ v, e = .returned v ∧ KPost w0 pb n K D w' := by
  rcases h with ⟨_, e1, K', D', hI, e2, e3⟩ | ⟨r, j, rd, K', D', h1, h2, h3, h4, h5, h6, e1, hI, e2, e3, _⟩
  · exact ⟨_, e1, K', D', hI, by rw [e2, e3]; exact .same _ _⟩
  · refine ⟨_, e1, K', D', hI, ?_⟩
    rw [e2, e3]
    have hq : K.q.rds[r]? = some rd.p := by show (K.rds.map KrE.p)[r]? = _; rw [List.getElem?_map, h2]; rfl
    exact .stop K.q D.pu r j rd.p hq h3 h4 h5 h6
theorem cell_is {w W : World} (h : (frOf w).Is W) {a : Addr} {v : Value} (hc : w.cell? a = some v) : W.cell? a = some v :=
  (World.cell?_of_block (h.block a.block (World.block_lt_of_cell? w _ hc))).trans hc
theorem StOk.is {w W : World} {o : StE} (h : StOk w o) (hi : (frOf w).Is W) : StOk W o :=
  ⟨fun j hj => by obtain ⟨bl, off, x, e, c, r⟩ := h.keys j hj; exact ⟨bl, off, x, e, cell_is hi c, r⟩, fun j hj => by obtain ⟨bl, off, x, e, c⟩ := h.vals j hj; exact ⟨bl, off, x, e, cell_is hi c⟩, h.klen, h.vlen, h.slen, h.b0, h.b1, h.c0, h.c1⟩
theorem Sk.at {w W : World} {ao : Option Addr} {n j : Nat} {os : List StE} (h : Sk w ao n os) (hi : (frOf w).Is W) (hj : j < os.length) : ∃ bl off, ao = some ⟨bl, off, none⟩ ∧ W.cell? ⟨bl, off + j * 6, none⟩ = some (.int .i64 os[j].kd) ∧ W.cell? ⟨bl, off + j * 6 + 1, none⟩ = some (.int .i64 os[j].b) ∧ W.cell? ⟨bl, off + j * 6 + 2, none⟩ = some (.int .i64 os[j].c) ∧ W.cell? ⟨bl, off + j * 6 + 3, none⟩ = some (.string os[j].s) ∧ W.cell? ⟨bl, off + j * 6 + 4, none⟩ = some (.slice os[j].ka os[j].kn os[j].kc) ∧ W.cell? ⟨bl, off + j * 6 + 5, none⟩ = some (.slice os[j].va os[j].vn os[j].vc) := by
  obtain ⟨bl, off, e, hb, hc⟩ := h.cell j hj
  have hh : ∀ f, f < 6 → ∀ u, (stepC os[j])[f]? = some u → W.cell? ⟨bl, off + j * 6 + f, none⟩ = some u := fun f hf u hu => cell_is hi (by rw [hc f hf]; exact hu)
  exact ⟨bl, off, e, hh 0 (by omega) _ rfl, hh 1 (by omega) _ rfl, hh 2 (by omega) _ rfl, hh 3 (by omega) _ rfl, hh 4 (by omega) _ rfl, hh 5 (by omega) _ rfl⟩

theorem jstep {G : KQ → DP → Prop} (hG : Stays G) (w0 : Fr) (w : World) (pb n : Nat) (o : StE) (h : KJ G w0 pb n w) (ho : StOk w o) (hn : n ≤ 1048576) :
    Calls Try.prog 16 #[.pointer (some ⟨pb, 0, none⟩), .agg #[.int .i64 o.kd, .int .i64 o.b, .int .i64 o.c, .string o.s, .slice o.ka o.kn o.kc, .slice o.va o.vn o.vc]] w fun e w' => e = .returned (.tuple #[]) ∧ KJ G w0 pb (n + 1) w' := by
  obtain ⟨K, D, hI, hT, hg⟩ := h
  exact (kstep w0 w pb n K D o hI ho hT hn).mono fun e w' hp => ⟨hp.1, KPost.next hG hI hT hg hp.2⟩
theorem jend {G : KQ → DP → Prop} (hG : Stays G) (w0 : Fr) (w : World) (pb n : Nat) (raw : Int) (h : KJ G w0 pb n w) (h1 : -9223372036854775808 ≤ raw) (h2 : raw ≤ 9223372036854775807) :
    Calls Try.prog 17 #[.pointer (some ⟨pb, 0, none⟩), .int .i64 raw] w fun e w' => ∃ v, e = .returned v ∧ KJ G w0 pb (n + 1) w' := by
  obtain ⟨K, D, hI, hT, hg⟩ := h
  exact (kend w0 w pb n K D raw hI h1 h2).mono fun e w' hp => by
    obtain ⟨v, e1, hp2⟩ := hp.post
    exact ⟨v, e1, KPost.next hG hI hT hg hp2⟩
theorem jbegan {G : KQ → DP → Prop} (w : World) (a b : Int) (ha0 : -9223372036854775808 ≤ a) (ha1 : a ≤ 9223372036854775807) (hb0 : -9223372036854775808 ≤ b) (hb1 : b ≤ 9223372036854775807) (hG : ∀ Q m r, Q.rds = [] → Q.room = r → KI Q (p0 m r) 0 → G Q (p0 m r)) :
    Calls Try.prog 15 #[.int .i64 a, .int .i64 b] w fun e w' => ∃ pb, e = .returned (.pointer (some ⟨pb, 0, none⟩)) ∧ KJ G (frOf w) pb 0 w' :=
  (kbegan w a b ha0 ha1 hb0 hb1).mono fun e w' hp => by
    obtain ⟨pb, m, r, K, D, e1, hI, e2, e3, _, _, _, _, e4⟩ := hp
    refine ⟨pb, e1, K, D, hI, (by rw [e3]; intro rd hrd; cases hrd), ?_⟩
    have hk := hI.ki
    rw [e2] at hk ⊢
    exact hG _ _ _ e3 e4 hk
def KLawPost (w : World) (e : Ending) (w' : World) : Prop := e = .returned (.bool true) ∧ Below w.heap.size w w'
theorem Fr.Is.below {w W : World} (h : (frOf w).Is W) : Below w.heap.size w W := ⟨h.os, h.tape, h.output, h.size, h.block⟩

end Go.Proofs.Ytpfcacedpkaihaa

/- Frames of a keeping law; what stays of a reader's span (mathematics alone). -/
namespace Go.Proofs.Ytpfcacedpkaihaa
open Go.RowKit

/-- the frame of all that is neither the law's nor the program's. -/
def hereF (W : World) (pb : Nat) (K : KS) (D : DevS) : Fr := ⟨W, fun i => i < W.heap.size ∧ ¬ K.fp pb i ∧ ¬ D.fp K.xb i, fun _ h => h.1⟩
theorem KInv.here {w0 : Fr} {W : World} {pb n : Nat} {K : KS} {D : DevS} (h : KInv w0 W pb n K D) : KInv (hereF W pb K D) W pb n K D :=
  ⟨⟨⟨rfl, rfl, rfl, Nat.le_refl _, fun _ _ => rfl⟩, h.core.keep, h.core.dev, h.core.sep, fun _ hk hx => hx.2.1 hk, fun _ hd hx => hx.2.2 hd⟩, h.ki, h.open', h.ok⟩
theorem hereKept {W W' : World} {pb n : Nat} {K K' : KS} {D D' : DevS} (h : KInv (hereF W pb K D) W' pb n K' D') : Kept (fun i => K.fp pb i ∨ D.fp K.xb i) W W' :=
  ⟨h.core.below.os, h.core.below.tape, h.core.below.output, h.core.below.size, fun i hi hf => h.core.below.block i ⟨hi, fun hk => hf (.inl hk), fun hd => hf (.inr hd)⟩⟩
theorem KInv.back {w0 : Fr} {W W' : World} {pb n n' : Nat} {K K' : KS} {D D' : DevS} (h : KInv w0 W pb n K D) (h' : KInv (hereF W pb K D) W' pb n' K' D') : KInv w0 W' pb n' K' D' := by
  have hX : ∀ k, w0.X k → (hereF W pb K D).X k := fun k hk => ⟨Nat.lt_of_lt_of_le (w0.lt k hk) h.core.below.size, fun hh => h.core.newK k hh hk, fun hh => h.core.newD k hh hk⟩
  exact ⟨⟨h.core.below.next (hereKept h') (fun i hi => hi.elim (h.core.newK i) (h.core.newD i)), h'.core.keep, h'.core.dev, h'.core.sep, fun k hk hx => h'.core.newK k hk (hX k hx), fun k hk hx => h'.core.newD k hk (hX k hx)⟩, h'.ki, h'.open', h'.ok⟩

/-- steps that turn nodes and puts alone. -/
def DP.NodesOnly (P P' : DP) : Prop := P'.past = P.past ∧ P'.clock = P.clock ∧ P'.seats = P.seats ∧ P'.begun = P.begun
theorem nodes_store (P : DP) (i : Int) : P.NodesOnly (P.store i).2.2 := by
  unfold DP.store
  split
  · exact ⟨rfl, rfl, rfl, rfl⟩
  · split
    · exact ⟨rfl, rfl, rfl, rfl⟩
    · split <;> exact ⟨rfl, rfl, rfl, rfl⟩
theorem nodes_drop (P : DP) (i : Int) : P.NodesOnly (P.drop i).2 := by
  unfold DP.drop; split <;> exact ⟨rfl, rfl, rfl, rfl⟩
theorem nodes_evict (P : DP) (k i : Int) : P.NodesOnly (P.evict k i).2 := by
  unfold DP.evict
  split
  · exact ⟨rfl, rfl, rfl, rfl⟩
  · split <;> exact ⟨rfl, rfl, rfl, rfl⟩
theorem nodes_lose (P : DP) (k i : Int) : P.NodesOnly (P.lose k i).2 := by
  unfold DP.lose
  split
  · exact ⟨rfl, rfl, rfl, rfl⟩
  · split <;> exact ⟨rfl, rfl, rfl, rfl⟩
theorem nodes_copy (P : DP) (k i : Int) : P.NodesOnly (P.copy k i).2 := by
  unfold DP.copy
  split
  · exact ⟨rfl, rfl, rfl, rfl⟩
  · split
    · exact ⟨rfl, rfl, rfl, rfl⟩
    · split
      · exact ⟨rfl, rfl, rfl, rfl⟩
      · split <;> exact ⟨rfl, rfl, rfl, rfl⟩
theorem nodes_deliver (P : DP) (k i : Int) : P.NodesOnly (P.deliver k i).2 := by
  unfold DP.deliver
  split
  · exact ⟨rfl, rfl, rfl, rfl⟩
  · split
    · exact ⟨rfl, rfl, rfl, rfl⟩
    · split <;> exact ⟨rfl, rfl, rfl, rfl⟩
theorem nodes_ask (P : DP) (k : Int) : P.NodesOnly (P.ask k).2.2 := by
  unfold DP.ask; split <;> exact ⟨rfl, rfl, rfl, rfl⟩
theorem nodes_restart (P : DP) (k : Int) : P.NodesOnly (P.restart k).2 := by
  unfold DP.restart; split <;> exact ⟨rfl, rfl, rfl, rfl⟩

/-- the seat of a reader: its span was newest not too long ago; it ends no later than the newest stamp when the reader began. -/
structure SeatR (P : DP) (rd : KR) (nw : Nat) (s : SeatE) : Prop where
  le : s.lo ≤ s.hi
  top : s.hi ≤ nw
  bare : rd.told = [] → s.hi = nw
  new : ∀ i (h : i < P.past.length), s.lo ≤ i → rd.tick - rd.limit ≤ P.past[i].tick
/-- what Recent leans on. -/
structure GR (Q : KQ) (P : DP) (Nw : List Nat) : Prop where
  mono : ∀ i j (hi : i < P.past.length) (hj : j < P.past.length), i ≤ j → P.past[i].tick ≤ P.past[j].tick
  clk : ∀ i (hi : i < P.past.length), P.past[i].tick ≤ P.clock
  len : Nw.length = Q.rds.length
  rd : ∀ (r : Nat) (x : KR), Q.rds[r]? = some x → x.tick ≤ P.clock ∧ 0 ≤ x.limit ∧ x.limit ≤ 100000 ∧ 0 ≤ x.tick
  seat : ∀ (r j : Nat) (x : KR) (nw : Nat), Q.rds[r]? = some x → Nw[r]? = some nw → j < 6 → (P.seats j).reads = true → (P.seats j).num = (r : Int) → SeatR P x nw (P.seats j)

theorem GR.nodes {Q : KQ} {P P' : DP} {Nw : List Nat} (h : GR Q P Nw) (e : P.NodesOnly P') : GR Q P' Nw := by
  obtain ⟨c, p, b, s, q, t⟩ := P
  obtain ⟨c', p', b', s', q', t'⟩ := P'
  obtain ⟨e1, e2, e3, e4⟩ := e
  dsimp only at e1 e2 e3 e4
  subst e1; subst e2; subst e3; subst e4
  exact ⟨h.mono, h.clk, h.len, h.rd, fun r j x nw h1 h2 h3 h4 h5 => by
    have := h.seat r j x nw h1 h2 h3 h4 h5
    exact ⟨this.le, this.top, this.bare, this.new⟩⟩

theorem get_snoc {α : Type} {l : List α} {x : α} {i : Nat} (h : i < (l ++ [x]).length) : (∃ h' : i < l.length, (l ++ [x])[i] = l[i]) ∨ (i = l.length ∧ (l ++ [x])[i] = x) := by
  by_cases h' : i < l.length
  · exact .inl ⟨h', List.getElem_append_left h'⟩
  · have : i = l.length := by simp at h; omega
    subst this
    exact .inr ⟨rfl, by simp⟩

theorem GR.step {Q Q' : KQ} {P P' : DP} {n : Nat} {Nw : List Nat} (hk : KI Q P n) (h : GR Q P Nw) (hs : KStep Q P Q' P') :
    (Q'.rds.length = Q.rds.length ∧ GR Q' P' Nw) ∨ (Q'.rds.length = Q.rds.length + 1 ∧ P'.past.length = P.past.length ∧ GR Q' P' (Nw ++ [P.past.length])) := by
  have set_rd : ∀ (r : Nat) (a b : KR), Q.rds[r]? = some a → b.tick = a.tick → b.limit = a.limit → ∀ (k : Nat) (x : KR), (Q.rds.set r b)[k]? = some x → x.tick ≤ P.clock ∧ 0 ≤ x.limit ∧ x.limit ≤ 100000 ∧ 0 ≤ x.tick := by
    intro r a b ha e1 e2 k x hx
    by_cases e : r = k
    · subst e
      rw [List.getElem?_set_self (List.getElem?_eq_some_iff.mp ha).1] at hx
      injection hx with hx
      subst hx
      have := h.rd r a ha
      rw [e1, e2]; exact this
    · rw [List.getElem?_set_ne e] at hx
      exact h.rd k x hx
  have cut_seat : ∀ (r j : Nat) (a b : KR) (f g : Nat), Q.rds[r]? = some a → b.tick = a.tick → b.limit = a.limit → b.told ≠ [] → j < 6 → (P.seats j).reads = true → (P.seats j).num = (r : Int) → max (P.seats j).lo f ≤ min (P.seats j).hi g →
      ∀ (k i : Nat) (x : KR) (nw : Nat), (Q.rds.set r b)[k]? = some x → Nw[k]? = some nw → i < 6 → (putSeat P.seats j ((P.seats j).cut f g) i).reads = true → (putSeat P.seats j ((P.seats j).cut f g) i).num = (k : Int) → SeatR P x nw (putSeat P.seats j ((P.seats j).cut f g) i) := by
    intro r j a b f g ha e1 e2 e3 hj hjr hjn hm k i x nw hx hnw hi hir hin
    by_cases eij : i = j
    · subst eij
      rw [putSeat_self] at hir hin ⊢
      have hin' : (P.seats i).num = (k : Int) := hin
      have hkr : k = r := by omega
      subst hkr
      rw [List.getElem?_set_self (List.getElem?_eq_some_iff.mp ha).1] at hx
      injection hx with hx
      subst hx
      have o := h.seat k i a nw ha hnw hi hjr hjn
      refine ⟨hm, ?_, fun hh => absurd hh e3, fun q hq hlo => ?_⟩
      · have := o.top
        show min (P.seats i).hi g ≤ nw
        omega
      · rw [e1, e2]
        refine o.new q hq ?_
        have : max (P.seats i).lo f ≤ q := hlo
        omega
    · rw [putSeat_ne _ _ _ _ eij] at hir hin ⊢
      have hne : r ≠ k := by
        rintro rfl
        obtain ⟨l, hsim, _⟩ := hk.rdrs
        exact eij (hsim.one i j hi hj hir hjr (by rw [hin, hjn]))
      rw [List.getElem?_set_ne hne] at hx
      exact h.seat k i x nw hx hnw hi hir hin
  cases hs with
  | same => exact .inl ⟨rfl, h⟩
  | commit ws h1 h2 =>
    refine .inl ⟨rfl, ?_⟩
    have hq : (P.nextP ws).tick = P.clock := writesP_tick _ ws
    refine ⟨fun i j hi hj hij => ?_, fun i hi => ?_, h.len, h.rd, fun r j x nw hx hnw hj hjr hjn => ?_⟩
    · rcases get_snoc hi with ⟨hi', ei⟩ | ⟨ei', ei⟩
      · rcases get_snoc hj with ⟨hj', ej⟩ | ⟨_, ej⟩
        · show (P.past ++ [_])[i].tick ≤ (P.past ++ [_])[j].tick
          rw [ei, ej]; exact h.mono i j hi' hj' hij
        · show (P.past ++ [_])[i].tick ≤ (P.past ++ [_])[j].tick
          rw [ei, ej, hq]; exact h.clk i hi'
      · rcases get_snoc hj with ⟨hj', ej⟩ | ⟨_, ej⟩
        · omega
        · show (P.past ++ [_])[i].tick ≤ (P.past ++ [_])[j].tick
          rw [ei, ej]; exact Int.le_refl _
    · show (P.past ++ [_])[i].tick ≤ P.clock
      rcases get_snoc hi with ⟨hi', ei⟩ | ⟨_, ei⟩
      · rw [ei]; exact h.clk i hi'
      · rw [ei, hq]; exact Int.le_refl _
    · have o := h.seat r j x nw hx hnw hj hjr hjn
      have ox := h.rd r x hx
      refine ⟨o.le, o.top, o.bare, fun i hi hlo => ?_⟩
      show _ ≤ (P.past ++ [_])[i].tick
      rcases get_snoc hi with ⟨hi', ei⟩ | ⟨_, ei⟩
      · rw [ei]; exact o.new i hi' hlo
      · rw [ei, hq]; omega
  | tick hc =>
    refine .inl ⟨rfl, h.mono, fun i hi => ?_, h.len, fun r x hx => ?_, fun r j x nw hx hnw hj hjr hjn => ?_⟩
    · have := h.clk i hi
      show P.past[i].tick ≤ P.clock + 1
      omega
    · have := h.rd r x hx
      show x.tick ≤ P.clock + 1 ∧ _
      omega
    · have o := h.seat r j x nw hx hnw hj hjr hjn
      exact ⟨o.le, o.top, o.bare, o.new⟩
  | start limit lo j h1 h2 h3 h4 h5 h6 =>
    have hcl := hk.clock
    have hc0 := hk.good.clk0
    have hlen := hk.count.2
    refine .inr ⟨by simp, rfl, h.mono, h.clk, by simp [h.len], fun r x hx => ?_, fun r i x nw hx hnw hi hir hin => ?_⟩
    · by_cases e : r < Q.rds.length
      · rw [List.getElem?_append_left e] at hx
        exact h.rd r x hx
      · have e2 : r = Q.rds.length := by
          have := (List.getElem?_eq_some_iff.mp hx).1
          simp at this; omega
        subst e2
        simp at hx
        subst hx
        exact ⟨by rw [hcl]; exact Int.le_refl _, h1, h2, by rw [hcl]; exact hc0⟩
    · obtain ⟨l, hsim, hl⟩ := hk.rdrs
      have hll : l.length = P.begun := hsim.begun.symm
      by_cases eij : i = j
      · subst eij
        have e0 : putSeat P.seats i ⟨true, P.begun, lo, P.past.length⟩ i = ⟨true, P.begun, lo, P.past.length⟩ := putSeat_self _ _ _
        have hin' : ((P.begun : Nat) : Int) = (r : Int) := by
          have : (putSeat P.seats i ⟨true, P.begun, lo, P.past.length⟩ i).num = (r : Int) := hin
          rw [e0] at this
          exact this
        have hr : r = Q.rds.length := by omega
        subst hr
        have ex : x = ⟨Q.clock, limit, [], false⟩ := by simp at hx; exact hx.symm
        have en : nw = P.past.length := by rw [← h.len] at hnw; simp at hnw; exact hnw.symm
        subst ex; subst en
        show SeatR _ _ _ (putSeat P.seats i ⟨true, P.begun, lo, P.past.length⟩ i)
        rw [e0]
        refine ⟨h3.1, Nat.le_refl _, fun _ => rfl, fun q hq hlo => ?_⟩
        have hlo' : lo ≤ q := hlo
        have hq' : q < P.past.length := hq
        have t1 := h3.2.2 (Nat.lt_of_le_of_lt hlo' hq')
        have t2 := h.mono lo q (Nat.lt_of_le_of_lt hlo' hq') hq' hlo'
        show Q.clock - limit ≤ P.past[q].tick
        omega
      · have e0 : putSeat P.seats j ⟨true, P.begun, lo, P.past.length⟩ i = P.seats i := putSeat_ne _ _ _ _ eij
        have hir' : (P.seats i).reads = true := by rw [← e0]; exact hir
        have hin' : (P.seats i).num = (r : Int) := by rw [← e0]; exact hin
        obtain ⟨k, y, k1, k2, _⟩ := hsim.seat i hi hir'
        have hkl := (List.getElem?_eq_some_iff.mp k2).1
        have hkr : k = r := by omega
        subst hkr
        have hrl : k < Q.rds.length := by omega
        rw [List.getElem?_append_left hrl] at hx
        rw [List.getElem?_append_left (by rw [h.len]; exact hrl)] at hnw
        show SeatR _ _ _ (putSeat P.seats j ⟨true, P.begun, lo, P.past.length⟩ i)
        rw [e0]
        have o := h.seat k i x nw hx hnw hi hir' hin'
        exact ⟨o.le, o.top, o.bare, o.new⟩
  | hit r j i q ts s x rd h1 h2 h3 h4 h5 h6 h7 h8 h9 =>
    have hm : meetsE s.horizon q (P.seats j).lo (P.seats j).hi x.e := ans_meets s q (P.seats j).lo (P.seats j).hi s.ents.length i x h8 h9
    refine .inl ⟨by simp, h.mono, h.clk, by simp [h.len], set_rd r rd _ h1 rfl rfl, fun k i' x' nw hx hnw hi hir hin => ?_⟩
    have o := cut_seat r j rd { rd with told := rd.told ++ [(q, x.e.val)] } x.e.fr (lastE x.e s.horizon) h1 rfl rfl (by simp) h3 h4 h5 hm.2 k i' x' nw hx hnw hi hir hin
    exact ⟨o.le, o.top, o.bare, o.new⟩
  | miss r j q ts s rd h1 h2 h3 h4 h5 h6 h7 h8 =>
    have hfr := fromN_le (zeroP :: P.past) (keysL ts) (P.seats j).hi
    obtain ⟨l, hsim, hl⟩ := hk.rdrs
    obtain ⟨k0, y, e1, e2, e3, e4, e5⟩ := hsim.seat j h3 h4
    have hsp := hsim.span y (List.mem_of_getElem? e2)
    refine .inl ⟨by simp, h.mono, h.clk, by simp [h.len], set_rd r rd _ h1 rfl rfl, fun k i' x' nw hx hnw hi hir hin => ?_⟩
    have o := cut_seat r j rd { rd with told := rd.told ++ [(q, (P.answer q ts (P.seats j).hi).val)] } (P.answer q ts (P.seats j).hi).fr (P.seats j).hi h1 rfl rfl (by simp) h3 h4 h5 (by rw [e4, e5] at hsp; show max (P.seats j).lo (fromN _ _ _) ≤ min (P.seats j).hi (P.seats j).hi; omega) k i' x' nw hx hnw hi hir hin
    exact ⟨o.le, o.top, o.bare, o.new⟩
  | stop r j rd h1 h2 h3 h4 h5 =>
    refine .inl ⟨by simp, h.mono, h.clk, by simp [h.len], set_rd r rd _ h1 rfl rfl, fun k i x' nw hx hnw hi hir hin => ?_⟩
    by_cases eij : i = j
    · subst eij
      have e0 : putSeat P.seats i ⟨false, 0, 0, 0⟩ i = ⟨false, 0, 0, 0⟩ := putSeat_self _ _ _
      have hir' : (putSeat P.seats i ⟨false, 0, 0, 0⟩ i).reads = true := hir
      rw [e0] at hir'
      cases hir'
    · have e0 : putSeat P.seats j ⟨false, 0, 0, 0⟩ i = P.seats i := putSeat_ne _ _ _ _ eij
      have hir' : (P.seats i).reads = true := by rw [← e0]; exact hir
      have hin' : (P.seats i).num = (k : Int) := by rw [← e0]; exact hin
      have hne : r ≠ k := by
        rintro rfl
        obtain ⟨l, hsim, _⟩ := hk.rdrs
        exact eij (hsim.one i j hi h3 hir' h4 (by rw [hin', h5]))
      rw [List.getElem?_set_ne hne] at hx
      show SeatR _ _ _ (putSeat P.seats j ⟨false, 0, 0, 0⟩ i)
      rw [e0]
      have o := h.seat k i x' nw hx hnw hi hir' hin'
      exact ⟨o.le, o.top, o.bare, o.new⟩
  | store i => exact .inl ⟨rfl, h.nodes (nodes_store P i)⟩
  | drop i => exact .inl ⟨rfl, h.nodes (nodes_drop P i)⟩
  | evict k i => exact .inl ⟨rfl, h.nodes (nodes_evict P k i)⟩
  | deliver k i => exact .inl ⟨rfl, h.nodes (nodes_deliver P k i)⟩
  | lose k i => exact .inl ⟨rfl, h.nodes (nodes_lose P k i)⟩
  | copy k i => exact .inl ⟨rfl, h.nodes (nodes_copy P k i)⟩
  | ask k => exact .inl ⟨rfl, h.nodes (nodes_ask P k)⟩
  | restart k => exact .inl ⟨rfl, h.nodes (nodes_restart P k)⟩

theorem GR.start {Q : KQ} {m : Nat} {r : Int} (h : Q.rds = []) : GR Q (p0 m r) [] :=
  ⟨fun i _ hi => by simp [p0] at hi, fun i hi => by simp [p0] at hi, by rw [h]; rfl, fun r x hx => by rw [h] at hx; simp at hx, fun r j x nw hx => by rw [h] at hx; simp at hx⟩

end Go.Proofs.Ytpfcacedpkaihaa

/- The law Recent (package almanackeep): fresh, what holds between two steps. -/
namespace Go.Proofs.Ytpfcacedpkaihaa
open Go.RowKit

set_option maxRecDepth 100000 in
set_option maxHeartbeats 1000000 in
theorem kfresh (w : World) (pb m lo : Nat) (K : KS) (tick : Int) (h : Keep w pb K) (ht : K.ticks.length = m + 1) (hs : K.states.length = m + 1) (hlo : lo ≤ m) (hm : m ≤ 700) (hf : ∀ (hlt : lo + 1 < K.ticks.length), tick ≤ K.ticks[lo + 1]) :
    Calls Try.prog 22 #[.pointer (some ⟨pb, 0, none⟩), .int .i64 (lo : Int), .int .i64 tick] w fun e w' => e = .returned (.bool true) ∧ w = w' := by
  obtain ⟨sa, cs, hvs, _⟩ := h.states.form
  rw [hs] at hvs
  have c3 := h.c3
  rw [hvs] at c3
  have HNW : Hid (Calls Try.prog 20 #[.pointer (some ⟨pb, 0, none⟩)] w fun e w' => e = .returned (.int .i64 (m : Int)) ∧ w = w') := knewest_c w pb sa m cs c3 (by omega)
  obtain ⟨g, ct, hvt, hog, _⟩ := h.ticks.block (by omega)
  rw [ht] at hvt
  have c4 := h.c4
  rw [hvt] at c4
  by_cases e : lo = m
  · subst e
    clear h hvs hvt hog hf
    go_enter Try.func22, Try.ntmps22
    go_wp2_with (go_at_call 20; refine HNW.out.mono ?_; rintro e w2 ⟨rfl, rfl⟩)
    go_ret
    exact ⟨rfl, rfl⟩
  · have hlt : lo + 1 < K.ticks.length := by omega
    have ct1 : w.cell? ⟨g, lo + 1, none⟩ = some (.int .i64 K.ticks[lo + 1]) := by
      refine h.ticks.cell hog (lo + 1) _ ?_
      have e1 := flat_at tickC 1 (fun _ => rfl) K.ticks (lo + 1) hlt 0 (by omega)
      have e2 : (lo + 1) * 1 + 0 = lo + 1 := by omega
      simp only [e2] at e1
      rw [e1]; rfl
    have hft := hf hlt
    generalize K.ticks[lo + 1] = tk at ct1 hft
    have hne : ((lo : Int) == (m : Int)) = false := beq_eq_false_iff_ne.mpr (by omega)
    have h1 : (0 : Int) ≤ (lo : Int) + 1 := by omega
    have h2 : (lo : Int) + 1 < (m : Int) + 1 := by omega
    have h3 : ¬ tk < tick := by omega
    clear h hvs hvt hog hf e hlt
    go_enter Try.func22, Try.ntmps22
    go_wp2_with (go_at_call 20; refine HNW.out.mono ?_; rintro e w2 ⟨rfl, rfl⟩)
    go_ret
    exact ⟨by simp, rfl⟩

def nwC (k : Nat) : List Value := [.int .i64 (k : Int)]
theorem nw_eq (l : List Nat) : l.flatMap nwC = (l.map (fun k : Nat => (k : Int))).flatMap tickC := by
  induction l with
  | nil => rfl
  | cons x r ih => simp [nwC, tickC] at ih ⊢; exact ih
/-- what holds between two steps of Recent. -/
structure RI (w : World) (pb j : Nat) (W : World) (v : Value) (Nw : List Nat) (K : KS) (D : DevS) : Prop where
  inv : KInv (frOf w) W pb j K D
  told : ∀ rd ∈ K.q.rds, rd.told.length ≤ j
  gr : GR K.q D.pu Nw
  row : Row W 3 1 v Nw.length (Nw.flatMap nwC)
  own : ∀ x, v.ownBlock = some x → ¬ K.fp pb x ∧ ¬ D.fp K.xb x ∧ w.heap.size ≤ x

theorem RI.len {w : World} {pb j : Nat} {W : World} {v : Value} {Nw : List Nat} {K : KS} {D : DevS} (h : RI w pb j W v Nw K D) : Nw.length = K.rds.length ∧ K.rds.length ≤ 200 := by
  have h1 := h.gr.len
  have e : K.q.rds.length = K.rds.length := by simp [KS.q]
  have h2 := h.inv.ki.count.2
  have h3 := h.inv.ki.good.bmax
  omega
theorem RI.kept {w : World} {pb j : Nat} {W W' : World} {v : Value} {Nw : List Nat} {K : KS} {D : DevS} (h : RI w pb j W v Nw K D) (k : Kept (fun _ => False) W W') : RI w pb j W' v Nw K D :=
  ⟨h.inv.kept k, h.told, h.gr, h.row.kept k (fun _ _ => id), h.own⟩

theorem RI.after {w : World} {pb j : Nat} {W W' : World} {v : Value} {Nw : List Nat} {K K' : KS} {D D' : DevS} (h : RI w pb j W v Nw K D) (hI : KInv (hereF W pb K D) W' pb (j + 1) K' D') (hT : ∀ rd ∈ K'.q.rds, rd.told.length ≤ j + 1) (hg : GR K'.q D'.pu Nw) : RI w pb (j + 1) W' v Nw K' D' := by
  have hk := hereKept hI
  refine ⟨h.inv.back hI, hT, hg, h.row.kept hk (fun x hx hf => hf.elim (h.own x hx).1 (h.own x hx).2.1), fun x hx => ?_⟩
  have o := h.own x hx
  have hl : x < W.heap.size := h.row.lt x hx
  exact ⟨fun hh => hI.core.newK x hh ⟨hl, o.1, o.2.1⟩, fun hh => hI.core.newD x hh ⟨hl, o.1, o.2.1⟩, o.2.2⟩

/-- behind a step: the list is as it was, or wants one more. -/
def RS (w : World) (pb j : Nat) (W' : World) (v : Value) (Nw : List Nat) (K : KS) : Prop := ∃ K' D', KInv (frOf w) W' pb (j + 1) K' D' ∧ (∀ rd ∈ K'.q.rds, rd.told.length ≤ j + 1) ∧ Row W' 3 1 v Nw.length (Nw.flatMap nwC) ∧ (∀ x, v.ownBlock = some x → ¬ K'.fp pb x ∧ ¬ D'.fp K'.xb x ∧ w.heap.size ≤ x) ∧
  ((K'.rds.length = K.rds.length ∧ GR K'.q D'.pu Nw) ∨ (K'.rds.length = K.rds.length + 1 ∧ GR K'.q D'.pu (Nw ++ [D'.past.length])))
theorem RI.post {w : World} {pb j : Nat} {W W' : World} {v : Value} {Nw : List Nat} {K : KS} {D : DevS} (h : RI w pb j W v Nw K D) (hp : KPost (hereF W pb K D) pb j K D W') : RS w pb j W' v Nw K := by
  obtain ⟨K', D', hI, hs⟩ := hp
  have hk := hereKept hI
  have hq : ∀ (X : KS), X.q.rds.length = X.rds.length := fun X => by simp [KS.q]
  refine ⟨K', D', h.inv.back hI, hs.told h.told, h.row.kept hk (fun x hx hf => hf.elim (h.own x hx).1 (h.own x hx).2.1), fun x hx => ?_, ?_⟩
  · have o := h.own x hx
    have hl : x < W.heap.size := h.row.lt x hx
    exact ⟨fun hh => hI.core.newK x hh ⟨hl, o.1, o.2.1⟩, fun hh => hI.core.newD x hh ⟨hl, o.1, o.2.1⟩, o.2.2⟩
  · rcases h.gr.step h.inv.ki hs with ⟨a, b⟩ | ⟨a, b, c⟩
    · rw [hq, hq] at a
      exact .inl ⟨a, b⟩
    · rw [hq, hq] at a
      have b' : D'.past.length = D.past.length := b
      refine .inr ⟨a, ?_⟩
      rw [b']
      exact c

theorem rstep (w W : World) (pb j : Nat) (v : Value) (Nw : List Nat) (K : KS) (D : DevS) (o : StE) (h : RI w pb j W v Nw K D) (ho : StOk w o) (hj : j ≤ 1048576) :
    Calls Try.prog 16 #[.pointer (some ⟨pb, 0, none⟩), .agg #[.int .i64 o.kd, .int .i64 o.b, .int .i64 o.c, .string o.s, .slice o.ka o.kn o.kc, .slice o.va o.vn o.vc]] W fun e w' => e = .returned (.tuple #[]) ∧ RS w pb j w' v Nw K :=
  (kstep (hereF W pb K D) W pb j K D o h.inv.here (ho.is h.inv.core.below) h.told hj).mono fun _ _ hp => ⟨hp.1, h.post hp.2⟩

/-- one reader more: the newest stamp is set down. -/
theorem RS.more {w : World} {pb j : Nat} {W W1 w' : World} {v v' : Value} {Nw : List Nat} {K' : KS} {D' : DevS} (hI : KInv (frOf w) W pb (j + 1) K' D') (hT : ∀ rd ∈ K'.q.rds, rd.told.length ≤ j + 1) (hown : ∀ x, v.ownBlock = some x → ¬ K'.fp pb x ∧ ¬ D'.fp K'.xb x ∧ w.heap.size ≤ x) (hg : GR K'.q D'.pu (Nw ++ [D'.past.length])) (hk : Kept (fun _ => False) W W1) (hA : Appended W1 w' 3 1 v v' Nw.length 1 (Nw.flatMap nwC) (nwC D'.past.length)) : RI w pb (j + 1) w' v' (Nw ++ [D'.past.length]) K' D' := by
  have hA2 := Appended.from hk hA
  have hC := hI.core.far hA2.kept (fun x hx he => (hown x he).1 hx) (fun x hx he => (hown x he).2.1 hx) (fun x he => by have := (hown x he).2.2; show ¬ x < w.heap.size; omega)
  refine ⟨⟨hC, hI.ki, hI.open', hI.ok⟩, hT, hg, row_snoc hA2.row, fun x hx => ?_⟩
  rcases hA2.new x hx with e | e
  · exact hown x e
  · have hw := hI.core.below.size
    have hw' : w.heap.size ≤ W.heap.size := hw
    exact ⟨fun hh => by have := hI.core.keep.lt x hh; omega, fun hh => by have := hI.core.dev.lt x hh; omega, by omega⟩

/-- behind the end of a reader. -/
def REndPost (w : World) (pb j : Nat) (v : Value) (Nw : List Nat) (K : KS) (raw : Int) (e : Ending) (w' : World) : Prop :=
  (goneK K.rds (whichK K.rds.length raw) = true ∧ e = .returned (.tuple #[.agg #[.int .i64 0, .int .i64 0, .slice none 0 0, .bool false], .agg #[.int .u64 0, .int .u64 0], .bool false]) ∧ ∃ K' D', RI w pb (j + 1) w' v Nw K' D') ∨
  (∃ (r lo hi nw m tl ct : Nat) (tick limit : Int) (at' : Option Addr) (K' : KS) (D' : DevS), whichK K.rds.length raw = (r : Int) ∧ e = .returned (.tuple #[.agg #[.int .i64 tick, .int .i64 limit, .slice at' tl ct, .bool true], .agg #[.int .u64 (lo : Int), .int .u64 (hi : Int)], .bool true]) ∧ RI w pb (j + 1) w' v Nw K' D' ∧
    lo ≤ hi ∧ hi ≤ nw ∧ (tl = 0 → hi = nw) ∧ Nw[r]? = some nw ∧ lo ≤ m ∧ hi ≤ m ∧ m ≤ 700 ∧ K'.ticks.length = m + 1 ∧ K'.states.length = m + 1 ∧ (∀ (h : lo + 1 < K'.ticks.length), tick - limit ≤ K'.ticks[lo + 1]) ∧ 0 ≤ tick ∧ tick ≤ 100000 ∧ 0 ≤ limit ∧ limit ≤ 100000)

theorem rend (w W : World) (pb j : Nat) (v : Value) (Nw : List Nat) (K : KS) (D : DevS) (raw : Int) (h : RI w pb j W v Nw K D) (h1 : -9223372036854775808 ≤ raw) (h2 : raw ≤ 9223372036854775807) :
    Calls Try.prog 17 #[.pointer (some ⟨pb, 0, none⟩), .int .i64 raw] W fun e w' => REndPost w pb j v Nw K raw e w' :=
  (kend (hereF W pb K D) W pb j K D raw h.inv.here h1 h2).mono fun e w' hp => by
    rcases hp with ⟨hg, e1, K', D', hI, e2, e3⟩ | ⟨r, i, rd, K', D', hr, hrd, hre, hi, hir, hin, e1, hI, e2, e3, hrd'⟩
    · exact .inl ⟨hg, e1, K', D', h.after hI (by rw [e2]; exact fun x hx => Nat.le_succ_of_le (h.told x hx)) (by rw [e2, e3]; exact h.gr)⟩
    · have hq : K.q.rds[r]? = some rd.p := by show (K.rds.map KrE.p)[r]? = _; rw [List.getElem?_map, hrd]; rfl
      have hs : KStep K.q D.pu K'.q D'.pu := by rw [e2, e3]; exact .stop K.q D.pu r i rd.p hq hre hi hir hin
      have hgr : GR K'.q D'.pu Nw := by
        rcases h.gr.step h.inv.ki hs with ⟨_, b⟩ | ⟨a, _⟩
        · exact b
        · rw [e2] at a
          simp at a
      have hn : r < Nw.length := by rw [h.gr.len]; exact (List.getElem?_eq_some_iff.mp hq).1
      have o := h.gr.seat r i rd.p Nw[r] hq (List.getElem?_eq_getElem hn) hi hir hin
      have ox := h.gr.rd r rd.p hq
      obtain ⟨at', ct, htv, _⟩ := (h.inv.core.keep.told hrd).form
      have hR := h.after hI (hs.told h.told) hgr
      have hm : D'.past.length ≤ 700 := hI.ki.good.pmax
      obtain ⟨j', _, _, _, hu, hl1, hl2⟩ := h.inv.ki.seat hq hre
      have := hu i hi hir hin
      subst this
      have hpast : D'.past = D.past := congrArg DP.past e3
      have et : K'.ticks = 0 :: D'.past.map PastE.tick := hI.ki.ticks
      have es : K'.states = (fun _ => 0) :: D'.past.map PastE.st := hI.ki.states
      have hlo : (D.seats i).lo ≤ D.past.length := Nat.le_trans hl1 hl2
      have hhi : (D.seats i).hi ≤ D.past.length := hl2
      have hck : D.clock ≤ 100000 := h.inv.ki.good.clk1
      have hox : rd.tick ≤ D.clock ∧ 0 ≤ rd.limit ∧ rd.limit ≤ 100000 ∧ 0 ≤ rd.tick := ox
      refine .inr ⟨r, (D.seats i).lo, (D.seats i).hi, Nw[r], D'.past.length, rd.told.length, ct, rd.tick, rd.limit, at', K', D', hr, by rw [e1, htv], hR, o.le, o.top, fun ht => o.bare (List.eq_nil_of_length_eq_zero ht), List.getElem?_eq_getElem hn, by rw [hpast]; exact hlo, by rw [hpast]; exact hhi, hm, by rw [et]; simp, by rw [es]; simp, fun hlt => ?_, hox.2.2.2, by omega, hox.2.1, hox.2.2.1⟩
      have hlt' : (D.seats i).lo < D.past.length := by
        have : (D.seats i).lo + 1 < (0 :: D'.past.map PastE.tick).length := by rw [← et]; exact hlt
        rw [hpast] at this
        simpa using this
      have on := o.new (D.seats i).lo hlt' (Nat.le_refl _)
      have e5 : K'.ticks[(D.seats i).lo + 1] = D.past[(D.seats i).lo].tick := by
        have : K'.ticks[(D.seats i).lo + 1]? = some D.past[(D.seats i).lo].tick := by rw [et, hpast]; simp [hlt']
        rw [List.getElem?_eq_getElem hlt] at this
        injection this
      rw [e5]
      exact on

end Go.Proofs.Ytpfcacedpkaihaa
