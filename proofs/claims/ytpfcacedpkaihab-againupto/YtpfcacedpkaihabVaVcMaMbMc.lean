import Derived.Test.YtpfcacedpkaihabKnKoOt
import Derived.Test.YtpfcacedpkaihabKc
/- What holds between two steps of a keeping law's script. -/
namespace Go.Proofs.Ytpfcacedpkaihab
open Go.RowKit

/-- a fact on what a law keeps and on the program's world that every step keeps. -/
def Stays (G : KQ → DP → Prop) : Prop := ∀ (Q Q' : KQ) (P P' : DP) (n : Nat), KI Q P n → G Q P → KStep Q P Q' P' → G Q' P'
def KJ (G : KQ → DP → Prop) (w0 : Fr) (pb j : Nat) (W : World) : Prop := ∃ K D, KInv w0 W pb j K D ∧ (∀ rd ∈ K.q.rds, rd.told.length ≤ j) ∧ G K.q D.pu

theorem KPost.next {G : KQ → DP → Prop} (hG : Stays G) {w0 : Fr} {pb n : Nat} {K : KS} {D : DevS} {W W' : World} (h : KInv w0 W pb n K D) (hT : ∀ rd ∈ K.q.rds, rd.told.length ≤ n) (hg : G K.q D.pu) (hp : KPost w0 pb n K D W') : KJ G w0 pb (n + 1) W' := by
  obtain ⟨K', D', hI, hs⟩ := hp
  exact ⟨K', D', hI, hs.told hT, hG _ _ _ _ n h.ki hg hs⟩
theorem KJ.is {G : KQ → DP → Prop} {w0 : Fr} {pb j : Nat} {W : World} (h : KJ G w0 pb j W) : w0.Is W := by
  obtain ⟨K, D, hI, _⟩ := h
  exact hI.core.below
theorem KJ.ok {G : KQ → DP → Prop} {w0 : Fr} {pb j : Nat} {W : World} (h : KJ G w0 pb j W) : W.cell? ⟨pb, 8, none⟩ = some (.bool true) := by
  obtain ⟨K, D, hI, _⟩ := h
  have := hI.core.keep.c8
  rw [hI.ok] at this
  exact this
theorem KEndPost.post {w0 : Fr} {pb n : Nat} {K : KS} {D : DevS} {raw : Int} {e : Ending} {w' : World} (h : KEndPost w0 pb n K D raw e w') : ∃ v, e = .returned v ∧ KPost w0 pb n K D w' := by
  rcases h with ⟨_, e1, K', D', hI, e2, e3⟩ | ⟨r, j, rd, K', D', h1, h2, h3, h4, h5, h6, e1, hI, e2, e3, _⟩
  · exact ⟨_, e1, K', D', hI, by rw [e2, e3]; exact .same _ _⟩
  · refine ⟨_, e1, K', D', hI, ?_⟩
    rw [e2, e3]
    have hq : K.q.rds[r]? = some rd.p := by show (K.rds.map KrE.p)[r]? = _; rw [List.getElem?_map, h2]; rfl
    exact .stop K.q D.pu r j rd.p hq h3 h4 h5 h6
theorem cell_is {w W : World} (h : (frOf w).Is W) {a : Addr} {v : Value} (hc : w.cell? a = some v) : W.cell? a = some v :=
  (World.cell?_of_block (h.block a.block (World.block_lt_of_cell? w _ hc))).trans hc
theorem StOk.is {w W : World} {o : StE} (h : StOk w o) (hi : (frOf w).Is W) : StOk W o :=
  ⟨fun j hj => by obtain ⟨bl, off, x, e, c, r⟩ := h.keys j hj; exact ⟨bl, off, x, e, cell_is hi c, r⟩, fun j hj => by obtain ⟨bl, off, x, e, c⟩ := h.vals j hj; exact ⟨bl, off, x, e, cell_is hi c⟩, h.klen, h.vlen, h.slen, h.b0, h.b1, h.c0, h.c1⟩
theorem Sk.at {w W : World} {ao : Option Addr} {n j : Nat} {os : List StE} (h : Sk w ao n os) (hi : (frOf w).Is W) (hj : j < os.length) : ∃ bl off, ao = some ⟨bl, off, none⟩ ∧ W.cell? ⟨bl, off + j * 6, none⟩ = some (.int .i64 os[j].kd) ∧ W.cell? ⟨bl, off + j * 6 + 1, none⟩ = some (.int .i64 os[j].b) ∧ W.cell? ⟨bl, off + j * 6 + 2, none⟩ = some (.int .i64 os[j].c) ∧ W.cell? ⟨bl, off + j * 6 + 3, none⟩ = some (.string os[j].s) ∧ W.cell? ⟨bl, off + j * 6 + 4, none⟩ = some (.slice os[j].ka os[j].kn os[j].kc) ∧ W.cell? ⟨bl, off + j * 6 + 5, none⟩ = some (.slice os[j].va os[j].vn os[j].vc) := by
  obtain ⟨bl, off, e, hb, hc⟩ := h.cell j hj
  have hh : ∀ f, f < 6 → ∀ u, (stepC os[j])[f]? = some u → W.cell? ⟨bl, off + j * 6 + f, none⟩ = some u := fun f hf u hu => cell_is hi (by rw [hc f hf]; exact hu)
  exact ⟨bl, off, e, hh 0 (by omega) _ rfl, hh 1 (by omega) _ rfl, hh 2 (by omega) _ rfl, hh 3 (by omega) _ rfl, hh 4 (by omega) _ rfl, hh 5 (by omega) _ rfl⟩

theorem jstep {G : KQ → DP → Prop} (hG : Stays G) (w0 : Fr) (w : World) (pb n : Nat) (o : StE) (h : KJ G w0 pb n w) (ho : StOk w o) (hn : n ≤ 1048576) :
    Calls Try.prog 6 #[.pointer (some ⟨pb, 0, none⟩), .agg #[.int .i64 o.kd, .int .i64 o.b, .int .i64 o.c, .string o.s, .slice o.ka o.kn o.kc, .slice o.va o.vn o.vc]] w fun e w' => e = .returned (.tuple #[]) ∧ KJ G w0 pb (n + 1) w' := by
  obtain ⟨K, D, hI, hT, hg⟩ := h
  exact (kstep w0 w pb n K D o hI ho hT hn).mono fun e w' hp => ⟨hp.1, KPost.next hG hI hT hg hp.2⟩
theorem jend {G : KQ → DP → Prop} (hG : Stays G) (w0 : Fr) (w : World) (pb n : Nat) (raw : Int) (h : KJ G w0 pb n w) (h1 : -9223372036854775808 ≤ raw) (h2 : raw ≤ 9223372036854775807) :
    Calls Try.prog 5 #[.pointer (some ⟨pb, 0, none⟩), .int .i64 raw] w fun e w' => ∃ v, e = .returned v ∧ KJ G w0 pb (n + 1) w' := by
  obtain ⟨K, D, hI, hT, hg⟩ := h
  exact (kend w0 w pb n K D raw hI h1 h2).mono fun e w' hp => by
    obtain ⟨v, e1, hp2⟩ := hp.post
    exact ⟨v, e1, KPost.next hG hI hT hg hp2⟩
theorem jbegan {G : KQ → DP → Prop} (w : World) (a b : Int) (ha0 : -9223372036854775808 ≤ a) (ha1 : a ≤ 9223372036854775807) (hb0 : -9223372036854775808 ≤ b) (hb1 : b ≤ 9223372036854775807) (hG : ∀ Q m r, Q.rds = [] → Q.room = r → KI Q (p0 m r) 0 → G Q (p0 m r)) :
    Calls Try.prog 4 #[.int .i64 a, .int .i64 b] w fun e w' => ∃ pb, e = .returned (.pointer (some ⟨pb, 0, none⟩)) ∧ KJ G (frOf w) pb 0 w' :=
  (kbegan w a b ha0 ha1 hb0 hb1).mono fun e w' hp => by
    obtain ⟨pb, m, r, K, D, e1, hI, e2, e3, _, _, _, _, e4⟩ := hp
    refine ⟨pb, e1, K, D, hI, (by rw [e3]; intro rd hrd; cases hrd), ?_⟩
    have hk := hI.ki
    rw [e2] at hk ⊢
    exact hG _ _ _ e3 e4 hk
def KLawPost (w : World) (e : Ending) (w' : World) : Prop := e = .returned (.bool true) ∧ Below w.heap.size w w'
theorem Fr.Is.below {w W : World} (h : (frOf w).Is W) : Below w.heap.size w W := ⟨h.os, h.tape, h.output, h.size, h.block⟩

end Go.Proofs.Ytpfcacedpkaihab

/- Frames of a keeping law; what stays of a reader's span (mathematics alone). -/
namespace Go.Proofs.Ytpfcacedpkaihab
open Go.RowKit

/-- the frame of all that is neither the law's nor the program's. -/
def hereF (W : World) (pb : Nat) (K : KS) (D : DevS) : Fr := ⟨W, fun i => i < W.heap.size ∧ ¬ K.fp pb i ∧ ¬ D.fp K.xb i, fun _ h => h.1⟩
theorem KInv.here {w0 : Fr} {W : World} {pb n : Nat} {K : KS} {D : DevS} (h : KInv w0 W pb n K D) : KInv (hereF W pb K D) W pb n K D :=
  ⟨⟨⟨rfl, rfl, rfl, Nat.le_refl _, fun _ _ => rfl⟩, h.core.keep, h.core.dev, h.core.sep, fun _ hk hx => hx.2.1 hk, fun _ hd hx => hx.2.2 hd⟩, h.ki, h.open', h.ok⟩
theorem hereKept {W W' : World} {pb n : Nat} {K K' : KS} {D D' : DevS} (h : KInv (hereF W pb K D) W' pb n K' D') : Kept (fun i => K.fp pb i ∨ D.fp K.xb i) W W' :=
  ⟨h.core.below.os, h.core.below.tape, h.core.below.output, h.core.below.size, fun i hi hf => h.core.below.block i ⟨hi, fun hk => hf (.inl hk), fun hd => hf (.inr hd)⟩⟩
theorem KInv.back {w0 : Fr} {W W' : World} {pb n n' : Nat} {K K' : KS} {D D' : DevS} (h : KInv w0 W pb n K D) (h' : KInv (hereF W pb K D) W' pb n' K' D') : KInv w0 W' pb n' K' D' := by
  have hX : ∀ k, w0.X k → (hereF W pb K D).X k := fun k hk => ⟨Nat.lt_of_lt_of_le (w0.lt k hk) h.core.below.size, fun hh => h.core.newK k hh hk, fun hh => h.core.newD k hh hk⟩
  exact ⟨⟨h.core.below.next (hereKept h') (fun i hi => hi.elim (h.core.newK i) (h.core.newD i)), h'.core.keep, h'.core.dev, h'.core.sep, fun k hk hx => h'.core.newK k hk (hX k hx), fun k hk hx => h'.core.newD k hk (hX k hx)⟩, h'.ki, h'.open', h'.ok⟩

/-- steps that turn nodes and puts alone. -/
def DP.NodesOnly (P P' : DP) : Prop := P'.past = P.past ∧ P'.clock = P.clock ∧ P'.seats = P.seats ∧ P'.begun = P.begun
theorem nodes_store (P : DP) (i : Int) : P.NodesOnly (P.store i).2.2 := by
  unfold DP.store
  split
  · exact ⟨rfl, rfl, rfl, rfl⟩
  · split
    · exact ⟨rfl, rfl, rfl, rfl⟩
    · split <;> exact ⟨rfl, rfl, rfl, rfl⟩
theorem nodes_drop (P : DP) (i : Int) : P.NodesOnly (P.drop i).2 := by
  unfold DP.drop; split <;> exact ⟨rfl, rfl, rfl, rfl⟩
theorem nodes_evict (P : DP) (k i : Int) : P.NodesOnly (P.evict k i).2 := by
  unfold DP.evict
  split
  · exact ⟨rfl, rfl, rfl, rfl⟩
  · split <;> exact ⟨rfl, rfl, rfl, rfl⟩
theorem nodes_lose (P : DP) (k i : Int) : P.NodesOnly (P.lose k i).2 := by
  unfold DP.lose
  split
  · exact ⟨rfl, rfl, rfl, rfl⟩
  · split <;> exact ⟨rfl, rfl, rfl, rfl⟩
theorem nodes_copy (P : DP) (k i : Int) : P.NodesOnly (P.copy k i).2 := by
  unfold DP.copy
  split
  · exact ⟨rfl, rfl, rfl, rfl⟩
  · split
    · exact ⟨rfl, rfl, rfl, rfl⟩
    · split
      · exact ⟨rfl, rfl, rfl, rfl⟩
      · split <;> exact ⟨rfl, rfl, rfl, rfl⟩
theorem nodes_deliver (P : DP) (k i : Int) : P.NodesOnly (P.deliver k i).2 := by
  unfold DP.deliver
  split
  · exact ⟨rfl, rfl, rfl, rfl⟩
  · split
    · exact ⟨rfl, rfl, rfl, rfl⟩
    · split <;> exact ⟨rfl, rfl, rfl, rfl⟩
theorem nodes_ask (P : DP) (k : Int) : P.NodesOnly (P.ask k).2.2 := by
  unfold DP.ask; split <;> exact ⟨rfl, rfl, rfl, rfl⟩
theorem nodes_restart (P : DP) (k : Int) : P.NodesOnly (P.restart k).2 := by
  unfold DP.restart; split <;> exact ⟨rfl, rfl, rfl, rfl⟩

/-- the seat of a reader: its span was newest not too long ago; it ends no later than the newest stamp when the reader began. -/
structure SeatR (P : DP) (rd : KR) (nw : Nat) (s : SeatE) : Prop where
  le : s.lo ≤ s.hi
  top : s.hi ≤ nw
  bare : rd.told = [] → s.hi = nw
  new : ∀ i (h : i < P.past.length), s.lo ≤ i → rd.tick - rd.limit ≤ P.past[i].tick
/-- what Recent leans on. -/
structure GR (Q : KQ) (P : DP) (Nw : List Nat) : Prop where
  mono : ∀ i j (hi : i < P.past.length) (hj : j < P.past.length), i ≤ j → P.past[i].tick ≤ P.past[j].tick
  clk : ∀ i (hi : i < P.past.length), P.past[i].tick ≤ P.clock
  len : Nw.length = Q.rds.length
  rd : ∀ (r : Nat) (x : KR), Q.rds[r]? = some x → x.tick ≤ P.clock ∧ 0 ≤ x.limit ∧ x.limit ≤ 100000 ∧ 0 ≤ x.tick
  seat : ∀ (r j : Nat) (x : KR) (nw : Nat), Q.rds[r]? = some x → Nw[r]? = some nw → j < 6 → (P.seats j).reads = true → (P.seats j).num = (r : Int) → SeatR P x nw (P.seats j)

theorem GR.nodes {Q : KQ} {P P' : DP} {Nw : List Nat} (h : GR Q P Nw) (e : P.NodesOnly P') : GR Q P' Nw := by
  obtain ⟨c, p, b, s, q, t⟩ := P
  obtain ⟨c', p', b', s', q', t'⟩ := P'
  obtain ⟨e1, e2, e3, e4⟩ := e
  dsimp only at e1 e2 e3 e4
  subst e1; subst e2; subst e3; subst e4
  exact ⟨h.mono, h.clk, h.len, h.rd, fun r j x nw h1 h2 h3 h4 h5 => by
    have := h.seat r j x nw h1 h2 h3 h4 h5
    exact ⟨this.le, this.top, this.bare, this.new⟩⟩

theorem get_snoc {α : Type} {l : List α} {x : α} {i : Nat} (h : i < (l ++ [x]).length) : (∃ h' : i < l.length, (l ++ [x])[i] = l[i]) ∨ (i = l.length ∧ (l ++ [x])[i] = x) := by
  by_cases h' : i < l.length
  · exact .inl ⟨h', List.getElem_append_left h'⟩
  · have : i = l.length := by simp at h; omega
    subst this
    exact .inr ⟨rfl, by simp⟩

theorem GR.step {Q Q' : KQ} {P P' : DP} {n : Nat} {Nw : List Nat} (hk : KI Q P n) (h : GR Q P Nw) (hs : KStep Q P Q' P') :
    (Q'.rds.length = Q.rds.length ∧ GR Q' P' Nw) ∨ (Q'.rds.length = Q.rds.length + 1 ∧ P'.past.length = P.past.length ∧ GR Q' P' (Nw ++ [P.past.length])) := by
  have set_rd : ∀ (r : Nat) (a b : KR), Q.rds[r]? = some a → b.tick = a.tick → b.limit = a.limit → ∀ (k : Nat) (x : KR), (Q.rds.set r b)[k]? = some x → x.tick ≤ P.clock ∧ 0 ≤ x.limit ∧ x.limit ≤ 100000 ∧ 0 ≤ x.tick := by
    intro r a b ha e1 e2 k x hx
    by_cases e : r = k
    · subst e
      rw [List.getElem?_set_self (List.getElem?_eq_some_iff.mp ha).1] at hx
      injection hx with hx
      subst hx
      have := h.rd r a ha
      rw [e1, e2]; exact this
    · rw [List.getElem?_set_ne e] at hx
      exact h.rd k x hx
  have cut_seat : ∀ (r j : Nat) (a b : KR) (f g : Nat), Q.rds[r]? = some a → b.tick = a.tick → b.limit = a.limit → b.told ≠ [] → j < 6 → (P.seats j).reads = true → (P.seats j).num = (r : Int) → max (P.seats j).lo f ≤ min (P.seats j).hi g →
      ∀ (k i : Nat) (x : KR) (nw : Nat), (Q.rds.set r b)[k]? = some x → Nw[k]? = some nw → i < 6 → (putSeat P.seats j ((P.seats j).cut f g) i).reads = true → (putSeat P.seats j ((P.seats j).cut f g) i).num = (k : Int) → SeatR P x nw (putSeat P.seats j ((P.seats j).cut f g) i) := by
    intro r j a b f g ha e1 e2 e3 hj hjr hjn hm k i x nw hx hnw hi hir hin
    by_cases eij : i = j
    · subst eij
      rw [putSeat_self] at hir hin ⊢
      have hin' : (P.seats i).num = (k : Int) := hin
      have hkr : k = r := by omega
      subst hkr
      rw [List.getElem?_set_self (List.getElem?_eq_some_iff.mp ha).1] at hx
      injection hx with hx
      subst hx
      have o := h.seat k i a nw ha hnw hi hjr hjn
      refine ⟨hm, ?_, fun hh => absurd hh e3, fun q hq hlo => ?_⟩
      · have := o.top
        show min (P.seats i).hi g ≤ nw
        omega
      · rw [e1, e2]
        refine o.new q hq ?_
        have : max (P.seats i).lo f ≤ q := hlo
        omega
    · rw [putSeat_ne _ _ _ _ eij] at hir hin ⊢
      have hne : r ≠ k := by
        rintro rfl
        obtain ⟨l, hsim, _⟩ := hk.rdrs
        exact eij (hsim.one i j hi hj hir hjr (by rw [hin, hjn]))
      rw [List.getElem?_set_ne hne] at hx
      exact h.seat k i x nw hx hnw hi hir hin
  cases hs with
  | same => exact .inl ⟨rfl, h⟩
  | commit ws h1 h2 =>
    refine .inl ⟨rfl, ?_⟩
    have hq : (P.nextP ws).tick = P.clock := writesP_tick _ ws
    refine ⟨fun i j hi hj hij => ?_, fun i hi => ?_, h.len, h.rd, fun r j x nw hx hnw hj hjr hjn => ?_⟩
    · rcases get_snoc hi with ⟨hi', ei⟩ | ⟨ei', ei⟩
      · rcases get_snoc hj with ⟨hj', ej⟩ | ⟨_, ej⟩
        · show (P.past ++ [_])[i].tick ≤ (P.past ++ [_])[j].tick
          rw [ei, ej]; exact h.mono i j hi' hj' hij
        · show (P.past ++ [_])[i].tick ≤ (P.past ++ [_])[j].tick
          rw [ei, ej, hq]; exact h.clk i hi'
      · rcases get_snoc hj with ⟨hj', ej⟩ | ⟨_, ej⟩
        · omega
        · show (P.past ++ [_])[i].tick ≤ (P.past ++ [_])[j].tick
          rw [ei, ej]; exact Int.le_refl _
    · show (P.past ++ [_])[i].tick ≤ P.clock
      rcases get_snoc hi with ⟨hi', ei⟩ | ⟨_, ei⟩
      · rw [ei]; exact h.clk i hi'
      · rw [ei, hq]; exact Int.le_refl _
    · have o := h.seat r j x nw hx hnw hj hjr hjn
      have ox := h.rd r x hx
      refine ⟨o.le, o.top, o.bare, fun i hi hlo => ?_⟩
      show _ ≤ (P.past ++ [_])[i].tick
      rcases get_snoc hi with ⟨hi', ei⟩ | ⟨_, ei⟩
      · rw [ei]; exact o.new i hi' hlo
      · rw [ei, hq]; omega
  | tick hc =>
    refine .inl ⟨rfl, h.mono, fun i hi => ?_, h.len, fun r x hx => ?_, fun r j x nw hx hnw hj hjr hjn => ?_⟩
    · have := h.clk i hi
      show P.past[i].tick ≤ P.clock + 1
      omega
    · have := h.rd r x hx
      show x.tick ≤ P.clock + 1 ∧ _
      omega
    · have o := h.seat r j x nw hx hnw hj hjr hjn
      exact ⟨o.le, o.top, o.bare, o.new⟩
  | start limit lo j h1 h2 h3 h4 h5 h6 =>
    have hcl := hk.clock
    have hc0 := hk.good.clk0
    have hlen := hk.count.2
    refine .inr ⟨by simp, rfl, h.mono, h.clk, by simp [h.len], fun r x hx => ?_, fun r i x nw hx hnw hi hir hin => ?_⟩
    · by_cases e : r < Q.rds.length
      · rw [List.getElem?_append_left e] at hx
        exact h.rd r x hx
      · have e2 : r = Q.rds.length := by
          have := (List.getElem?_eq_some_iff.mp hx).1
          simp at this; omega
        subst e2
        simp at hx
        subst hx
        exact ⟨by rw [hcl]; exact Int.le_refl _, h1, h2, by rw [hcl]; exact hc0⟩
    · obtain ⟨l, hsim, hl⟩ := hk.rdrs
      have hll : l.length = P.begun := hsim.begun.symm
      by_cases eij : i = j
      · subst eij
        have e0 : putSeat P.seats i ⟨true, P.begun, lo, P.past.length⟩ i = ⟨true, P.begun, lo, P.past.length⟩ := putSeat_self _ _ _
        have hin' : ((P.begun : Nat) : Int) = (r : Int) := by
          have : (putSeat P.seats i ⟨true, P.begun, lo, P.past.length⟩ i).num = (r : Int) := hin
          rw [e0] at this
          exact this
        have hr : r = Q.rds.length := by omega
        subst hr
        have ex : x = ⟨Q.clock, limit, [], false⟩ := by simp at hx; exact hx.symm
        have en : nw = P.past.length := by rw [← h.len] at hnw; simp at hnw; exact hnw.symm
        subst ex; subst en
        show SeatR _ _ _ (putSeat P.seats i ⟨true, P.begun, lo, P.past.length⟩ i)
        rw [e0]
        refine ⟨h3.1, Nat.le_refl _, fun _ => rfl, fun q hq hlo => ?_⟩
        have hlo' : lo ≤ q := hlo
        have hq' : q < P.past.length := hq
        have t1 := h3.2.2 (Nat.lt_of_le_of_lt hlo' hq')
        have t2 := h.mono lo q (Nat.lt_of_le_of_lt hlo' hq') hq' hlo'
        show Q.clock - limit ≤ P.past[q].tick
        omega
      · have e0 : putSeat P.seats j ⟨true, P.begun, lo, P.past.length⟩ i = P.seats i := putSeat_ne _ _ _ _ eij
        have hir' : (P.seats i).reads = true := by rw [← e0]; exact hir
        have hin' : (P.seats i).num = (r : Int) := by rw [← e0]; exact hin
        obtain ⟨k, y, k1, k2, _⟩ := hsim.seat i hi hir'
        have hkl := (List.getElem?_eq_some_iff.mp k2).1
        have hkr : k = r := by omega
        subst hkr
        have hrl : k < Q.rds.length := by omega
        rw [List.getElem?_append_left hrl] at hx
        rw [List.getElem?_append_left (by rw [h.len]; exact hrl)] at hnw
        show SeatR _ _ _ (putSeat P.seats j ⟨true, P.begun, lo, P.past.length⟩ i)
        rw [e0]
        have o := h.seat k i x nw hx hnw hi hir' hin'
        exact ⟨o.le, o.top, o.bare, o.new⟩
  | hit r j i q ts s x rd h1 h2 h3 h4 h5 h6 h7 h8 h9 =>
    have hm : meetsE s.horizon q (P.seats j).lo (P.seats j).hi x.e := ans_meets s q (P.seats j).lo (P.seats j).hi s.ents.length i x h8 h9
    refine .inl ⟨by simp, h.mono, h.clk, by simp [h.len], set_rd r rd _ h1 rfl rfl, fun k i' x' nw hx hnw hi hir hin => ?_⟩
    have o := cut_seat r j rd { rd with told := rd.told ++ [(q, x.e.val)] } x.e.fr (lastE x.e s.horizon) h1 rfl rfl (by simp) h3 h4 h5 hm.2 k i' x' nw hx hnw hi hir hin
    exact ⟨o.le, o.top, o.bare, o.new⟩
  | miss r j q ts s rd h1 h2 h3 h4 h5 h6 h7 h8 =>
    have hfr := fromN_le (zeroP :: P.past) (keysL ts) (P.seats j).hi
    obtain ⟨l, hsim, hl⟩ := hk.rdrs
    obtain ⟨k0, y, e1, e2, e3, e4, e5⟩ := hsim.seat j h3 h4
    have hsp := hsim.span y (List.mem_of_getElem? e2)
    refine .inl ⟨by simp, h.mono, h.clk, by simp [h.len], set_rd r rd _ h1 rfl rfl, fun k i' x' nw hx hnw hi hir hin => ?_⟩
    have o := cut_seat r j rd { rd with told := rd.told ++ [(q, (P.answer q ts (P.seats j).hi).val)] } (P.answer q ts (P.seats j).hi).fr (P.seats j).hi h1 rfl rfl (by simp) h3 h4 h5 (by rw [e4, e5] at hsp; show max (P.seats j).lo (fromN _ _ _) ≤ min (P.seats j).hi (P.seats j).hi; omega) k i' x' nw hx hnw hi hir hin
    exact ⟨o.le, o.top, o.bare, o.new⟩
  | stop r j rd h1 h2 h3 h4 h5 =>
    refine .inl ⟨by simp, h.mono, h.clk, by simp [h.len], set_rd r rd _ h1 rfl rfl, fun k i x' nw hx hnw hi hir hin => ?_⟩
    by_cases eij : i = j
    · subst eij
      have e0 : putSeat P.seats i ⟨false, 0, 0, 0⟩ i = ⟨false, 0, 0, 0⟩ := putSeat_self _ _ _
      have hir' : (putSeat P.seats i ⟨false, 0, 0, 0⟩ i).reads = true := hir
      rw [e0] at hir'
      cases hir'
    · have e0 : putSeat P.seats j ⟨false, 0, 0, 0⟩ i = P.seats i := putSeat_ne _ _ _ _ eij
      have hir' : (P.seats i).reads = true := by rw [← e0]; exact hir
      have hin' : (P.seats i).num = (k : Int) := by rw [← e0]; exact hin
      have hne : r ≠ k := by
        rintro rfl
        obtain ⟨l, hsim, _⟩ := hk.rdrs
        exact eij (hsim.one i j hi h3 hir' h4 (by rw [hin', h5]))
      rw [List.getElem?_set_ne hne] at hx
      show SeatR _ _ _ (putSeat P.seats j ⟨false, 0, 0, 0⟩ i)
      rw [e0]
      have o := h.seat k i x' nw hx hnw hi hir' hin'
      exact ⟨o.le, o.top, o.bare, o.new⟩
  | store i => exact .inl ⟨rfl, h.nodes (nodes_store P i)⟩
  | drop i => exact .inl ⟨rfl, h.nodes (nodes_drop P i)⟩
  | evict k i => exact .inl ⟨rfl, h.nodes (nodes_evict P k i)⟩
  | deliver k i => exact .inl ⟨rfl, h.nodes (nodes_deliver P k i)⟩
  | lose k i => exact .inl ⟨rfl, h.nodes (nodes_lose P k i)⟩
  | copy k i => exact .inl ⟨rfl, h.nodes (nodes_copy P k i)⟩
  | ask k => exact .inl ⟨rfl, h.nodes (nodes_ask P k)⟩
  | restart k => exact .inl ⟨rfl, h.nodes (nodes_restart P k)⟩

theorem GR.start {Q : KQ} {m : Nat} {r : Int} (h : Q.rds = []) : GR Q (p0 m r) [] :=
  ⟨fun i _ hi => by simp [p0] at hi, fun i hi => by simp [p0] at hi, by rw [h]; rfl, fun r x hx => by rw [h] at hx; simp at hx, fun r j x nw hx => by rw [h] at hx; simp at hx⟩

end Go.Proofs.Ytpfcacedpkaihab

/- What is remembered is right in every state that it covers (mathematics alone): keys, states, entries. -/
namespace Go.Proofs.Ytpfcacedpkaihab
open Go.RowKit

/-- is a key among some? -/
def hasK (K : Int) (k : Nat) : Bool := (BitVec.ofInt 8 K).getLsbD k
theorem ofInt_wrap8 (x : BitVec 8) : BitVec.ofInt 8 (IntKind.u8.wrap (x.toNat : Int)) = x := by
  have h : IntKind.u8.wrap (x.toNat : Int) = (x.toNat : Int) := by
    have := x.isLt
    simp [IntKind.wrap, IntKind.bits, IntKind.signed]
    omega
  rw [h, BitVec.ofInt_natCast, BitVec.ofNat_toNat]
  simp
theorem hasK_or (x y : Int) (k : Nat) : hasK (bits .or .u8 x y) k = (hasK x k || hasK y k) := by
  unfold hasK
  have : BitVec.ofInt 8 (bits .or .u8 x y) = BitVec.ofInt 8 x ||| BitVec.ofInt 8 y := ofInt_wrap8 _
  rw [this, BitVec.getLsbD_or]
theorem hasK_and {x y : Int} (h : (bits .and .u8 x y != 0) = false) (k : Nat) : (hasK x k && hasK y k) = false := by
  have h0 : bits .and .u8 x y = 0 := by simpa using h
  have h1 : BitVec.ofInt 8 (bits .and .u8 x y) = BitVec.ofInt 8 x &&& BitVec.ofInt 8 y := ofInt_wrap8 _
  rw [h0] at h1
  have h2 := congrArg (fun v : BitVec 8 => v.getLsbD k) h1
  rw [BitVec.getLsbD_and] at h2
  unfold hasK
  rw [← h2]
  simp
theorem hasK_bitN (k : Nat) (h : k ≤ 7) : hasK (bitN k) k = true := by
  have hc : k = 0 ∨ k = 1 ∨ k = 2 ∨ k = 3 ∨ k = 4 ∨ k = 5 ∨ k = 6 ∨ k = 7 := by omega
  rcases hc with rfl | rfl | rfl | rfl | rfl | rfl | rfl | rfl <;> decide
theorem hasK_bit1 (k : Nat) (h : k < 8) : hasK (bit1 k) k = true := by
  have hc : k = 0 ∨ k = 1 ∨ k = 2 ∨ k = 3 ∨ k = 4 ∨ k = 5 ∨ k = 6 ∨ k = 7 := by omega
  rcases hc with rfl | rfl | rfl | rfl | rfl | rfl | rfl | rfl <;> decide
theorem fold_has (k : Nat) : ∀ (ts : List (Nat × Nat)) (K : Int), (hasK K k = true ∨ ∃ t ∈ ts, t.2 = k ∧ k ≤ 7) → hasK (ts.foldl (fun K t => bits .or .u8 K (bitN t.2)) K) k = true
  | [], K, h => by
    rcases h with h | ⟨t, ht, _⟩
    · exact h
    · cases ht
  | a :: r, K, h => by
    rw [List.foldl_cons]
    refine fold_has k r _ ?_
    rcases h with h | ⟨t, ht, e, h7⟩
    · exact .inl (by rw [hasK_or, h]; rfl)
    · rcases List.mem_cons.mp ht with rfl | ht
      · exact .inl (by rw [hasK_or, e, hasK_bitN k h7]; simp)
      · exact .inr ⟨t, ht, e, h7⟩
theorem keysL_mem {ts : List (Nat × Nat)} {t : Nat × Nat} (h : t ∈ ts) (h7 : t.2 ≤ 7) : hasK (keysL ts) t.2 = true := fold_has t.2 ts 0 (.inr ⟨t, h, rfl, h7⟩)
theorem evalL_go {x y : Nat → Int} : ∀ (ts : List (Nat × Nat)) (v : Int), (∀ t ∈ ts, x t.2 = y t.2) → ts.foldl (fun v t => step32 v t.1 (x t.2)) v = ts.foldl (fun v t => step32 v t.1 (y t.2)) v
  | [], _, _ => rfl
  | a :: r, v, h => by
    rw [List.foldl_cons, List.foldl_cons, h a (List.mem_cons_self ..)]
    exact evalL_go r _ fun t ht => h t (List.mem_cons_of_mem _ ht)
theorem evalL_congr {x y : Nat → Int} {ts : List (Nat × Nat)} (h : ∀ t ∈ ts, x t.2 = y t.2) : evalL x ts = evalL y ts := evalL_go ts 0 h
theorem readL_terms {q : List UInt8} {ts : List (Nat × Nat)} (h : Q.readL q = (0, ts)) : ∀ t ∈ ts, t.1 ≤ 3 ∧ t.2 ≤ 7 := by
  rcases Q.readL_cases q with e | e | ⟨ts', e, _, _, h7⟩
  · rw [h] at e; simp at e
  · rw [h] at e; simp at e
  · rw [h] at e
    simp at e
    subst e
    exact h7

/-! ### states -/
/-- what a commit has not written is as it was. -/
def PastOk (l : List PastE) : Prop := ∀ (i : Nat) (p : PastE), l[i]? = some p → ∀ k, k < 8 → hasK p.keys k = false → p.st k = stAt l i k
theorem stAt_snoc (l : List PastE) (q : PastE) (t : Nat) (h : t ≤ l.length) : stAt (l ++ [q]) t = stAt l t := by
  unfold stAt
  split
  · rfl
  · rw [List.getElem?_append_left (by omega)]
theorem stAt_succ {l : List PastE} {i : Nat} {p : PastE} (h : l[i]? = some p) : stAt l (i + 1) = p.st := by
  unfold stAt
  rw [if_neg (by omega), Nat.add_sub_cancel, h]; rfl
theorem PastOk.snoc {l : List PastE} (h : PastOk l) (q : PastE) (hq : ∀ k, k < 8 → hasK q.keys k = false → q.st k = stAt l l.length k) : PastOk (l ++ [q]) := by
  intro i p hp k hk hh
  by_cases e : i < l.length
  · rw [List.getElem?_append_left e] at hp
    rw [stAt_snoc l q i (by omega)]
    exact h i p hp k hk hh
  · have e2 : i = l.length := by
      have := (List.getElem?_eq_some_iff.mp hp).1
      simp at this; omega
    subst e2
    simp at hp
    subst hp
    rw [stAt_snoc l q l.length (Nat.le_refl _)]
    exact hq k hk hh
theorem writesP_same (k : Nat) (hk : k < 8) : ∀ (ws : List (Int × Int)) (p : PastE), ws.all keyOk = true → hasK (writesP p ws).keys k = false → (writesP p ws).st k = p.st k ∧ hasK p.keys k = false
  | [], p, _, h => ⟨rfl, h⟩
  | x :: r, p, ha, h => by
    rw [List.all_cons, Bool.and_eq_true] at ha
    have hx : 0 ≤ x.1 ∧ x.1 < 8 := by have := ha.1; unfold keyOk at this; simpa using this
    have e : writesP p (x :: r) = writesP (writeP p x) r := rfl
    rw [e] at h ⊢
    obtain ⟨h1, h2⟩ := writesP_same k hk r (writeP p x) ha.2 h
    have h3 : hasK (bits .or .u8 p.keys (bit1 x.1.toNat)) k = false := h2
    rw [hasK_or, Bool.or_eq_false_iff] at h3
    refine ⟨h1.trans ?_, h3.1⟩
    show (if k = x.1.toNat then x.2 else p.st k) = p.st k
    rw [if_neg]
    rintro rfl
    rw [hasK_bit1 _ hk] at h3
    cases h3.2
theorem nextP_same (P : DP) (ws : List (Int × Int)) (ha : ws.all keyOk = true) : ∀ k, k < 8 → hasK (P.nextP ws).keys k = false → (P.nextP ws).st k = stAt P.past P.past.length k :=
  fun k hk h => (writesP_same k hk ws _ ha h).1

/-! ### what is right -/
/-- a query has a value in all states from one stamp to another. -/
def RightS (l : List PastE) (q : ByteArray) (v : Int) (a b : Nat) : Prop := ∃ ts, Q.readL q.data.toList = (0, ts) ∧ ∀ t, a ≤ t → t ≤ b → evalL (stAt l t) ts = v
/-- a commit and its keys. -/
def Wrote (l : List PastE) (c : Nat × Int) : Prop := ∃ (i : Nat) (p : PastE), c.1 = i + 1 ∧ l[i]? = some p ∧ p.keys = c.2

theorem RightS.sub {l : List PastE} {q : ByteArray} {v : Int} {a b a' b' : Nat} (h : RightS l q v a b) (h1 : a ≤ a') (h2 : b' ≤ b) : RightS l q v a' b' := by
  obtain ⟨ts, hr, he⟩ := h
  exact ⟨ts, hr, fun t h3 h4 => he t (by omega) (by omega)⟩
theorem RightS.snoc {l : List PastE} {q : ByteArray} {v : Int} {a b : Nat} (h : RightS l q v a b) (hb : b ≤ l.length) (x : PastE) : RightS (l ++ [x]) q v a b := by
  obtain ⟨ts, hr, he⟩ := h
  exact ⟨ts, hr, fun t h3 h4 => by rw [stAt_snoc l x t (by omega)]; exact he t h3 h4⟩
theorem Wrote.snoc {l : List PastE} {c : Nat × Int} (h : Wrote l c) (x : PastE) : Wrote (l ++ [x]) c := by
  obtain ⟨i, p, h1, h2, h3⟩ := h
  exact ⟨i, p, h1, by rw [List.getElem?_append_left (List.getElem?_eq_some_iff.mp h2).1]; exact h2, h3⟩
theorem same_eval {l : List PastE} {b : Nat} {p : PastE} {q : List UInt8} {ts : List (Nat × Nat)} (hl : PastOk l) (hp : l[b]? = some p) (hr : Q.readL q = (0, ts)) (ht : (bits .and .u8 p.keys (keysL ts) != 0) = false) : evalL (stAt l (b + 1)) ts = evalL (stAt l b) ts := by
  refine evalL_congr fun t htm => ?_
  have h7 := (readL_terms hr t htm).2
  rw [stAt_succ hp]
  refine hl b p hp t.2 (by omega) ?_
  have h1 := keysL_mem htm h7
  have h2 := hasK_and ht t.2
  rw [h1, Bool.and_true] at h2
  exact h2
theorem RightS.next {l : List PastE} {q : ByteArray} {v K : Int} {a b : Nat} (hl : PastOk l) (h : RightS l q v a b) (hw : Wrote l (b + 1, K)) (ht : touchK K q = false) (hab : a ≤ b) : RightS l q v a (b + 1) := by
  obtain ⟨ts, hr, he⟩ := h
  refine ⟨ts, hr, fun t h1 h2 => ?_⟩
  by_cases e : t ≤ b
  · exact he t h1 e
  · have e2 : t = b + 1 := by omega
    subst e2
    rw [← he b hab (Nat.le_refl _)]
    obtain ⟨i, p, h3, h4, h5⟩ := hw
    have e3 : i = b := by have h3' : b + 1 = i + 1 := h3; omega
    subst e3
    refine same_eval hl h4 hr ?_
    have e4 : keysQ q = keysL ts := by unfold keysQ; rw [hr]
    have h5' : p.keys = K := h5
    rw [h5', ← e4]
    exact ht

structure EntS (l : List PastE) (e : EntE) (hz : Nat) : Prop where
  op : e.op = true → e.fr ≤ e.kn
  cl : e.op = false → e.fr < e.till
  right : RightS l e.q e.val e.fr (lastE e hz)
theorem lastE_op {e : EntE} {hz : Nat} (h : e.op = true) : lastE e hz = max e.kn hz := by unfold lastE; rw [if_pos h]
theorem lastE_cl {e : EntE} {hz : Nat} (h : e.op = false) : lastE e hz = e.till - 1 := by unfold lastE; rw [h]; rfl
theorem bool_ne {b : Bool} (h : ¬ b = true) : b = false := by cases b; rfl; exact absurd rfl h
theorem EntS.le {l : List PastE} {e : EntE} {hz : Nat} (h : EntS l e hz) : e.fr ≤ lastE e hz := by
  by_cases ho : e.op = true
  · rw [lastE_op ho]; have := h.op ho; omega
  · have ho := bool_ne ho
    rw [lastE_cl ho]; have := h.cl ho; omega
theorem EntS.hear {l : List PastE} {x : HeldE} {hz : Nat} {K : Int} (hl : PastOk l) (h : EntS l x.e hz) (hw : Wrote l (hz + 1, K)) : EntS l (hearE (hz + 1) K x).e (hz + 1) := by
  unfold hearE
  split
  · rename_i hc
    refine ⟨fun e => (by cases e), fun _ => ?_, ?_⟩
    · have := h.op hc.1
      have := hc.2.1
      show x.e.fr < hz + 1
      omega
    · have hr := h.right
      rw [lastE_op hc.1] at hr
      exact hr.sub (Nat.le_refl _) (by show hz + 1 - 1 ≤ _; omega)
  · rename_i hc
    refine ⟨h.op, h.cl, ?_⟩
    have hr := h.right
    by_cases ho : x.e.op = true
    · rw [lastE_op ho] at hr ⊢
      by_cases hk : x.e.kn < hz + 1
      · have ht : touchK K x.e.q = false := by
          cases hh : touchK K x.e.q with
          | false => rfl
          | true => exact absurd ⟨ho, hk, hh⟩ hc
        have e1 : max x.e.kn hz = hz := by omega
        have e2 : max x.e.kn (hz + 1) = hz + 1 := by omega
        rw [e1] at hr
        rw [e2]
        exact hr.next hl hw ht (by have := h.op ho; omega)
      · have e1 : max x.e.kn (hz + 1) = max x.e.kn hz := by omega
        rw [e1]
        exact hr
    · have ho := bool_ne ho
      rw [lastE_cl ho] at hr ⊢
      exact hr
theorem EntS.snoc {l : List PastE} {e : EntE} {hz : Nat} (h : EntS l e hz) (x : PastE) (hb : lastE e hz ≤ l.length) : EntS (l ++ [x]) e hz := ⟨h.op, h.cl, h.right.snoc hb x⟩
theorem EntOk.lastE {e : EntE} {t hz : Nat} (h : EntOk e t) (hh : hz ≤ t) : lastE e hz ≤ t := by
  by_cases ho : e.op = true
  · rw [lastE_op ho]; have := h.kn; omega
  · have ho := bool_ne ho
    rw [lastE_cl ho]; have := h.till; omega

theorem EntS.merged {l : List PastE} {x p : EntE} {hz : Nat} (hx : EntS l x hz) (hp : EntS l p hz) (hs : sameE x p) : EntS l (mergedE x p) hz := by
  obtain ⟨hq, hf⟩ := hs
  have lx := hx.le
  have lp := hp.le
  obtain ⟨ts, r1, v1⟩ := hx.right
  obtain ⟨ts', r2, v2⟩ := hp.right
  rw [← hq, r1] at r2
  simp at r2
  subst r2
  have hv : x.val = p.val := by rw [← v1 x.fr (Nat.le_refl _) lx, ← v2 x.fr (by omega) (by omega)]
  cases ox : x.op with
  | false =>
    have e1 : (mergedE x p).op = false := by show (x.op && p.op) = false; rw [ox]; rfl
    have e2 : (mergedE x p).till = x.till := by show (if x.op && !p.op then p.till else x.till) = _; rw [ox]; rfl
    refine ⟨fun e => (by rw [e1] at e; cases e), fun _ => (by rw [e2]; exact hx.cl ox), ⟨ts, r1, fun t h1 h2 => ?_⟩⟩
    rw [lastE_cl e1, e2] at h2
    exact v1 t h1 (by rw [lastE_cl ox]; exact h2)
  | true =>
    cases op : p.op with
    | false =>
      have e1 : (mergedE x p).op = false := by show (x.op && p.op) = false; rw [ox, op]; rfl
      have e2 : (mergedE x p).till = p.till := by show (if x.op && !p.op then p.till else x.till) = _; rw [ox, op]; rfl
      refine ⟨fun e => (by rw [e1] at e; cases e), fun _ => (by rw [e2]; show x.fr < p.till; rw [hf]; exact hp.cl op), ⟨ts, r1, fun t h1 h2 => ?_⟩⟩
      rw [lastE_cl e1, e2] at h2
      have h1' : x.fr ≤ t := h1
      show evalL (stAt l t) ts = x.val
      rw [hv]
      exact v2 t (by omega) (by rw [lastE_cl op]; exact h2)
    | true =>
      have e1 : (mergedE x p).op = true := by show (x.op && p.op) = true; rw [ox, op]; rfl
      have e2 : (mergedE x p).kn = max x.kn p.kn := rfl
      refine ⟨fun _ => (by rw [e2]; have := hx.op ox; show x.fr ≤ _; omega), fun e => (by rw [e1] at e; cases e), ⟨ts, r1, fun t h1 h2 => ?_⟩⟩
      rw [lastE_op e1, e2] at h2
      have h1' : x.fr ≤ t := h1
      show evalL (stAt l t) ts = x.val
      by_cases h3 : t ≤ max x.kn hz
      · exact v1 t h1 (by rw [lastE_op ox]; exact h3)
      · rw [hv]
        exact v2 t (by omega) (by rw [lastE_op op]; omega)

theorem wroteL_mem {l : List (Nat × Int)} {t : Nat} {k : Int} (h : wroteL l t = some k) : ∃ c ∈ l, c.1 = t ∧ c.2 = k := by
  unfold wroteL at h
  cases hf : l.find? fun c => decide (c.1 = t) with
  | none => rw [hf] at h; cases h
  | some c =>
    rw [hf] at h
    injection h with h
    exact ⟨c, List.mem_of_find?_eq_some hf, by simpa using List.find?_some hf, h⟩
theorem caughtGo_sem {l : List PastE} {hs : List (Nat × Int)} {K : Int} (hl : PastOk l) (hh : ∀ c ∈ hs, Wrote l c) : ∀ (m s : Nat) (e y : EntE), K = keysQ e.q → NodeP.caughtGo hs K m (s + 1) e = some y → (e.op = true → e.fr ≤ s ∧ RightS l e.q e.val e.fr s) → (e.op = false → e.fr < e.till ∧ RightS l e.q e.val e.fr (e.till - 1)) →
    y.q = e.q ∧ y.val = e.val ∧ y.fr = e.fr ∧ y.kn = e.kn ∧ (y.op = true → RightS l e.q e.val e.fr (s + m)) ∧ (y.op = false → e.fr < y.till ∧ RightS l e.q e.val e.fr (y.till - 1))
  | 0, s, e, y, hK, h, h1, h2 => by
    simp only [NodeP.caughtGo, Option.some.injEq] at h
    subst h
    exact ⟨rfl, rfl, rfl, rfl, fun ho => (h1 ho).2, h2⟩
  | m + 1, s, e, y, hK, h, h1, h2 => by
    simp only [NodeP.caughtGo] at h
    cases hw : wroteL hs (s + 1) with
    | none => rw [hw] at h; cases h
    | some k =>
      rw [hw] at h
      dsimp only at h
      split at h
      · rename_i hc
        have o := h1 hc.1
        obtain ⟨a1, a2, a3, a4, a5, a6⟩ := caughtGo_sem hl hh m (s + 1) { e with op := false, till := s + 1 } y hK h (fun ho => (by cases ho)) (fun _ => ⟨by show e.fr < s + 1; omega, o.2.sub (Nat.le_refl _) (by show s + 1 - 1 ≤ s; omega)⟩)
        exact ⟨a1, a2, a3, a4, fun ho => by have := a5 ho; rw [Nat.add_right_comm] at this; exact this, a6⟩
      · rename_i hc
        obtain ⟨a1, a2, a3, a4, a5, a6⟩ := caughtGo_sem hl hh m (s + 1) e y hK h (fun ho => by
          have o := h1 ho
          refine ⟨by omega, ?_⟩
          obtain ⟨c, hcm, e1, e2⟩ := wroteL_mem hw
          have w := hh c hcm
          have ht : touchK k e.q = false := by
            unfold touchK
            rw [← hK]
            exact bool_ne fun hb => hc ⟨ho, hb⟩
          refine o.2.next hl ?_ ht o.1
          rw [← e1, ← e2]
          exact w) h2
        exact ⟨a1, a2, a3, a4, fun ho => by have := a5 ho; rw [Nat.add_right_comm] at this; exact this, a6⟩
end Go.Proofs.Ytpfcacedpkaihab

/- What nodes remember is right, whatever is called (mathematics alone). -/
namespace Go.Proofs.Ytpfcacedpkaihab
open Go.RowKit

structure NodeP.Sem (p : NodeP) (l : List PastE) (rm : Int) : Prop where
  hs : ∀ c ∈ p.hists, Wrote l c
  ws : ∀ c ∈ p.waits, Wrote l c
  fs : ∀ c ∈ p.flight, Wrote l c
  es : ∀ x ∈ p.ents, EntS l x.e p.horizon
  two : (p.ents.map fun x => (x.e.q, x.e.fr)).Nodup
  rm : p.room = rm

theorem NodeP.Sem.snoc {p : NodeP} {l : List PastE} {rm : Int} {n : Nat} (h : p.Sem l rm) (g : p.Good l.length n) (x : PastE) : p.Sem (l ++ [x]) rm :=
  ⟨fun c hc => (h.hs c hc).snoc x, fun c hc => (h.ws c hc).snoc x, fun c hc => (h.fs c hc).snoc x, fun y hy => (h.es y hy).snoc x ((g.es y hy).lastE g.hz), h.two, h.rm⟩
theorem NodeP.Sem.remove {p : NodeP} {l : List PastE} {rm : Int} (h : p.Sem l rm) (i : Nat) : (p.remove i).Sem l rm :=
  ⟨h.hs, h.ws, h.fs, fun x hx => h.es x (List.mem_of_mem_eraseIdx hx), h.two.sublist (List.Sublist.map _ (List.eraseIdx_sublist _ _)), h.rm⟩
theorem NodeP.Sem.take {p : NodeP} {l : List PastE} {rm : Int} (h : p.Sem l rm) (i : Nat) : (p.take i).Sem l rm := ⟨h.hs, h.ws, fun c hc => h.fs c (List.mem_of_mem_eraseIdx hc), h.es, h.two, h.rm⟩
theorem mem_snoc {α : Type} {l : List α} {a x : α} (h : x ∈ l ++ [a]) : x ∈ l ∨ x = a := by
  rw [List.mem_append, List.mem_singleton] at h; exact h
theorem NodeP.Sem.copy {p : NodeP} {l : List PastE} {rm : Int} (h : p.Sem l rm) {i : Nat} {c : Nat × Int} (hc : p.flight[i]? = some c) : (p.copy c).Sem l rm :=
  ⟨h.hs, h.ws, fun y hy => by
    rcases mem_snoc hy with hy | rfl
    · exact h.fs y hy
    · exact h.fs y (List.mem_of_getElem? hc), h.es, h.two, h.rm⟩
theorem NodeP.Sem.bare {p : NodeP} {l : List PastE} {rm : Int} (h : p.Sem l rm) (u : Bool) (z : Nat) (m : List (Nat × Int)) (hm : ∀ c ∈ m, Wrote l c) : (⟨u, p.room, z, [], [], [], 0, m⟩ : NodeP).Sem l rm :=
  ⟨fun c hc => (by cases hc), fun c hc => (by cases hc), hm, fun c hc => (by cases hc), List.nodup_nil, h.rm⟩
theorem NodeP.Sem.rise {p : NodeP} {l : List PastE} {rm : Int} (h : p.Sem l rm) (z : Nat) : (p.rise z).Sem l rm := h.bare true z p.flight h.fs
theorem NodeP.Sem.fell {p : NodeP} {l : List PastE} {rm : Int} (h : p.Sem l rm) : p.fall.clear.Sem l rm := h.bare false 0 [] (fun c hc => (by cases hc))
theorem NodeP.Sem.age {p : NodeP} {l : List PastE} {rm : Int} (h : p.Sem l rm) (s : Nat) : (p.age s).Sem l rm := ⟨h.hs, h.ws, fun c hc => h.fs c (List.mem_filter.mp hc).1, h.es, h.two, h.rm⟩
theorem NodeP.Sem.send {p : NodeP} {l : List PastE} {rm : Int} (h : p.Sem l rm) (c : Nat × Int) (hc : Wrote l c) : (p.send c).Sem l rm := by
  unfold NodeP.send
  split
  · exact h
  · exact ⟨h.hs, h.ws, fun y hy => by
      rcases mem_snoc hy with hy | rfl
      · exact h.fs y hy
      · exact hc, h.es, h.two, h.rm⟩
theorem NodeP.Sem.tell {p : NodeP} {l : List PastE} {rm : Int} (h : p.Sem l rm) (t : Nat) (K : Int) (hc : Wrote l (t, K)) : (p.tell t K).Sem l rm := by
  unfold NodeP.tell
  split
  · exact (h.age t).fell.send _ hc
  · exact (h.age t).send _ hc
theorem mem_recall {l : List (Nat × Int)} {c x : Nat × Int} (h : x ∈ recallL l c) : x ∈ l ∨ x = c := by
  unfold recallL at h
  split at h
  · exact mem_snoc h
  · exact mem_snoc (List.mem_of_mem_tail h)
theorem hearE_fr (t : Nat) (K : Int) (x : HeldE) : (hearE t K x).e.fr = x.e.fr := by unfold hearE; split <;> rfl
theorem NodeP.Sem.hearOne {p : NodeP} {l : List PastE} {rm : Int} (hl : PastOk l) (h : p.Sem l rm) (K : Int) (hw : Wrote l (p.horizon + 1, K)) : (p.hearOne K).Sem l rm := by
  refine ⟨fun c hc => ?_, h.ws, h.fs, fun x hx => ?_, ?_, h.rm⟩
  · rcases mem_recall hc with hc | rfl
    · exact h.hs c hc
    · exact hw
  · simp only [NodeP.hearOne, List.mem_map] at hx
    obtain ⟨y, hy, rfl⟩ := hx
    exact (h.es y hy).hear hl hw
  · show ((p.ents.map (hearE (p.horizon + 1) K)).map fun x => (x.e.q, x.e.fr)).Nodup
    rw [List.map_map]
    have e : ((fun x : HeldE => (x.e.q, x.e.fr)) ∘ hearE (p.horizon + 1) K) = fun x : HeldE => (x.e.q, x.e.fr) := by
      funext x
      simp only [Function.comp_apply, hearE_q, hearE_fr]
    rw [e]
    exact h.two
theorem NodeP.Sem.dropNext {p : NodeP} {l : List PastE} {rm : Int} (h : p.Sem l rm) : p.dropNext.Sem l rm := ⟨h.hs, fun c hc => h.ws c (List.mem_filter.mp hc).1, h.fs, h.es, h.two, h.rm⟩
theorem keysAt_none {t : Nat} : ∀ (l : List (Nat × Int)) (K : Int), waitsB l t = false → l.foldl (fun K c => if c.1 = t then c.2 else K) K = K
  | [], _, _ => rfl
  | c :: r, K, h => by
    unfold waitsB at h
    rw [List.any_cons, Bool.or_eq_false_iff] at h
    have hne : ¬ c.1 = t := by simpa using h.1
    rw [List.foldl_cons, if_neg hne]
    exact keysAt_none r K h.2
theorem keysAt_mem {t : Nat} : ∀ (l : List (Nat × Int)) (K : Int), waitsB l t = true → ∃ c ∈ l, c.1 = t ∧ l.foldl (fun K c => if c.1 = t then c.2 else K) K = c.2
  | [], _, h => by cases h
  | c :: r, K, h => by
    rw [List.foldl_cons]
    by_cases hr : waitsB r t = true
    · obtain ⟨d, hd, e1, e2⟩ := keysAt_mem r (if c.1 = t then c.2 else K) hr
      exact ⟨d, List.mem_cons_of_mem _ hd, e1, e2⟩
    · have hr' := bool_ne hr
      have hc : c.1 = t := by
        unfold waitsB at h hr'
        rw [List.any_cons, hr', Bool.or_false] at h
        simpa using h
      exact ⟨c, List.mem_cons_self .., hc, by rw [keysAt_none r _ hr', if_pos hc]⟩
theorem NodeP.Sem.go {l : List PastE} {rm : Int} (hl : PastOk l) : ∀ (m : Nat) (p : NodeP), p.Sem l rm → (NodeP.hearGo m p).Sem l rm
  | 0, p, h => h
  | m + 1, p, h => by
    unfold NodeP.hearGo
    split
    · rename_i hw
      refine NodeP.Sem.go hl m _ (h.dropNext.hearOne hl _ ?_)
      obtain ⟨c, hc, e1, e2⟩ := keysAt_mem p.waits 0 hw
      have e3 : keysAt p.waits (p.horizon + 1) = c.2 := e2
      rw [e3]
      have := h.ws c hc
      show Wrote l (p.horizon + 1, c.2)
      rw [← e1]
      exact this
    · exact h.dropNext
theorem NodeP.Sem.hear {p : NodeP} {l : List PastE} {rm : Int} (hl : PastOk l) (h : p.Sem l rm) (K : Int) (hw : Wrote l (p.horizon + 1, K)) : (p.hear K).Sem l rm := NodeP.Sem.go hl 4 _ (h.hearOne hl K hw)
theorem NodeP.Sem.arrive {p : NodeP} {l : List PastE} {rm : Int} (hl : PastOk l) (h : p.Sem l rm) (t : Nat) (K : Int) (hw : Wrote l (t, K)) : (p.arrive t K).Sem l rm := by
  unfold NodeP.arrive
  split
  · exact h
  · split
    · rename_i e
      exact h.hear hl K (by rw [← e]; exact hw)
    · split
      · exact h
      · exact ⟨h.hs, fun y hy => by
          rcases mem_snoc hy with hy | rfl
          · exact h.ws y hy
          · exact hw, h.fs, h.es, h.two, h.rm⟩
theorem map_set_same {α β : Type} {f : α → β} {l : List α} {j : Nat} {x y : α} (hx : l[j]? = some x) (h : f y = f x) : (l.set j y).map f = l.map f := by
  rw [List.map_set, h]
  exact set_self' (by rw [List.getElem?_map, hx]; rfl)
theorem NodeP.Sem.use {p : NodeP} {l : List PastE} {rm : Int} {j : Nat} {x : HeldE} (h : p.Sem l rm) (hx : p.ents[j]? = some x) : (p.use j x).Sem l rm := by
  refine ⟨h.hs, h.ws, h.fs, fun y hy => ?_, ?_, h.rm⟩
  · rcases List.mem_or_eq_of_mem_set hy with hy | rfl
    · exact h.es y hy
    · exact h.es x (List.mem_of_getElem? hx)
  · show ((p.ents.set j _).map fun x : HeldE => (x.e.q, x.e.fr)).Nodup
    rw [map_set_same (f := fun x : HeldE => (x.e.q, x.e.fr)) hx (by rfl)]
    exact h.two
theorem NodeP.Sem.merge {p : NodeP} {l : List PastE} {rm : Int} {j : Nat} {x : HeldE} {e : EntE} (h : p.Sem l rm) (hx : p.ents[j]? = some x) (he : EntS l e p.horizon) (hs : sameE x.e e) : (p.merge j x e).Sem l rm := by
  refine ⟨h.hs, h.ws, h.fs, fun y hy => ?_, ?_, h.rm⟩
  · rcases List.mem_or_eq_of_mem_set hy with hy | rfl
    · exact h.es y hy
    · exact (h.es x (List.mem_of_getElem? hx)).merged he hs
  · show ((p.ents.set j _).map fun x : HeldE => (x.e.q, x.e.fr)).Nodup
    rw [map_set_same (f := fun x : HeldE => (x.e.q, x.e.fr)) hx (by rfl)]
    exact h.two
theorem NodeP.Sem.lay0 {p : NodeP} {l : List PastE} {rm : Int} {e : EntE} (h : p.Sem l rm) (he : EntS l e p.horizon) (hn : ∀ x ∈ p.ents, ¬ sameE x.e e) : (p.lay0 e).Sem l rm := by
  refine ⟨h.hs, h.ws, h.fs, fun y hy => ?_, ?_, h.rm⟩
  · rcases mem_snoc hy with hy | rfl
    · exact h.es y hy
    · exact he
  · show ((p.ents ++ [(⟨e, p.uses + 1⟩ : HeldE)]).map fun x : HeldE => (x.e.q, x.e.fr)).Nodup
    rw [List.map_append, List.nodup_append]
    refine ⟨h.two, by simp, fun a ha b hb => ?_⟩
    obtain ⟨x, hx, rfl⟩ := List.mem_map.mp ha
    simp only [List.map_cons, List.map_nil, List.mem_singleton] at hb
    subst hb
    intro e1
    simp only [Prod.mk.injEq] at e1
    exact hn x hx e1
theorem NodeP.Sem.lay {p : NodeP} {l : List PastE} {rm : Int} {e : EntE} (h : p.Sem l rm) (he : EntS l e p.horizon) (hn : ∀ x ∈ p.ents, ¬ sameE x.e e) : (p.lay e).Sem l rm := by
  unfold NodeP.lay
  split
  · exact (h.remove _).lay0 he fun x hx => hn x (List.mem_of_mem_eraseIdx hx)
  · exact h.lay0 he hn
theorem NodeP.Sem.caught {p : NodeP} {l : List PastE} {rm : Int} {e y : EntE} (hl : PastOk l) (h : p.Sem l rm) (he : EntS l e 0) (hc : p.caught e = some y) : EntS l y p.horizon := by
  unfold NodeP.caught at hc
  split at hc
  · rename_i h1
    injection hc with hc
    subst hc
    refine ⟨he.op, he.cl, ?_⟩
    have hr := he.right
    by_cases ho : e.op = true
    · rw [lastE_op ho] at hr ⊢
      have hk : p.horizon ≤ e.kn := by
        rcases h1 with h1 | h1
        · rw [ho] at h1; cases h1
        · exact h1
      have e1 : max e.kn p.horizon = max e.kn 0 := by omega
      rw [e1]
      exact hr
    · have ho := bool_ne ho
      rw [lastE_cl ho] at hr ⊢
      exact hr
  · rename_i h1
    have hlt : e.kn < p.horizon := by have := mt Or.inr h1; omega
    have ho : e.op = true := by
      cases hh : e.op with
      | true => rfl
      | false => exact absurd (.inl hh) h1
    cases hg : NodeP.caughtGo p.hists (keysQ e.q) (p.horizon - e.kn) (e.kn + 1) e with
    | none => rw [hg] at hc; cases hc
    | some z =>
      rw [hg] at hc
      simp only [Option.map_some, Option.some.injEq] at hc
      have hr := he.right
      rw [lastE_op ho] at hr
      have ek : max e.kn 0 = e.kn := by omega
      rw [ek] at hr
      obtain ⟨a1, a2, a3, a4, a5, a6⟩ := caughtGo_sem hl h.hs _ _ e z rfl hg (fun _ => ⟨he.op ho, hr⟩) (fun hh => (by rw [ho] at hh; cases hh))
      have e5 : e.kn + (p.horizon - e.kn) = p.horizon := by omega
      rw [e5] at a5
      subst hc
      split
      · rename_i hz
        refine ⟨fun _ => ?_, fun hh => ?_, ?_⟩
        · have := he.op ho
          show z.fr ≤ p.horizon
          rw [a3]; omega
        · have hh' : z.op = false := hh
          rw [hz] at hh'; cases hh'
        · show RightS l z.q z.val z.fr (lastE { z with kn := p.horizon } p.horizon)
          rw [lastE_op (e := { z with kn := p.horizon }) hz, a1, a2, a3]
          have e6 : max p.horizon p.horizon = p.horizon := by omega
          show RightS l e.q e.val e.fr (max p.horizon p.horizon)
          rw [e6]
          exact a5 hz
      · rename_i hz
        have hz := bool_ne hz
        obtain ⟨b1, b2⟩ := a6 hz
        refine ⟨fun hh => (by rw [hz] at hh; cases hh), fun _ => (by rw [a3]; exact b1), ?_⟩
        rw [lastE_cl hz, a1, a2, a3]
        exact b2
theorem NodeP.Sem.store {p : NodeP} {l : List PastE} {rm : Int} {e : EntE} (hl : PastOk l) (h : p.Sem l rm) (he : EntS l e 0) : (p.store e).1.Sem l rm := by
  unfold NodeP.store
  split
  · exact h
  · cases hc : p.caught e with
    | none => exact h
    | some y =>
      dsimp only
      have hy := h.caught hl he hc
      cases hs : p.sameI y with
      | none =>
        refine h.lay hy fun x hx hsm => ?_
        unfold NodeP.sameI at hs
        rw [List.findIdx?_eq_none_iff] at hs
        have := hs x hx
        simp at this
        exact this hsm
      | some j =>
        dsimp only
        cases hx : p.ents[j]? with
        | none => exact h
        | some x =>
          dsimp only
          have hsm : sameE x.e y := by
            unfold NodeP.sameI at hs
            rw [List.findIdx?_eq_some_iff_getElem] at hs
            obtain ⟨hj, h1, _⟩ := hs
            rw [List.getElem?_eq_getElem hj] at hx
            injection hx with hx
            subst hx
            simpa using h1
          refine (h.merge hx hy hsm).use ?_
          show (p.ents.set j _)[j]? = _
          rw [List.getElem?_set_self (List.getElem?_eq_some_iff.mp hx).1]

/-! ### what the store answers -/
theorem fromN_no (l : List PastE) (K : Int) : ∀ (t s : Nat), fromN l K t < s → s ≤ t → touchB l K s = false
  | 0, s, h1, h2 => by simp [fromN] at h1; omega
  | t + 1, s, h1, h2 => by
    simp only [fromN] at h1
    split at h1
    · omega
    · rename_i hc
      by_cases e : s = t + 1
      · subst e; exact bool_ne hc
      · exact fromN_no l K t s h1 (by omega)
theorem tillN_none (l : List PastE) (K : Int) : ∀ (n i : Nat), tillN l K n = none → i < n → touchB l K (l.length - 1 - i) = false
  | 0, i, _, h => by omega
  | n + 1, i, h, hi => by
    simp only [tillN] at h
    split at h
    · cases h
    · rename_i hc
      by_cases e : i = n
      · subst e; exact bool_ne hc
      · exact tillN_none l K n i h (by omega)
theorem tillN_some (l : List PastE) (K : Int) : ∀ (n s i : Nat), tillN l K n = some s → i < n → l.length - 1 - i < s → touchB l K (l.length - 1 - i) = false
  | 0, s, i, _, h, _ => by omega
  | n + 1, s, i, h, hi, hs => by
    simp only [tillN] at h
    split at h
    · injection h with h
      omega
    · rename_i hc
      by_cases e : i = n
      · subst e; exact bool_ne hc
      · exact tillN_some l K n s i h (by omega) hs
theorem const_range {l : List PastE} {q : List UInt8} {ts : List (Nat × Nat)} {a b : Nat} (hl : PastOk l) (hr : Q.readL q = (0, ts)) (hb : b ≤ l.length) (h : ∀ s, a < s → s ≤ b → touchB (zeroP :: l) (keysL ts) s = false) : ∀ t, a ≤ t → t ≤ b → evalL (stAt l t) ts = evalL (stAt l a) ts := by
  intro t
  induction t with
  | zero => intro h1 _; have : a = 0 := by omega
            subst this; rfl
  | succ t ih =>
    intro h1 h2
    by_cases e : a = t + 1
    · subst e; rfl
    · rw [← ih (by omega) (by omega)]
      have hlt : t < l.length := by omega
      have hp : l[t]? = some l[t] := List.getElem?_eq_getElem hlt
      have ht := h (t + 1) (by omega) h2
      rw [touchB_some (p := l[t]) _ (by rw [List.getElem?_cons_succ]; exact hp)] at ht
      exact same_eval hl hp hr ht
theorem answer_sem {P : DP} {q : ByteArray} {ts : List (Nat × Nat)} {t : Nat} (hl : PastOk P.past) (hq : Q.readL q.data.toList = (0, ts)) (ht : t ≤ P.past.length) : EntS P.past (P.answer q ts t) 0 := by
  have ok := answer_ok (P := P) hq ht
  refine ⟨ok.opn, ok.cl, ts, hq, fun s h1 h2 => ?_⟩
  have hlen : (zeroP :: P.past).length - 1 = P.past.length := by simp
  have h1' : fromN (zeroP :: P.past) (keysL ts) t ≤ s := h1
  have hfr := fromN_le (zeroP :: P.past) (keysL ts) t
  show evalL (stAt P.past s) ts = evalL (stAt P.past t) ts
  by_cases hs : s ≤ t
  · have c := const_range (a := fromN (zeroP :: P.past) (keysL ts) t) (b := t) hl hq ht fun s' a b => fromN_no _ _ t s' a b
    rw [c s h1' hs, c t hfr (Nat.le_refl _)]
  · have key : ∀ s', t < s' → s' ≤ s → touchB (zeroP :: P.past) (keysL ts) s' = false := by
      intro s' a b
      cases htl : tillN (zeroP :: P.past) (keysL ts) ((zeroP :: P.past).length - 1 - t) with
      | none =>
        have e1 : (P.answer q ts t).op = true := by show (tillN _ _ _).isNone = true; rw [htl]; rfl
        rw [lastE_op e1] at h2
        have e2 : (P.answer q ts t).kn = P.past.length := hlen
        rw [e2] at h2
        have := tillN_none (zeroP :: P.past) (keysL ts) _ (P.past.length - s') htl (by omega)
        have e3 : (zeroP :: P.past).length - 1 - (P.past.length - s') = s' := by omega
        rw [e3] at this
        exact this
      | some u =>
        have e1 : (P.answer q ts t).op = false := by show (tillN _ _ _).isNone = false; rw [htl]; rfl
        have e2 : (P.answer q ts t).till = u := by show (tillN _ _ _).getD 0 = u; rw [htl]; rfl
        have hu := till_le _ htl
        rw [lastE_cl e1, e2] at h2
        have := tillN_some (zeroP :: P.past) (keysL ts) _ u (P.past.length - s') htl (by omega) (by omega)
        have e3 : (zeroP :: P.past).length - 1 - (P.past.length - s') = s' := by omega
        rw [e3] at this
        exact this
    have hsl : s ≤ P.past.length := Nat.le_trans h2 (ok.lastE (Nat.zero_le _))
    exact const_range hl hq hsl key s (by omega) (Nat.le_refl _)
end Go.Proofs.Ytpfcacedpkaihab

/- What readers are told is right in every state of their spans, whatever is called (mathematics alone). -/
namespace Go.Proofs.Ytpfcacedpkaihab
open Go.RowKit

structure DP.Sem (P : DP) (rm : Int) : Prop where
  past : PastOk P.past
  sites : ∀ s ∈ P.sites, s.Sem P.past rm
  puts : ∀ e ∈ P.puts, EntS P.past e 0

theorem DP.Sem.site {P : DP} {rm k : Int} {s : NodeP} (h : P.Sem rm) (hs : P.site? k = some s) : s.Sem P.past rm := by
  unfold DP.site? at hs
  split at hs
  · cases hs
  · exact h.sites s (List.mem_of_getElem? hs)
theorem DP.Sem.put {P : DP} {rm : Int} (h : P.Sem rm) (k : Int) {s : NodeP} (hs : s.Sem P.past rm) : (P.put k s).Sem rm :=
  ⟨h.past, fun x hx => by
    rcases List.mem_or_eq_of_mem_set hx with hx | rfl
    · exact h.sites x hx
    · exact hs, h.puts⟩
theorem DP.Sem.evict {P : DP} {rm : Int} (h : P.Sem rm) (k i : Int) : (P.evict k i).2.Sem rm := by
  unfold DP.evict
  cases hs : P.site? k with
  | none => exact h
  | some s =>
    dsimp only
    split
    · exact h
    · exact h.put k ((h.site hs).remove _)
theorem DP.Sem.lose {P : DP} {rm : Int} (h : P.Sem rm) (k i : Int) : (P.lose k i).2.Sem rm := by
  unfold DP.lose
  cases hs : P.site? k with
  | none => exact h
  | some s =>
    dsimp only
    split
    · exact h
    · exact h.put k ((h.site hs).take _)
theorem DP.Sem.copy {P : DP} {rm : Int} (h : P.Sem rm) (k i : Int) : (P.copy k i).2.Sem rm := by
  unfold DP.copy
  cases hs : P.site? k with
  | none => exact h
  | some s =>
    dsimp only
    split
    · exact h
    · cases hc : s.flight[i.toNat]? with
      | none => exact h
      | some c =>
        dsimp only
        split
        · exact h
        · exact h.put k ((h.site hs).copy hc)
theorem DP.Sem.deliver {P : DP} {rm : Int} (h : P.Sem rm) (k i : Int) : (P.deliver k i).2.Sem rm := by
  unfold DP.deliver
  cases hs : P.site? k with
  | none => exact h
  | some s =>
    dsimp only
    split
    · exact h
    · cases hc : s.flight[i.toNat]? with
      | none => exact h
      | some c => exact h.put k (((h.site hs).take _).arrive h.past _ _ ((h.site hs).fs c (List.mem_of_getElem? hc)))
theorem DP.Sem.restart {P : DP} {rm : Int} (h : P.Sem rm) (k : Int) : (P.restart k).2.Sem rm := by
  unfold DP.restart
  cases hs : P.site? k with
  | none => exact h
  | some s => exact h.put k (h.site hs).fell
theorem DP.Sem.askS {P : DP} {rm : Int} {s : NodeP} (h : P.Sem rm) (hs : s.Sem P.past rm) : (P.askS s).Sem P.past rm := by
  unfold DP.askS
  split
  · exact hs.rise _
  · split
    · rename_i hl
      refine hs.hear h.past _ ⟨s.horizon, P.past[s.horizon], rfl, List.getElem?_eq_getElem hl, ?_⟩
      show _ = P.keysOf s.horizon
      unfold DP.keysOf
      rw [List.getElem?_eq_getElem hl]; rfl
    · exact hs
theorem DP.Sem.ask {P : DP} {rm : Int} (h : P.Sem rm) (k : Int) : (P.ask k).2.2.Sem rm := by
  unfold DP.ask
  cases hs : P.site? k with
  | none => exact h
  | some s => exact h.put k (h.askS (h.site hs))
theorem DP.Sem.drop {P : DP} {rm : Int} (h : P.Sem rm) (i : Int) : (P.drop i).2.Sem rm := by
  unfold DP.drop
  split
  · exact h
  · exact ⟨h.past, h.sites, fun e he => h.puts e (List.mem_of_mem_eraseIdx he)⟩
theorem DP.Sem.store {P : DP} {rm : Int} (h : P.Sem rm) (i : Int) : (P.store i).2.2.Sem rm := by
  unfold DP.store
  split
  · exact h
  · cases he : P.puts[i.toNat]? with
    | none => exact h
    | some e =>
      dsimp only
      cases hs : P.sites[P.nodeN e.q]? with
      | none => exact h
      | some s =>
        dsimp only
        refine ⟨h.past, fun x hx => ?_, fun y hy => h.puts y (List.mem_of_mem_eraseIdx hy)⟩
        rcases List.mem_or_eq_of_mem_set hx with hx | rfl
        · exact h.sites x hx
        · exact (h.sites s (List.mem_of_getElem? hs)).store h.past (h.puts e (List.mem_of_getElem? he))
theorem DP.Sem.push {P : DP} {rm : Int} {n : Nat} (h : P.Sem rm) (g : P.Good n) (q : PastE) (hq : ∀ k, k < 8 → hasK q.keys k = false → q.st k = stAt P.past P.past.length k) : (P.push q).Sem rm := by
  refine ⟨h.past.snoc q hq, fun x hx => ?_, fun y hy => (h.puts y hy).snoc q ((g.puts y hy).lastE (Nat.zero_le _))⟩
  obtain ⟨s, hs, rfl⟩ := List.mem_map.mp hx
  exact ((h.sites s hs).snoc (g.sites s hs) q).tell _ _ ⟨P.past.length, q, rfl, by simp, rfl⟩
theorem DP.Sem.hit {P : DP} {rm : Int} {j k i : Nat} {s : NodeP} {x : HeldE} (h : P.Sem rm) (hs : P.sites[k]? = some s) (hx : s.ents[i]? = some x) : (P.hit j k i s x).Sem rm := by
  refine ⟨h.past, fun y hy => ?_, h.puts⟩
  rcases List.mem_or_eq_of_mem_set hy with hy | rfl
  · exact h.sites y hy
  · exact (h.sites s (List.mem_of_getElem? hs)).use hx
theorem DP.Sem.miss {P : DP} {rm : Int} {j : Nat} {e : EntE} (h : P.Sem rm) (he : EntS P.past e 0) : (P.miss j e).Sem rm := by
  refine ⟨h.past, h.sites, fun y hy => ?_⟩
  have hy' : y ∈ (if P.puts.length < 10 then P.puts ++ [e] else P.puts) := hy
  split at hy'
  · rcases mem_snoc hy' with hy' | rfl
    · exact h.puts y hy'
    · exact he
  · exact h.puts y hy'

/-- what the laws Moment and True lean on. -/
structure SemI (Q : KQ) (P : DP) : Prop where
  sem : P.Sem Q.room
  told : ∀ (r j : Nat) (x : KR), Q.rds[r]? = some x → j < 6 → (P.seats j).reads = true → (P.seats j).num = (r : Int) → ∀ a ∈ x.told, RightS P.past a.1 a.2 (P.seats j).lo (P.seats j).hi

theorem SemI.nodes {Q : KQ} {P P' : DP} (h : SemI Q P) (e : P.NodesOnly P') (hs : P'.Sem Q.room) : SemI Q P' := by
  refine ⟨hs, fun r j x h1 h2 h3 h4 a ha => ?_⟩
  obtain ⟨e1, e2, e3, e4⟩ := e
  rw [e3] at h3 h4 ⊢
  rw [e1]
  exact h.told r j x h1 h2 h3 h4 a ha
theorem SemI.stays : Stays SemI := by
  intro Q Q' P P' n hk h hs
  have cut_told : ∀ (r j : Nat) (rd : KR) (f g : Nat) (z : ByteArray × Int), Q.rds[r]? = some rd → j < 6 → (P.seats j).reads = true → (P.seats j).num = (r : Int) → RightS P.past z.1 z.2 (max (P.seats j).lo f) (min (P.seats j).hi g) →
      ∀ (k i : Nat) (x : KR), (Q.rds.set r { rd with told := rd.told ++ [z] })[k]? = some x → i < 6 → (putSeat P.seats j ((P.seats j).cut f g) i).reads = true → (putSeat P.seats j ((P.seats j).cut f g) i).num = (k : Int) → ∀ a ∈ x.told, RightS P.past a.1 a.2 (putSeat P.seats j ((P.seats j).cut f g) i).lo (putSeat P.seats j ((P.seats j).cut f g) i).hi := by
    intro r j rd f g z hrd hj hjr hjn hz k i x hx hi hir hin a ha
    by_cases eij : i = j
    · subst eij
      rw [putSeat_self] at hir hin ⊢
      have hin' : (P.seats i).num = (k : Int) := hin
      have hkr : k = r := by omega
      subst hkr
      rw [List.getElem?_set_self (List.getElem?_eq_some_iff.mp hrd).1] at hx
      injection hx with hx
      subst hx
      rcases mem_snoc ha with ha | rfl
      · refine (h.told k i rd hrd hi hjr hjn a ha).sub ?_ ?_
        · show _ ≤ max (P.seats i).lo f; omega
        · show min (P.seats i).hi g ≤ _; omega
      · exact hz
    · rw [putSeat_ne _ _ _ _ eij] at hir hin ⊢
      have hne : r ≠ k := by
        rintro rfl
        obtain ⟨l, hsim, _⟩ := hk.rdrs
        exact eij (hsim.one i j hi hj hir hjr (by rw [hin, hjn]))
      rw [List.getElem?_set_ne hne] at hx
      exact h.told k i x hx hi hir hin a ha
  cases hs with
  | same => exact h
  | commit ws h1 h2 =>
    refine ⟨h.sem.push hk.good _ (nextP_same P ws h1), fun r j x hx hj hjr hjn a ha => ?_⟩
    have o := h.told r j x hx hj hjr hjn a ha
    obtain ⟨l, hsim, _⟩ := hk.rdrs
    obtain ⟨k0, y, e1, e2, e3, e4, e5⟩ := hsim.seat j hj hjr
    have hsp := hsim.span y (List.mem_of_getElem? e2)
    exact o.snoc (by rw [← e5]; exact hsp.2) _
  | tick hc => exact ⟨⟨h.sem.past, h.sem.sites, h.sem.puts⟩, h.told⟩
  | start limit lo j h1 h2 h3 h4 h5 h6 =>
    refine ⟨⟨h.sem.past, h.sem.sites, h.sem.puts⟩, fun r i x hx hi hir hin a ha => ?_⟩
    obtain ⟨l, hsim, hl⟩ := hk.rdrs
    have hll : l.length = P.begun := hsim.begun.symm
    have hq : Q.rds.length = P.begun := hk.count.2
    by_cases e : r < Q.rds.length
    · rw [List.getElem?_append_left e] at hx
      by_cases eij : i = j
      · subst eij
        have e0 : putSeat P.seats i ⟨true, P.begun, lo, P.past.length⟩ i = ⟨true, P.begun, lo, P.past.length⟩ := putSeat_self _ _ _
        have hin' : (putSeat P.seats i ⟨true, P.begun, lo, P.past.length⟩ i).num = (r : Int) := hin
        rw [e0] at hin'
        have hin2 : ((P.begun : Nat) : Int) = (r : Int) := hin'
        omega
      · have e0 : putSeat P.seats j ⟨true, P.begun, lo, P.past.length⟩ i = P.seats i := putSeat_ne _ _ _ _ eij
        have hir' : (P.seats i).reads = true := by rw [← e0]; exact hir
        have hin' : (P.seats i).num = (r : Int) := by rw [← e0]; exact hin
        show RightS P.past a.1 a.2 (putSeat P.seats j ⟨true, P.begun, lo, P.past.length⟩ i).lo (putSeat P.seats j ⟨true, P.begun, lo, P.past.length⟩ i).hi
        rw [e0]
        exact h.told r i x hx hi hir' hin' a ha
    · have e2 : r = Q.rds.length := by
        have := (List.getElem?_eq_some_iff.mp hx).1
        simp at this; omega
      subst e2
      simp at hx
      subst hx
      cases ha
  | hit r j i q ts s x rd h1 h2 h3 h4 h5 h6 h7 h8 h9 =>
    have hm : meetsE s.horizon q (P.seats j).lo (P.seats j).hi x.e := ans_meets s q (P.seats j).lo (P.seats j).hi s.ents.length i x h8 h9
    refine ⟨h.sem.hit h7 h9, fun k i' x' hx hi hir hin a ha => ?_⟩
    have hz := ((h.sem.sites s (List.mem_of_getElem? h7)).es x (List.mem_of_getElem? h9)).right
    rw [hm.1] at hz
    exact cut_told r j rd x.e.fr (lastE x.e s.horizon) (q, x.e.val) h1 h3 h4 h5 (hz.sub (by omega) (by omega)) k i' x' hx hi hir hin a ha
  | miss r j q ts s rd h1 h2 h3 h4 h5 h6 h7 h8 =>
    obtain ⟨l, hsim, hl⟩ := hk.rdrs
    obtain ⟨k0, y, e1, e2, e3, e4, e5⟩ := hsim.seat j h3 h4
    have hsp := hsim.span y (List.mem_of_getElem? e2)
    have hhi : (P.seats j).hi ≤ P.past.length := by rw [← e5]; exact hsp.2
    have hA := answer_sem h.sem.past h6 hhi
    refine ⟨h.sem.miss hA, fun k i' x' hx hi hir hin a ha => ?_⟩
    obtain ⟨ts', r1, v1⟩ := hA.right
    have hfr := fromN_le (zeroP :: P.past) (keysL ts) (P.seats j).hi
    have c := const_range (a := fromN (zeroP :: P.past) (keysL ts) (P.seats j).hi) (b := (P.seats j).hi) h.sem.past h6 hhi fun s' a b => fromN_no _ _ _ s' a b
    have hz : RightS P.past q (P.answer q ts (P.seats j).hi).val (P.answer q ts (P.seats j).hi).fr (P.seats j).hi := ⟨ts, h6, fun t g1 g2 => by
      show evalL (stAt P.past t) ts = evalL (stAt P.past (P.seats j).hi) ts
      rw [c t g1 g2, c (P.seats j).hi hfr (Nat.le_refl _)]⟩
    exact cut_told r j rd (P.answer q ts (P.seats j).hi).fr (P.seats j).hi (q, (P.answer q ts (P.seats j).hi).val) h1 h3 h4 h5 (hz.sub (by omega) (by omega)) k i' x' hx hi hir hin a ha
  | stop r j rd h1 h2 h3 h4 h5 =>
    refine ⟨⟨h.sem.past, h.sem.sites, h.sem.puts⟩, fun k i x' hx hi hir hin a ha => ?_⟩
    by_cases eij : i = j
    · subst eij
      have e0 : putSeat P.seats i ⟨false, 0, 0, 0⟩ i = ⟨false, 0, 0, 0⟩ := putSeat_self _ _ _
      have hir' : (putSeat P.seats i ⟨false, 0, 0, 0⟩ i).reads = true := hir
      rw [e0] at hir'
      cases hir'
    · have e0 : putSeat P.seats j ⟨false, 0, 0, 0⟩ i = P.seats i := putSeat_ne _ _ _ _ eij
      have hir' : (P.seats i).reads = true := by rw [← e0]; exact hir
      have hin' : (P.seats i).num = (k : Int) := by rw [← e0]; exact hin
      have hne : r ≠ k := by
        rintro rfl
        obtain ⟨l, hsim, _⟩ := hk.rdrs
        exact eij (hsim.one i j hi h3 hir' h4 (by rw [hin', h5]))
      rw [List.getElem?_set_ne hne] at hx
      show RightS P.past a.1 a.2 (putSeat P.seats j ⟨false, 0, 0, 0⟩ i).lo (putSeat P.seats j ⟨false, 0, 0, 0⟩ i).hi
      rw [e0]
      exact h.told k i x' hx hi hir' hin' a ha
  | store i => exact h.nodes (nodes_store P i) (h.sem.store i)
  | drop i => exact h.nodes (nodes_drop P i) (h.sem.drop i)
  | evict k i => exact h.nodes (nodes_evict P k i) (h.sem.evict k i)
  | deliver k i => exact h.nodes (nodes_deliver P k i) (h.sem.deliver k i)
  | lose k i => exact h.nodes (nodes_lose P k i) (h.sem.lose k i)
  | copy k i => exact h.nodes (nodes_copy P k i) (h.sem.copy k i)
  | ask k => exact h.nodes (nodes_ask P k) (h.sem.ask k)
  | restart k => exact h.nodes (nodes_restart P k) (h.sem.restart k)
end Go.Proofs.Ytpfcacedpkaihab
