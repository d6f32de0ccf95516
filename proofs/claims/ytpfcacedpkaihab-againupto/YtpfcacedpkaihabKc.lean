/- A keeping law at work: what it keeps beside the program's world; one step of a script (mathematics alone). -/
import Derived.Test.YtpfcacedpkaihabKb
namespace Go.Proofs.Ytpfcacedpkaihab
open Go.RowKit

/-- a world of before, and the blocks of it that stay as they are. -/
structure Fr where
  W : World
  X : Nat → Prop
  lt : ∀ i, X i → i < W.heap.size
structure Fr.Is (w0 : Fr) (w' : World) : Prop where
  os : w'.os = w0.W.os
  tape : w'.tape = w0.W.tape
  output : w'.output = w0.W.output
  size : w0.W.heap.size ≤ w'.heap.size
  block : ∀ i, w0.X i → w'.heap[i]? = w0.W.heap[i]?
structure KCore (w0 : Fr) (W : World) (pb : Nat) (K : KS) (D : DevS) : Prop where
  below : w0.Is W
  keep : Keep W pb K
  dev : Dev W K.xb D
  sep : ∀ k, K.fp pb k → ¬ D.fp K.xb k
  newK : ∀ k, K.fp pb k → ¬ w0.X k
  newD : ∀ k, D.fp K.xb k → ¬ w0.X k

theorem Fr.Is.next {w0 : Fr} {W W' : World} {F : Nat → Prop} (h : w0.Is W) (k : Kept F W W') (hF : ∀ i, F i → ¬ w0.X i) : w0.Is W' :=
  ⟨k.os.trans h.os, k.tape.trans h.tape, k.output.trans h.output, Nat.le_trans h.size k.size, fun i hi => (k.block i (Nat.lt_of_lt_of_le (w0.lt i hi) h.size) (fun hf => hF i hf hi)).trans (h.block i hi)⟩
theorem Fr.Is.new {w0 : Fr} {W : World} (h : w0.Is W) : ∀ k, W.heap.size ≤ k → ¬ w0.X k := fun k hk hx => by have := w0.lt k hx; have := h.size; omega
theorem KCore.new {w0 : Fr} {W : World} {pb : Nat} {K : KS} {D : DevS} (h : KCore w0 W pb K D) : ∀ k, W.heap.size ≤ k → ¬ w0.X k := h.below.new
theorem KCore.prog {w0 : Fr} {W W' : World} {pb : Nat} {K : KS} {D D' : DevS} (h : KCore w0 W pb K D) (hB : DBecame W K.xb D W' D') : KCore w0 W' pb K D' :=
  ⟨h.below.next hB.2.1 h.newD, h.keep.kept hB.2.1 (fun j hj hd => h.sep j hj hd), hB.1, fun k hk hd => (hB.2.2 k hd).elim (h.sep k hk) (fun hh => by have := h.keep.lt k hk; omega), h.newK, fun k hd => (hB.2.2 k hd).elim (h.newD k) (fun hh => h.new k hh)⟩
theorem KCore.turn {w0 : Fr} {W W' : World} {pb : Nat} {K K' : KS} {D : DevS} (h : KCore w0 W pb K D) (hB : KBecame W pb K W' K') (hx : K'.xb = K.xb) : KCore w0 W' pb K' D :=
  ⟨h.below.next hB.2.1 h.newK, hB.1, by rw [hx]; exact h.dev.kept hB.2.1 (fun j hd hk => h.sep j hk hd), fun k hk => by rw [hx]; exact fun hd => (hB.2.2 k hk).elim (fun hk' => h.sep k hk' hd) (fun hh => by have := h.dev.lt k hd; omega), fun k hk => (hB.2.2 k hk).elim (h.newK k) (fun hh => h.new k hh), by rw [hx]; exact h.newD⟩
theorem KCore.kept {w0 : Fr} {W W' : World} {pb : Nat} {K : KS} {D : DevS} (h : KCore w0 W pb K D) (k : Kept (fun _ => False) W W') : KCore w0 W' pb K D := h.prog (DBecame.of_kept h.dev k)

/-- a law's reader, as plain data. -/
structure KR where
  tick : Int
  limit : Int
  told : List (ByteArray × Int)
  ended : Bool
structure KQ where
  nodes : Int
  room : Int
  states : List (Nat → Int)
  ticks : List Int
  clock : Int
  rds : List KR
def KrE.p (r : KrE) : KR := ⟨r.tick, r.limit, r.told, r.ended⟩
def KS.q (K : KS) : KQ := ⟨K.nodes, K.room, K.states, K.ticks, K.clock, K.rds.map KrE.p⟩

/-- what a step of a script may do. -/
inductive KStep : KQ → DP → KQ → DP → Prop
  | same (Q : KQ) (P : DP) : KStep Q P Q P
  | commit (Q : KQ) (P : DP) (ws : List (Int × Int)) (h1 : ws.all keyOk = true) (h2 : P.past.length < 700) : KStep Q P { Q with states := Q.states ++ [(P.nextP ws).st], ticks := Q.ticks ++ [Q.clock] } (P.push (P.nextP ws))
  | tick (Q : KQ) (P : DP) (h : P.clock < 100000) : KStep Q P { Q with clock := Q.clock + 1 } { P with clock := P.clock + 1 }
  | start (Q : KQ) (P : DP) (limit : Int) (lo j : Nat) (h1 : 0 ≤ limit) (h2 : limit ≤ 100000) (h3 : First P.past (P.clock - limit) lo) (h4 : j < 6) (h5 : (P.seats j).reads = false) (h6 : P.begun < 200) : KStep Q P { Q with rds := Q.rds ++ [⟨Q.clock, limit, [], false⟩] } { P with seats := putSeat P.seats j ⟨true, P.begun, lo, P.past.length⟩, begun := P.begun + 1 }
  | hit (Q : KQ) (P : DP) (r j i : Nat) (q : ByteArray) (ts : List (Nat × Nat)) (s : NodeP) (x : HeldE) (rd : KR) (h1 : Q.rds[r]? = some rd) (h2 : rd.ended = false) (h3 : j < 6) (h4 : (P.seats j).reads = true) (h5 : (P.seats j).num = r) (h6 : Go.Proofs.Ytpfcacedpkaihab.Q.readL q.data.toList = (0, ts)) (h7 : P.sites[P.nodeN q]? = some s) (h8 : s.ans q (P.seats j).lo (P.seats j).hi s.ents.length = (i : Int)) (h9 : s.ents[i]? = some x) :
      KStep Q P { Q with rds := Q.rds.set r { rd with told := rd.told ++ [(q, x.e.val)] } } (P.hit j (P.nodeN q) i s x)
  | miss (Q : KQ) (P : DP) (r j : Nat) (q : ByteArray) (ts : List (Nat × Nat)) (s : NodeP) (rd : KR) (h1 : Q.rds[r]? = some rd) (h2 : rd.ended = false) (h3 : j < 6) (h4 : (P.seats j).reads = true) (h5 : (P.seats j).num = r) (h6 : Go.Proofs.Ytpfcacedpkaihab.Q.readL q.data.toList = (0, ts)) (h7 : P.sites[P.nodeN q]? = some s) (h8 : s.ans q (P.seats j).lo (P.seats j).hi s.ents.length < 0) :
      KStep Q P { Q with rds := Q.rds.set r { rd with told := rd.told ++ [(q, (P.answer q ts (P.seats j).hi).val)] } } (P.miss j (P.answer q ts (P.seats j).hi))
  | stop (Q : KQ) (P : DP) (r j : Nat) (rd : KR) (h1 : Q.rds[r]? = some rd) (h2 : rd.ended = false) (h3 : j < 6) (h4 : (P.seats j).reads = true) (h5 : (P.seats j).num = r) : KStep Q P { Q with rds := Q.rds.set r { rd with ended := true } } { P with seats := putSeat P.seats j ⟨false, 0, 0, 0⟩ }
  | store (Q : KQ) (P : DP) (i : Int) : KStep Q P Q (P.store i).2.2
  | drop (Q : KQ) (P : DP) (i : Int) : KStep Q P Q (P.drop i).2
  | evict (Q : KQ) (P : DP) (k i : Int) : KStep Q P Q (P.evict k i).2
  | deliver (Q : KQ) (P : DP) (k i : Int) : KStep Q P Q (P.deliver k i).2
  | lose (Q : KQ) (P : DP) (k i : Int) : KStep Q P Q (P.lose k i).2
  | copy (Q : KQ) (P : DP) (k i : Int) : KStep Q P Q (P.copy k i).2
  | ask (Q : KQ) (P : DP) (k : Int) : KStep Q P Q (P.ask k).2.2
  | restart (Q : KQ) (P : DP) (k : Int) : KStep Q P Q (P.restart k).2

/-- how many readers have not ended. -/
def openK (l : List KR) : Nat := (l.filter fun x => !x.ended).length
/-- what a law keeps is what the program's world says. -/
structure KI (Q : KQ) (P : DP) (n : Nat) : Prop where
  good : P.Good n
  nodes : Q.nodes = (P.sites.length : Int)
  states : Q.states = (fun _ => 0) :: P.past.map PastE.st
  ticks : Q.ticks = 0 :: P.past.map PastE.tick
  clock : Q.clock = P.clock
  rdrs : ∃ l : List RdrE, SimR P.begun P.seats l P.past.length ∧ l.map RdrE.ended = Q.rds.map KR.ended

theorem KI.count {Q : KQ} {P : DP} {n : Nat} (h : KI Q P n) : openK Q.rds = seatN P.seats ∧ Q.rds.length = P.begun := by
  obtain ⟨l, hs, he⟩ := h.rdrs
  have e1 : (l.map RdrE.ended).length = (Q.rds.map KR.ended).length := by rw [he]
  have e2 : ∀ (a : List RdrE) (b : List KR), a.map RdrE.ended = b.map KR.ended → openN a = openK b := by
    intro a
    induction a with
    | nil => intro b hb; cases b with
      | nil => rfl
      | cons y r => simp at hb
    | cons x r ih =>
      intro b hb
      cases b with
      | nil => simp at hb
      | cons y s =>
        simp only [List.map_cons, List.cons.injEq] at hb
        have := ih s hb.2
        unfold openN openK at this ⊢
        simp only [List.filter_cons, hb.1]
        split <;> simp [this]
  simp only [List.length_map] at e1
  exact ⟨by rw [← e2 l Q.rds he, hs.count], by rw [← e1, hs.begun]⟩

theorem ended_at {l : List RdrE} {m : List KR} (h : l.map RdrE.ended = m.map KR.ended) (r : Nat) : (l[r]?.map RdrE.ended) = (m[r]?.map KR.ended) := by
  have := congrArg (·[r]?) h
  simpa using this
/-- a reader that has not ended has a seat. -/
theorem KI.seat {Q : KQ} {P : DP} {n r : Nat} {rd : KR} (h : KI Q P n) (hr : Q.rds[r]? = some rd) (he : rd.ended = false) : ∃ j, j < 6 ∧ (P.seats j).reads = true ∧ (P.seats j).num = r ∧ (∀ i, i < 6 → (P.seats i).reads = true → (P.seats i).num = (r : Int) → i = j) ∧ (P.seats j).lo ≤ (P.seats j).hi ∧ (P.seats j).hi ≤ P.past.length := by
  obtain ⟨l, hs, hl⟩ := h.rdrs
  have h1 := ended_at hl r
  rw [hr] at h1
  cases hx : l[r]? with
  | none => rw [hx] at h1; simp at h1
  | some x =>
    rw [hx] at h1
    simp at h1
    rw [he] at h1
    obtain ⟨j, hj, hjr, hjn⟩ := hs.back r x hx h1
    obtain ⟨k, y, hk1, hk2, hk3, hk4, hk5⟩ := hs.seat j hj hjr
    have hkr : k = r := by rw [hjn] at hk1; omega
    subst hkr
    rw [hx] at hk2
    injection hk2 with hk2
    subst hk2
    have hsp := hs.span x (List.mem_of_getElem? hx)
    exact ⟨j, hj, hjr, hjn, fun i hi hir hin => hs.one i j hi hj hir hjr (by rw [hin, hjn]), by rw [← hk4, ← hk5]; exact hsp.1, by rw [← hk5]; exact hsp.2⟩
/-- one that has ended, or never was, has none. -/
theorem KI.noseat {Q : KQ} {P : DP} {n : Nat} {m : Int} (h : KI Q P n) (hg : m < 0 ∨ (Q.rds.length : Int) ≤ m ∨ ∃ (r : Nat) (rd : KR), m = r ∧ Q.rds[r]? = some rd ∧ rd.ended = true) : ∀ i, i < 6 → (P.seats i).reads = true → (P.seats i).num ≠ m := by
  intro i hi hr hn
  obtain ⟨l, hs, hl⟩ := h.rdrs
  obtain ⟨k, y, hk1, hk2, hk3, _⟩ := hs.seat i hi hr
  have hkl := (List.getElem?_eq_some_iff.mp hk2).1
  have hlen : l.length = Q.rds.length := by
    have := congrArg List.length hl
    simpa using this
  rcases hg with hg | hg | ⟨r, rd, e, hrd, hed⟩
  · omega
  · omega
  · have hkr : k = r := by omega
    subst hkr
    have h1 := ended_at hl k
    rw [hk2, hrd] at h1
    simp at h1
    rw [hk3, hed] at h1
    cases h1

structure KInv (w0 : Fr) (W : World) (pb n : Nat) (K : KS) (D : DevS) : Prop where
  core : KCore w0 W pb K D
  ki : KI K.q D.pu n
  open' : K.open' = (openK K.q.rds : Int)
  ok : K.ok = true

theorem KI.more {Q : KQ} {P : DP} {n n' : Nat} (h : KI Q P n) (hn : n ≤ n') : KI Q P n' := ⟨h.good.more hn, h.nodes, h.states, h.ticks, h.clock, h.rdrs⟩
theorem openK_set {l : List KR} {r : Nat} {a b : KR} (hr : l[r]? = some a) : openK (l.set r b) + (if a.ended then 0 else 1) = openK l + (if b.ended then 0 else 1) := by
  induction l generalizing r with
  | nil => simp at hr
  | cons x t ih =>
    match r with
    | 0 => simp at hr; subst hr; cases ha : x.ended <;> cases hb : b.ended <;> simp [openK, ha, hb]
    | r + 1 =>
      have := ih (r := r) (by simpa using hr)
      cases hx : x.ended <;> simp [openK, hx] at this ⊢ <;> omega
theorem openK_snoc (l : List KR) (b : KR) : openK (l ++ [b]) = openK l + (if b.ended then 0 else 1) := by
  unfold openK
  rw [List.filter_append, List.length_append]
  cases h : b.ended <;> simp [h]
theorem ended_set {l : List RdrE} {m : List KR} (h : l.map RdrE.ended = m.map KR.ended) (r : Nat) (x : RdrE) (y : KR) (he : x.ended = y.ended) : (l.set r x).map RdrE.ended = (m.set r y).map KR.ended := by
  rw [List.map_set, List.map_set, h, he]

/-- the entry that answers meets the span. -/
theorem ans_meets (s : NodeP) (q : ByteArray) (lo hi : Nat) : ∀ (n i : Nat) (x : HeldE), s.ans q lo hi n = (i : Int) → s.ents[i]? = some x → meetsE s.horizon q lo hi x.e
  | 0, i, x, h, _ => by
    have : s.ans q lo hi 0 = -1 := rfl
    omega
  | n + 1, i, x, h, hx => by
    cases hn : s.ents[n]? with
    | none =>
      have e : s.ans q lo hi (n + 1) = s.ans q lo hi n := by
        show ansN true s.horizon q lo hi (s.ents.map (·.e)) (n + 1) = _
        rw [ansN, List.getElem?_map, hn]; rfl
      rw [e] at h
      exact ans_meets s q lo hi n i x h hx
    | some y =>
      rw [ans_next s q lo hi n y hn] at h
      split at h
      · rename_i hc
        have : n = i := by omega
        subst this
        rw [hn] at hx
        injection hx with hx
        subst hx
        exact hc.1
      · exact ans_meets s q lo hi n i x h hx

/-- the steps keep what is said of both. -/
theorem KI.step {Q Q' : KQ} {P P' : DP} {n : Nat} (h : KI Q P n) (hs : KStep Q P Q' P') : KI Q' P' (n + 1) := by
  have site_len : ∀ (P1 : DP), P1.sites.length = P.sites.length → Q.nodes = (P1.sites.length : Int) := fun P1 e => by rw [e]; exact h.nodes
  have put_same : ∀ (k : Int) (s : NodeP), P.Good (n + 1) → (P.put k s).Good (n + 1) → KI Q (P.put k s) (n + 1) := fun k s _ hg => ⟨hg, by rw [h.nodes]; show _ = ((P.sites.set _ _).length : Int); rw [List.length_set], h.states, h.ticks, h.clock, h.rdrs⟩
  have gM := h.good.more (Nat.le_succ n)
  cases hs with
  | same => exact h.more (Nat.le_succ _)
  | commit ws h1 h2 =>
    obtain ⟨l, hsim, hl⟩ := h.rdrs
    refine ⟨(h.good.push _ h2).more (Nat.le_succ _), by rw [h.nodes]; show _ = ((P.sites.map _).length : Int); rw [List.length_map], ?_, ?_, h.clock, l, hsim.top (by show P.past.length ≤ (P.past ++ [_]).length; simp), hl⟩
    · show Q.states ++ [_] = _ :: (P.past ++ [_]).map PastE.st
      rw [h.states]; simp
    · show Q.ticks ++ [Q.clock] = _ :: (P.past ++ [P.nextP ws]).map PastE.tick
      have e : (P.nextP ws).tick = P.clock := writesP_tick _ ws
      rw [h.ticks, h.clock]; simp [e]
  | tick hc => exact ⟨⟨h.good.pmax, by have := h.good.clk0; show 0 ≤ P.clock + 1; omega, by show P.clock + 1 ≤ 100000; omega, h.good.bmax, h.good.qmax, h.good.s1, h.good.s3, fun s hs => (h.good.sites s hs).more (Nat.le_refl _) (Nat.le_succ _), h.good.puts⟩, h.nodes, h.states, h.ticks, by rw [h.clock], h.rdrs⟩
  | start limit lo j h1 h2 h3 h4 h5 h6 =>
    obtain ⟨l, hsim, hl⟩ := h.rdrs
    refine ⟨gM.seats _ _ h6, h.nodes, h.states, h.ticks, h.clock, _, hsim.beginS h4 h5 lo h3.1, ?_⟩
    show _ = (Q.rds ++ [_]).map KR.ended
    rw [List.map_append, List.map_append, hl]; rfl
  | hit r j i q ts s x rd h1 h2 h3 h4 h5 h6 h7 h8 h9 =>
    obtain ⟨l, hsim, hl⟩ := h.rdrs
    refine ⟨h.good.hit h7 h9, by rw [h.nodes]; show _ = ((P.sites.set _ _).length : Int); rw [List.length_set], h.states, h.ticks, h.clock, ?_⟩
    obtain ⟨k, y, e1, e2, e3, e4, e5⟩ := hsim.seat j h3 h4
    have hkr : k = r := by rw [h5] at e1; omega
    subst hkr
    have hm : meetsE s.horizon q (P.seats j).lo (P.seats j).hi x.e := by
      have := ans_meets s q (P.seats j).lo (P.seats j).hi s.ents.length i x h8 h9
      exact this
    refine ⟨_, hsim.cutS (f := x.e.fr) (g := lastE x.e s.horizon) h3 h4 h5 e2 (by rw [e4, e5]; exact hm.2) e4 e5 e3, ?_⟩
    have hye : y.ended = rd.ended := by rw [e3, h2]
    exact ended_set hl k _ _ hye
  | miss r j q ts s rd h1 h2 h3 h4 h5 h6 h7 h8 =>
    obtain ⟨l, hsim, hl⟩ := h.rdrs
    obtain ⟨k, y, e1, e2, e3, e4, e5⟩ := hsim.seat j h3 h4
    have hkr : k = r := by rw [h5] at e1; omega
    subst hkr
    have hsp := hsim.span y (List.mem_of_getElem? e2)
    refine ⟨(h.good.miss (answer_ok h6 (by rw [← e5]; exact hsp.2))).more (Nat.le_succ _), h.nodes, h.states, h.ticks, h.clock, ?_⟩
    have hfr := fromN_le (zeroP :: P.past) (keysL ts) (P.seats j).hi
    refine ⟨_, hsim.cutS (f := (P.answer q ts (P.seats j).hi).fr) (g := (P.seats j).hi) h3 h4 h5 e2 (by rw [e5, e4]; rw [e4, e5] at hsp; show max (P.seats j).lo (fromN _ _ _) ≤ min (P.seats j).hi (P.seats j).hi; omega) e4 e5 e3, ?_⟩
    have hye : y.ended = rd.ended := by rw [e3, h2]
    exact ended_set hl k _ _ hye
  | stop r j rd h1 h2 h3 h4 h5 =>
    obtain ⟨l, hsim, hl⟩ := h.rdrs
    obtain ⟨k, y, e1, e2, e3, e4, e5⟩ := hsim.seat j h3 h4
    have hkr : k = r := by rw [h5] at e1; omega
    subst hkr
    exact ⟨gM.seats _ _ h.good.bmax, h.nodes, h.states, h.ticks, h.clock, _, hsim.endS h3 h4 h5 e2 e3, ended_set hl k _ _ rfl⟩
  | store i =>
    refine ⟨h.good.store i, ?_, ?_, ?_, ?_, ?_⟩ <;> (unfold DP.store; split)
    all_goals first
      | exact h.nodes
      | exact h.states
      | exact h.ticks
      | exact h.clock
      | exact h.rdrs
      | (split
         · first | exact h.nodes | exact h.states | exact h.ticks | exact h.clock | exact h.rdrs
         · split
           · first | exact h.nodes | exact h.states | exact h.ticks | exact h.clock | exact h.rdrs
           · first | exact h.states | exact h.ticks | exact h.clock | exact h.rdrs | (rw [h.nodes]; show _ = ((P.sites.set _ _).length : Int); rw [List.length_set]))
  | drop i =>
    refine ⟨gM.drop i, ?_, ?_, ?_, ?_, ?_⟩ <;> (unfold DP.drop; split)
    all_goals first | exact h.nodes | exact h.states | exact h.ticks | exact h.clock | exact h.rdrs
  | evict k i =>
    have hg := gM.evict k i
    unfold DP.evict at hg ⊢
    cases hs : P.site? k with
    | none => exact h.more (Nat.le_succ _)
    | some s =>
      rw [hs] at hg
      dsimp only at hg ⊢
      split
      · exact h.more (Nat.le_succ _)
      · rename_i hc
        rw [if_neg hc] at hg
        exact put_same k _ gM hg
  | deliver k i =>
    have hg := gM.deliver k i
    unfold DP.deliver at hg ⊢
    cases hs : P.site? k with
    | none => exact h.more (Nat.le_succ _)
    | some s =>
      rw [hs] at hg
      dsimp only at hg ⊢
      split
      · exact h.more (Nat.le_succ _)
      · rename_i hc
        rw [if_neg hc] at hg
        cases hf : s.flight[i.toNat]? with
        | none => exact h.more (Nat.le_succ _)
        | some c =>
          rw [hf] at hg
          exact put_same k _ gM hg
  | lose k i =>
    have hg := gM.lose k i
    unfold DP.lose at hg ⊢
    cases hs : P.site? k with
    | none => exact h.more (Nat.le_succ _)
    | some s =>
      rw [hs] at hg
      dsimp only at hg ⊢
      split
      · exact h.more (Nat.le_succ _)
      · rename_i hc
        rw [if_neg hc] at hg
        exact put_same k _ gM hg
  | copy k i =>
    have hg := gM.copy k i
    unfold DP.copy at hg ⊢
    cases hs : P.site? k with
    | none => exact h.more (Nat.le_succ _)
    | some s =>
      rw [hs] at hg
      dsimp only at hg ⊢
      split
      · exact h.more (Nat.le_succ _)
      · rename_i hc
        rw [if_neg hc] at hg
        cases hf : s.flight[i.toNat]? with
        | none => exact h.more (Nat.le_succ _)
        | some c =>
          rw [hf] at hg
          dsimp only at hg ⊢
          split
          · exact h.more (Nat.le_succ _)
          · rename_i hc2
            rw [if_neg hc2] at hg
            exact put_same k _ gM hg
  | ask k =>
    have hg := gM.ask k
    unfold DP.ask at hg ⊢
    cases hs : P.site? k with
    | none => exact h.more (Nat.le_succ _)
    | some s =>
      rw [hs] at hg
      exact put_same k _ gM hg
  | restart k =>
    have hg := gM.restart k
    unfold DP.restart at hg ⊢
    cases hs : P.site? k with
    | none => exact h.more (Nat.le_succ _)
    | some s =>
      rw [hs] at hg
      exact put_same k _ gM hg

end Go.Proofs.Ytpfcacedpkaihab
