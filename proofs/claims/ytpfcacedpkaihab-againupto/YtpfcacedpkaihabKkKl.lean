import Derived.Test.YtpfcacedpkaihabKj
/- The keeping laws' own functions (package almanackeep): read, whatever it asks. -/
namespace Go.Proofs.Ytpfcacedpkaihab
open Go.RowKit

theorem readL_bad {l : List UInt8} (h : (Q.readL l).1 ≠ 0) : Q.readL l = ((Q.readL l).1, []) := by
  unfold Q.readL at h ⊢
  cases hc : Q.cutL 0 l with
  | none =>
    dsimp only
    split <;> rfl
  | some ts =>
    rw [hc] at h
    dsimp only at h ⊢
    by_cases h40 : 40 < l.length
    · simp [h40]
    · by_cases h8 : 8 < ts.length
      · simp [h40, h8]
      · simp [h40, h8] at h
theorem ans_range (s : NodeP) (q : ByteArray) (lo hi : Nat) : ∀ n, s.ans q lo hi n < 0 ∨ ∃ (i : Nat) (x : HeldE), s.ans q lo hi n = (i : Int) ∧ s.ents[i]? = some x
  | 0 => .inl (by have : s.ans q lo hi 0 = -1 := rfl; omega)
  | n + 1 => by
    cases hn : s.ents[n]? with
    | none =>
      have e : s.ans q lo hi (n + 1) = s.ans q lo hi n := by
        show ansN true s.horizon q lo hi (s.ents.map (·.e)) (n + 1) = _
        rw [ansN, List.getElem?_map, hn]; rfl
      rw [e]
      exact ans_range s q lo hi n
    | some y =>
      rw [ans_next s q lo hi n y hn]
      split
      · exact .inr ⟨n, y, rfl, hn⟩
      · exact ans_range s q lo hi n

theorem kread (w0 : Fr) (w : World) (pb n : Nat) (K : KS) (D : DevS) (o : StE) (h : KInv w0 w pb n K D) (ho : StOk w o) (hT : ∀ rd ∈ K.q.rds, rd.told.length ≤ n) (hn : n ≤ 1048576) :
    Calls Try.prog 24 #[.pointer (some ⟨pb, 0, none⟩), .agg #[.int .i64 o.kd, .int .i64 o.b, .int .i64 o.c, .string o.s, .slice o.ka o.kn o.kc, .slice o.va o.vn o.vc]] w fun e w' => e = .returned (.tuple #[]) ∧ KPost w0 pb n K D w' := by
  have hsl := ho.slen
  have hmx : o.s.size ≤ maxLen := by unfold maxLen; omega
  cases hg : goneK K.rds (whichK K.rds.length o.b) with
  | true =>
    have hns := h.ki.noseat (goneK_true hg)
    exact kread_no w0 w pb n K D o 8 _ true h ho (by decide) hg rfl rfl fun W hW => dread_gone W K.xb D _ o.s (h.core.kept hW).dev hns
  | false =>
    obtain ⟨r, rd, hr, hrd, hre⟩ := goneK_false hg
    have hq : K.q.rds[r]? = some rd.p := by show (K.rds.map KrE.p)[r]? = _; rw [List.getElem?_map, hrd]; rfl
    obtain ⟨j, hj, hjr, hjn, hone, hlh, hhi⟩ := h.ki.seat hq hre
    by_cases hp : (Q.readL o.s.data.toList).1 = 0
    · have hp2 : Q.readL o.s.data.toList = (0, (Q.readL o.s.data.toList).2) := by rw [← hp]
      have hq40 : o.s.size ≤ 40 := by have := readL_len hp2; simpa using this
      have hW := h.walk (by omega)
      have hnn : D.pu.nodeN o.s < D.nodes.length := by
        have e : D.pu.sites.length = D.nodes.length := by show (D.nodes.map _).length = _; rw [List.length_map]
        have := Nat.mod_lt (sumB o.s.data.toList) (show 0 < D.pu.sites.length by rw [e]; exact hW.n1)
        show sumB o.s.data.toList % D.pu.sites.length < _
        omega
      obtain ⟨nd, hnd⟩ : ∃ nd, D.nodes[D.pu.nodeN o.s]? = some nd := ⟨_, List.getElem?_eq_getElem hnn⟩
      have hns : D.pu.sites[D.pu.nodeN o.s]? = some nd.p := by show (D.nodes.map _)[_]? = _; rw [List.getElem?_map, hnd]; rfl
      have htl : rd.told.length ≤ n := hT rd.p (List.mem_of_getElem? hq)
      rcases ans_range nd.p o.s (D.seats j).lo (D.seats j).hi nd.p.ents.length with ha | ⟨i, x, ha, hx⟩
      · refine kread_yes w0 w pb n r K D o rd (D.pu.answer o.s (Q.readL o.s.data.toList).2 (D.seats j).hi).val false h ho hr hrd hre htl hn hp fun W hk => (dread_miss W K.xb D (r : Int) o.s _ j nd (h.core.kept hk).dev hW hj hjr hjn hone hlh hhi hq40 hp2 hnd ha).mono fun e w' hG => ?_
        refine ⟨hG.1, ?_⟩
        obtain ⟨D', e2, hB⟩ := hG.2
        exact ⟨D', hB, by rw [e2]; exact .miss K.q D.pu r j o.s _ nd.p rd.p hq hre hj hjr hjn hp2 hns ha⟩
      · refine kread_yes w0 w pb n r K D o rd x.e.val true h ho hr hrd hre htl hn hp fun W hk => (dread_hit W K.xb D (r : Int) o.s _ j i nd x (h.core.kept hk).dev hW hj hjr hjn hone hlh hq40 hp2 hnd ha hx).mono fun e w' hG => ?_
        refine ⟨hG.1, ?_⟩
        obtain ⟨D', e2, hB⟩ := hG.2
        exact ⟨D', hB, by rw [e2]; exact .hit K.q D.pu r j i o.s _ nd.p x rd.p hq hre hj hjr hjn hp2 hns ha hx⟩
    · exact kread_no w0 w pb n K D o _ _ false h ho hp hg rfl rfl fun W hW => by
        rw [hr]
        exact dread_bad W K.xb D (r : Int) o.s _ j (h.core.kept hW).dev hj hjr hjn hmx hp (readL_bad hp)

end Go.Proofs.Ytpfcacedpkaihab

/- The keeping laws' own functions (package almanackeep): commit, walked. -/
namespace Go.Proofs.Ytpfcacedpkaihab
open Go.RowKit

theorem Try.infoState8 : (Try.prog.info? 64).map (fun i => (i.zero, i.size, i.bytes)) = some (some (.agg #[.int .i32 0, .int .i32 0, .int .i32 0, .int .i32 0, .int .i32 0, .int .i32 0, .int .i32 0, .int .i32 0]), 8, 32) := by kernel_rfl
theorem Try.infoTick1 : (Try.prog.info? 3).map (fun i => (i.zero, i.size, i.bytes)) = some (some (.int .i64 0), 1, 8) := by kernel_rfl
theorem oneCell_st (s : Nat → Int) : ∀ u ∈ stL s, u.oneCell' = true := by
  intro u hu; simp [stL] at hu; rcases hu with rfl | rfl | rfl | rfl | rfl | rfl | rfl | rfl <;> rfl
theorem oneCell_tk (t : Int) : ∀ u ∈ tickC t, u.oneCell' = true := by
  intro u hu; simp [tickC] at hu; subst hu; rfl
theorem news_st (w : World) (s : Nat → Int) (t : TypeId) : ∀ j u, (stL s)[j]? = some u → (w.alloc (.cells #[.int .i32 (s 0), .int .i32 (s 1), .int .i32 (s 2), .int .i32 (s 3), .int .i32 (s 4), .int .i32 (s 5), .int .i32 (s 6), .int .i32 (s 7)] t)).cell? ((⟨w.heap.size, 0, none⟩ : Addr).add j) = some u := by
  intro j u hj
  have e' : (⟨w.heap.size, 0, none⟩ : Addr).add j = ⟨w.heap.size, j, none⟩ := by cases j <;> simp [Addr.add]
  rw [e', World.cell?_alloc_at _ _ _ _ rfl]
  simpa [stL] using hj
theorem news_tk (w : World) (c : Int) (t : TypeId) : ∀ j u, (tickC c)[j]? = some u → (w.alloc (.cells #[.int .i64 c] t)).cell? ((⟨w.heap.size, 0, none⟩ : Addr).add j) = some u := by
  intro j u hj
  have e' : (⟨w.heap.size, 0, none⟩ : Addr).add j = ⟨w.heap.size, j, none⟩ := by cases j <;> simp [Addr.add]
  rw [e', World.cell?_alloc_at _ _ _ _ rfl]
  simpa [tickC] using hj

/-- one state more. -/
theorem Keep.pushS {w w' : World} {pb : Nat} {K : KS} (h : Keep w pb K) (s : Nat → Int) (v : Value) (hA : Appended w w' 64 8 K.vs v K.states.length 1 (K.states.flatMap stL) (stL s)) :
    KBecame w pb K (w'.setCell ⟨pb, 3, none⟩ v) { K with states := K.states ++ [s], vs := v } :=
  h.put 0 3 ⟨64, 8, K.vs, K.states.length, K.states.flatMap stL⟩ ⟨64, 8, v, (K.states ++ [s]).length, (K.states ++ [s]).flatMap stL⟩ rfl hA.kept (row_snoc hA.row) (fun x hx => hA.new x hx) rfl (by dsimp only; decide) rfl
/-- one tick more. -/
theorem Keep.pushT {w w' : World} {pb : Nat} {K : KS} (h : Keep w pb K) (c : Int) (v : Value) (hA : Appended w w' 3 1 K.vt v K.ticks.length 1 (K.ticks.flatMap tickC) (tickC c)) :
    KBecame w pb K (w'.setCell ⟨pb, 4, none⟩ v) { K with ticks := K.ticks ++ [c], vt := v } :=
  h.put 1 4 ⟨3, 1, K.vt, K.ticks.length, K.ticks.flatMap tickC⟩ ⟨3, 1, v, (K.ticks ++ [c]).length, (K.ticks ++ [c]).flatMap tickC⟩ rfl hA.kept (row_snoc hA.row) (fun x hx => hA.new x hx) rfl (by dsimp only; decide) rfl

/-- the state from which a commit starts. -/
def DP.lastSt (P : DP) : Nat → Int := if P.past.length = 0 then fun _ => 0 else (P.past[P.past.length - 1]?.map PastE.st).getD fun _ => 0
theorem KI.lastSt {Q : KQ} {P : DP} {n : Nat} (h : KI Q P n) : Q.states.length = P.past.length + 1 ∧ Q.ticks.length = P.past.length + 1 ∧ Q.states[P.past.length]? = some P.lastSt := by
  refine ⟨by rw [h.states]; simp, by rw [h.ticks]; simp, ?_⟩
  rw [h.states]
  unfold DP.lastSt
  cases hp : P.past.length with
  | zero => simp
  | succ k =>
    have hk : k < P.past.length := by omega
    simp [List.getElem?_eq_getElem hk]

end Go.Proofs.Ytpfcacedpkaihab
