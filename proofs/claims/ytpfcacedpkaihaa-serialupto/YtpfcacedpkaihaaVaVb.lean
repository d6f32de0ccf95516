import Derived.Test.YtpfcacedpkaihaaKn
import Derived.Test.YtpfcacedpkaihaaKo
import Derived.Test.YtpfcacedpkaihaaOt
/- What holds between two steps of a keeping law's script. -/
namespace Go.Proofs.Ytpfcacedpkaihaa
open Go.RowKit

/-- a fact on what a law keeps and on the program's world that every step keeps. -/
def Stays (G : KQ → DP → Prop) : Prop := ∀ (Q Q' : KQ) (P P' : DP) (n : Nat), KI Q P n → G Q P → KStep Q P Q' P' → G Q' P'
def KJ (G : KQ → DP → Prop) (w0 : Fr) (pb j : Nat) (W : World) : Prop := ∃ K D, KInv w0 W pb j K D ∧ (∀ rd ∈ K.q.rds, rd.told.length ≤ j) ∧ G K.q D.pu

theorem KPost.next {G : KQ → DP → Prop} (hG : Stays G) {w0 : Fr} {pb n : Nat} {K : KS} {D : DevS} {W W' : World} (h : KInv w0 W pb n K D) (hT : ∀ rd ∈ K.q.rds, rd.told.length ≤ n) (hg : G K.q D.pu) (hp : KPost w0 pb n K D W') : KJ G w0 pb (n + 1) W' := by
  obtain ⟨K', D', hI, hs⟩ := hp
  exact ⟨K', D', hI, hs.told hT, hG _ _ _ _ n h.ki hg hs⟩
theorem KJ.is {G : KQ → DP → Prop} {w0 : Fr} {pb j : Nat} {W : World} (h : KJ G w0 pb j W) : w0.Is W := by
  obtain ⟨K, D, hI, _⟩ := h
  exact hI.core.below
theorem KJ.ok {G : KQ → DP → Prop} {w0 : Fr} {pb j : Nat} {W : World} (h : KJ G w0 pb j W) : W.cell? ⟨pb, 8, none⟩ = some (.bool true) := by
  obtain ⟨K, D, hI, _⟩ := h
  have := hI.core.keep.c8
  rw [hI.ok] at this
  exact this
theorem KEndPost.post {w0 : Fr} {pb n : Nat} {K : KS} {D : DevS} {raw : Int} {e : Ending} {w' : World} (h : KEndPost w0 pb n K D raw e w') : ∃ v, e = .returned v ∧ KPost w0 pb n K D w' := by
  rcases h with ⟨_, e1, K', D', hI, e2, e3⟩ | ⟨r, j, rd, K', D', h1, h2, h3, h4, h5, h6, e1, hI, e2, e3, _⟩
  · exact ⟨_, e1, K', D', hI, by rw [e2, e3]; exact .same _ _⟩
  · refine ⟨_, e1, K', D', hI, ?_⟩
    rw [e2, e3]
    have hq : K.q.rds[r]? = some rd.p := by show (K.rds.map KrE.p)[r]? = _; rw [List.getElem?_map, h2]; rfl
    exact .stop K.q D.pu r j rd.p hq h3 h4 h5 h6
theorem cell_is {w W : World} (h : (frOf w).Is W) {a : Addr} {v : Value} (hc : w.cell? a = some v) : W.cell? a = some v :=
  (World.cell?_of_block (h.block a.block (World.block_lt_of_cell? w _ hc))).trans hc
theorem StOk.is {w W : World} {o : StE} (h : StOk w o) (hi : (frOf w).Is W) : StOk W o :=
  ⟨fun j hj => by obtain ⟨bl, off, x, e, c, r⟩ := h.keys j hj; exact ⟨bl, off, x, e, cell_is hi c, r⟩, fun j hj => by obtain ⟨bl, off, x, e, c⟩ := h.vals j hj; exact ⟨bl, off, x, e, cell_is hi c⟩, h.klen, h.vlen, h.slen, h.b0, h.b1, h.c0, h.c1⟩
theorem Sk.at {w W : World} {ao : Option Addr} {n j : Nat} {os : List StE} (h : Sk w ao n os) (hi : (frOf w).Is W) (hj : j < os.length) : ∃ bl off, ao = some ⟨bl, off, none⟩ ∧ W.cell? ⟨bl, off + j * 6, none⟩ = some (.int .i64 os[j].kd) ∧ W.cell? ⟨bl, off + j * 6 + 1, none⟩ = some (.int .i64 os[j].b) ∧ W.cell? ⟨bl, off + j * 6 + 2, none⟩ = some (.int .i64 os[j].c) ∧ W.cell? ⟨bl, off + j * 6 + 3, none⟩ = some (.string os[j].s) ∧ W.cell? ⟨bl, off + j * 6 + 4, none⟩ = some (.slice os[j].ka os[j].kn os[j].kc) ∧ W.cell? ⟨bl, off + j * 6 + 5, none⟩ = some (.slice os[j].va os[j].vn os[j].vc) := by
  obtain ⟨bl, off, e, hb, hc⟩ := h.cell j hj
  have hh : ∀ f, f < 6 → ∀ u, (stepC os[j])[f]? = some u → W.cell? ⟨bl, off + j * 6 + f, none⟩ = some u := fun f hf u hu => cell_is hi (by rw [hc f hf]; exact hu)
  exact ⟨bl, off, e, hh 0 (by omega) _ rfl, hh 1 (by omega) _ rfl, hh 2 (by omega) _ rfl, hh 3 (by omega) _ rfl, hh 4 (by omega) _ rfl, hh 5 (by omega) _ rfl⟩

theorem jstep {G : KQ → DP → Prop} (hG : Stays G) (w0 : Fr) (w : World) (pb n : Nat) (o : StE) (h : KJ G w0 pb n w) (ho : StOk w o) (hn : n ≤ 1048576) :
    Calls Try.prog 16 #[.pointer (some ⟨pb, 0, none⟩), .agg #[.int .i64 o.kd, .int .i64 o.b, .int .i64 o.c, .string o.s, .slice o.ka o.kn o.kc, .slice o.va o.vn o.vc]] w fun e w' => e = .returned (.tuple #[]) ∧ KJ G w0 pb (n + 1) w' := by
  obtain ⟨K, D, hI, hT, hg⟩ := h
  exact (kstep w0 w pb n K D o hI ho hT hn).mono fun e w' hp => ⟨hp.1, KPost.next hG hI hT hg hp.2⟩
theorem jend {G : KQ → DP → Prop} (hG : Stays G) (w0 : Fr) (w : World) (pb n : Nat) (raw : Int) (h : KJ G w0 pb n w) (h1 : -9223372036854775808 ≤ raw) (h2 : raw ≤ 9223372036854775807) :
    Calls Try.prog 17 #[.pointer (some ⟨pb, 0, none⟩), .int .i64 raw] w fun e w' => ∃ v, e = .returned v ∧ KJ G w0 pb (n + 1) w' := by
  obtain ⟨K, D, hI, hT, hg⟩ := h
  exact (kend w0 w pb n K D raw hI h1 h2).mono fun e w' hp => by
    obtain ⟨v, e1, hp2⟩ := hp.post
    exact ⟨v, e1, KPost.next hG hI hT hg hp2⟩
theorem jbegan {G : KQ → DP → Prop} (w : World) (a b : Int) (ha0 : -9223372036854775808 ≤ a) (ha1 : a ≤ 9223372036854775807) (hb0 : -9223372036854775808 ≤ b) (hb1 : b ≤ 9223372036854775807) (hG : ∀ Q m r, Q.rds = [] → Q.room = r → KI Q (p0 m r) 0 → G Q (p0 m r)) :
    Calls Try.prog 15 #[.int .i64 a, .int .i64 b] w fun e w' => ∃ pb, e = .returned (.pointer (some ⟨pb, 0, none⟩)) ∧ KJ G (frOf w) pb 0 w' :=
  (kbegan w a b ha0 ha1 hb0 hb1).mono fun e w' hp => by
    obtain ⟨pb, m, r, K, D, e1, hI, e2, e3, _, _, _, _, e4⟩ := hp
    refine ⟨pb, e1, K, D, hI, (by rw [e3]; intro rd hrd; cases hrd), ?_⟩
    have hk := hI.ki
    rw [e2] at hk ⊢
    exact hG _ _ _ e3 e4 hk
def KLawPost (w : World) (e : Ending) (w' : World) : Prop := e = .returned (.bool true) ∧ Below w.heap.size w w'
theorem Fr.Is.below {w W : World} (h : (frOf w).Is W) : Below w.heap.size w W := ⟨h.os, h.tape, h.output, h.size, h.block⟩

end Go.Proofs.Ytpfcacedpkaihaa

/- The law Serial (package almanackeep), walked at every script. -/
namespace Go.Proofs.Ytpfcacedpkaihaa
open Go.RowKit

set_option maxRecDepth 100000 in
set_option maxHeartbeats 4000000 in
theorem serial_any (w : World) (a b : Int) (ao : Option Addr) (n cap : Nat) (os : List StE) (ha0 : -9223372036854775808 ≤ a) (ha1 : a ≤ 9223372036854775807) (hb0 : -9223372036854775808 ≤ b) (hb1 : b ≤ 9223372036854775807) (hsk : Sk w ao n os) (hn : n ≤ 1048576) (hok : ∀ o ∈ os, StOk w o) :
    Calls Try.prog 9 #[.int .i64 a, .int .i64 b, .slice ao n cap] w fun e w' => KLawPost w e w' := by
  have HBG : Hid (Calls Try.prog 15 #[.int .i64 a, .int .i64 b] w fun e w' => ∃ pb, e = .returned (.pointer (some ⟨pb, 0, none⟩)) ∧ KJ (fun _ _ => True) (frOf w) pb 0 w') := jbegan w a b ha0 ha1 hb0 hb1 fun _ _ _ _ _ _ => trivial
  have HSK : Hid (Sk w ao n os ∧ ∀ o ∈ os, StOk w o) := ⟨hsk, hok⟩
  have hG : Stays fun _ _ => True := fun _ _ _ _ _ _ _ _ => trivial
  have HST : Hid (∀ (W : World) (pb j : Nat) (o : StE), KJ (fun _ _ => True) (frOf w) pb j W → StOk w o → j ≤ 1048576 → Calls Try.prog 16 #[.pointer (some ⟨pb, 0, none⟩), .agg #[.int .i64 o.kd, .int .i64 o.b, .int .i64 o.c, .string o.s, .slice o.ka o.kn o.kc, .slice o.va o.vn o.vc]] W fun e w' => e = .returned (.tuple #[]) ∧ Hid (KJ (fun _ _ => True) (frOf w) pb (j + 1) w')) := fun W pb j o h ho hj => jstep hG (frOf w) W pb j o h (ho.is h.is) hj
  have HEN : Hid (∀ (W : World) (pb j : Nat) (raw : Int), KJ (fun _ _ => True) (frOf w) pb j W → -9223372036854775808 ≤ raw → raw ≤ 9223372036854775807 → Calls Try.prog 17 #[.pointer (some ⟨pb, 0, none⟩), .int .i64 raw] W fun e w' => ∃ v, e = .returned v ∧ Hid (KJ (fun _ _ => True) (frOf w) pb (j + 1) w')) := fun W pb j raw h h1 h2 => jend hG (frOf w) W pb j raw h h1 h2
  have hl := hsk.len
  clear hsk hok hG ha0 ha1 hb0 hb1
  go_enter Try.func9, Try.ntmps9
  go_wp2_with (go_at_call 15; refine HBG.out.mono ?_; rintro e w1 ⟨pb, rfl, hJ⟩; have HJ0 : Hid (KJ (fun _ _ => True) (frOf w) pb 0 w1) := hJ; clear hJ)
  go_loopw [8] (fun iv wr => ∃ j : Nat, j ≤ n ∧ iv = .int .i64 j ∧ Hid (KJ (fun _ _ => True) (frOf w) pb j wr)) (fun iv _ => n - (intOf iv).toNat)
  case atStart => exact ⟨0, Nat.zero_le _, rfl, HJ0.out⟩
  case round =>
    obtain ⟨j, hj, rfl, HJ⟩ := hrel
    have c8 := HJ.out.ok
    by_cases hlt : j < n
    · have hlt' : j < os.length := by omega
      obtain ⟨bl, off, hao, s0, s1, s2, s3, s4, s5⟩ := HSK.out.1.at HJ.out.is hlt'
      obtain ⟨o, ho⟩ : ∃ o, o = os[j] := ⟨_, rfl⟩
      have HO : Hid (StOk w o) := by rw [ho]; exact HSK.out.2 _ (List.getElem_mem hlt')
      have hob0 := HO.out.b0
      have hob1 := HO.out.b1
      rw [← ho] at s0 s1 s2 s3 s4 s5
      have hj0 : (0 : Int) ≤ (j : Int) := by omega
      have hj1 : (j : Int) < (n : Int) := by omega
      have hjm : j ≤ 1048576 := by omega
      subst hao
      clear ho
      by_cases k5 : o.kd = 5
      · have q5 : ((o.kd : Int) == 5) = true := beq_iff_eq.mpr k5
        clear k5
        go_wp2_with (go_at_call 17; refine (HEN.out _ pb j o.b HJ.out hob0 hob1).mono ?_; rintro e w2 ⟨v, rfl, HJ2⟩)
        go_roundw
        case rel => exact ⟨j + 1, by omega, by go_num, HJ2.out⟩
        case measure => simp [intOf]; omega
      · have q5 : ((o.kd : Int) == 5) = false := beq_eq_false_iff_ne.mpr k5
        clear k5
        go_wp2_with (go_at_call 16; refine (HST.out _ pb j o HJ.out HO.out hjm).mono ?_; rintro e w2 ⟨rfl, HJ2⟩)
        go_roundw
        case rel => exact ⟨j + 1, by omega, by go_num, HJ2.out⟩
        case measure => simp [intOf]; omega
    · have hje : j = n := by omega
      subst hje
      obtain ⟨K, D, hI, _⟩ := HJ.out
      obtain ⟨hs1, _⟩ := hI.ki.lastSt
      have hW := hI.walk (by omega)
      obtain ⟨m, hm⟩ : ∃ m, m = D.past.length := ⟨_, rfl⟩
      have hm7 : m ≤ 700 := by rw [hm]; exact hW.fit.pmax
      have hsl : K.states.length = m + 1 := by rw [hm]; exact hs1
      obtain ⟨sa, cs, hvs, _⟩ := hI.core.keep.states.form
      rw [hsl] at hvs
      have c0 := hI.core.keep.c0
      have c3 := hI.core.keep.c3
      rw [hvs] at c3
      have c5 := hI.core.keep.c5
      have hcl : K.clock = D.clock := hI.ki.clock
      rw [hcl] at c5
      have HNO : Hid (Calls Try.prog 23 #[.pointer (some ⟨K.xb, 0, none⟩)] wr fun e w' => e = .returned (.tuple #[.int .u64 (m : Int), .int .i64 D.clock]) ∧ wr = w') := by rw [hm]; exact dnow wr K.xb D hI.core.dev hW.fit
      have HNW : Hid (Calls Try.prog 20 #[.pointer (some ⟨pb, 0, none⟩)] wr fun e w' => e = .returned (.int .i64 (m : Int)) ∧ wr = w') := knewest_c wr pb sa m cs c3 (by omega)
      clear hI hs1 hW hm hsl hvs hcl
      go_wp2_with first
        | (go_at_call 23; refine HNO.out.mono ?_; rintro e w2 ⟨rfl, rfl⟩)
        | (go_at_call 20; refine HNW.out.mono ?_; rintro e w2 ⟨rfl, rfl⟩)
      go_ret
      exact ⟨rfl, HJ.out.is.below⟩

end Go.Proofs.Ytpfcacedpkaihaa
