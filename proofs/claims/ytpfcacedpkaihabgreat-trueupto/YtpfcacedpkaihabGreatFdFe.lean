import Derived.Test.YtpfcacedpkaihabGreatFaFb
import Derived.Test.YtpfcacedpkaihabGreatQfFc
import Derived.Test.YtpfcacedpkaihabGreatVaVcMaMbMc
import Derived.Test.YtpfcacedpkaihabGreatDz
/- The law True (package almanackeep): knows, walked. -/
namespace Go.Proofs.YtpfcacedpkaihabGreat
open Go.RowKit

theorem waitN_nil {p : NodeP} (h : p.waits = []) (n : Nat) : waitN p n = [] := by
  unfold waitN
  rw [h]
  simp [waitsB]
theorem nodup_two {l : List HeldE} (h : (l.map fun x => (x.e.q, x.e.fr)).Nodup) (i j : Nat) (hi : i < l.length) (hj : j < i) : ¬ (l[j].e.q = l[i].e.q ∧ l[j].e.fr = l[i].e.fr) := by
  intro hh
  have hj' : j < l.length := by omega
  have hp := List.pairwise_iff_getElem.mp h j i (by rw [List.length_map]; exact hj') (by rw [List.length_map]; exact hi) hj
  apply hp
  rw [List.getElem_map, List.getElem_map, hh.1, hh.2]

set_option maxRecDepth 100000 in
set_option maxHeartbeats 4000000 in
theorem kknows (w0 : Fr) (w : World) (pb k n : Nat) (K : KS) (D : DevS) (nd : DNodeE) (h : KInv w0 w pb n K D) (hg : SemI K.q D.pu) (hnd : D.nodes[k]? = some nd) (hn : n < 9223372036854775807) :
    Calls Tryz.prog 7 #[.pointer (some ⟨pb, 0, none⟩), .int .i64 (k : Int)] w fun e w' => e = .returned (.bool true) ∧ Kept (fun _ => False) w w' := by
  have hmem : nd.p ∈ D.pu.sites := by show nd.p ∈ D.nodes.map (·.p); exact List.mem_map_of_mem (List.mem_of_getElem? hnd)
  have good := h.ki.good.sites nd.p hmem
  have sem := hg.sem.sites nd.p hmem
  have hm : D.past.length ≤ 700 := h.ki.good.pmax
  have wk := good.walk hm hn
  obtain ⟨p, hp⟩ : ∃ p, p = nd.p := ⟨_, rfl⟩
  have c0 := h.core.keep.c0
  have HLK : Hid (Calls Tryz.prog 21 #[.pointer (some ⟨K.xb, 0, none⟩), .int .i64 (k : Int)] w fun e w' => ∃ wa wc ea ec, e = .returned (.tuple #[.agg #[.bool p.up, .int .u64 (p.horizon : Int), .slice wa (waitN p 4).length wc, .slice ea p.ents.length ec], .int .i64 0]) ∧ Hid (LookOf p w w' wa ea wc ec)) := by rw [hp]; exact dlook w K.xb k D nd h.core.dev hnd wk
  rw [← hp] at good sem
  obtain ⟨sa, cs, hvs, _⟩ := h.core.keep.states.form
  have hsl : K.states.length = D.past.length + 1 := h.ki.lastSt.1
  rw [hsl] at hvs
  have HCE : Hid (∀ W, Kept (fun _ => False) w W → W.cell? ⟨pb, 2, none⟩ = some (.int .i64 K.room) ∧ W.cell? ⟨pb, 3, none⟩ = some (.slice sa (D.past.length + 1) cs)) := fun W hW => ⟨hW.hold h.core.keep.c2, by rw [← hvs]; exact hW.hold h.core.keep.c3⟩
  have HNW : Hid (∀ W, Kept (fun _ => False) w W → Calls Tryz.prog 22 #[.pointer (some ⟨pb, 0, none⟩)] W fun e w' => e = .returned (.int .i64 (D.past.length : Int)) ∧ w' = W) := fun W hW => (knewest_c W pb _ D.past.length cs (HCE.out W hW).2 (by omega)).mono fun e w' hp => ⟨hp.1, hp.2.symm⟩
  have HRI : Hid (∀ (W : World) (x : HeldE), Kept (fun _ => False) w W → x ∈ p.ents → Calls Tryz.prog 10 #[.pointer (some ⟨pb, 0, none⟩), .agg #[.string x.e.q, .int .i32 x.e.val, .int .u64 (x.e.fr : Int), .int .u64 (x.e.till : Int), .bool x.e.op, .int .u64 (x.e.kn : Int)], .int .u64 (p.horizon : Int)] W fun e' w' => e' = .returned (.bool true) ∧ Kept (fun _ => False) W w') := fun W x hW hx => by
    have ok := good.es x hx
    have h1 : x.e.kn ≤ D.past.length := ok.kn
    have h2 : x.e.till ≤ D.past.length := ok.till
    have h3 : p.horizon ≤ D.past.length := good.hz
    exact kright W pb p.horizon K D.past x.e (h.core.keep.kept hW (fun _ _ => id)) h.ki.states (sem.es x hx) (ok.lastE good.hz) hm (by omega) (by omega) (by omega)
  have hel : (p.ents.length : Int) ≤ K.room := by have := good.el; have h2 : p.room = K.room := sem.rm; omega
  have hel6 : p.ents.length ≤ 6 := by have := good.el; have := good.room6; omega
  have hwl := waitN_len p 4
  have hhz : p.horizon ≤ D.past.length := good.hz
  have HDN : Hid (p.up = false → p.ents = [] ∧ p.waits = [] ∧ p.horizon = 0) := good.dn
  have HTW : Hid (∀ i j (hi : i < p.ents.length) (hj : j < i), ¬ (p.ents[j].e.q = p.ents[i].e.q ∧ p.ents[j].e.fr = p.ents[i].e.fr)) := nodup_two sem.two
  have hwh := wrap_small (n := p.horizon) (by omega)
  have hd1 : decide (K.room < (p.ents.length : Int)) = false := decide_eq_false (by omega)
  have hd2 : decide ((4 : Int) < ((waitN p 4).length : Int)) = false := decide_eq_false (by omega)
  have hd2' : decide (4 < (waitN p 4).length) = false := decide_eq_false (by omega)
  have hd3 : decide ((D.past.length : Int) < (p.horizon : Int)) = false := decide_eq_false (by omega)
  have hd3' : decide (D.past.length < p.horizon) = false := decide_eq_false (by omega)
  clear h hg hnd hmem good sem wk hp hvs hsl
  go_enter Tryz.func7, Tryz.ntmps7
  go_wp2_with (go_at_call 21; refine HLK.out.mono ?_; rintro e w1 ⟨wa, wc, ea, ec, rfl, HL⟩)
  have kA : Kept (fun _ => False) w (w1.alloc (.cells #[.bool p.up, .int .u64 (p.horizon : Int), .slice wa (waitN p 4).length wc, .slice ea p.ents.length ec] 66)) := HL.out.1.kept.trans (Kept.alloc _ _ _) (fun _ => id) (fun _ _ => id)
  have bA : Blk (w1.alloc (.cells #[.bool p.up, .int .u64 (p.horizon : Int), .slice wa (waitN p 4).length wc, .slice ea p.ents.length ec] 66)) w1.heap.size 66 #[.bool p.up, .int .u64 (p.horizon : Int), .slice wa (waitN p 4).length wc, .slice ea p.ents.length ec] := Blk.new _ _ _
  have rA : Row (w1.alloc (.cells #[.bool p.up, .int .u64 (p.horizon : Int), .slice wa (waitN p 4).length wc, .slice ea p.ents.length ec] 66)) 53 6 (.slice ea p.ents.length ec) p.ents.length ((p.ents.map (·.e)).flatMap entC) := by
    have := HL.out.2.row.kept (Kept.alloc w1 (.cells #[.bool p.up, .int .u64 (p.horizon : Int), .slice wa (waitN p 4).length wc, .slice ea p.ents.length ec] 66) (fun _ => False)) (fun _ _ => id)
    rw [List.length_map] at this
    exact this
  generalize w1.alloc (.cells #[.bool p.up, .int .u64 (p.horizon : Int), .slice wa (waitN p 4).length wc, .slice ea p.ents.length ec] 66) = W at kA bA rA ⊢
  obtain ⟨d2, _⟩ := HCE.out W kA
  have HW : Hid (Kept (fun _ => False) w W ∧ Blk W w1.heap.size 66 #[.bool p.up, .int .u64 (p.horizon : Int), .slice wa (waitN p 4).length wc, .slice ea p.ents.length ec] ∧ Row W 53 6 (.slice ea p.ents.length ec) p.ents.length ((p.ents.map (·.e)).flatMap entC)) := ⟨kA, bA, rA⟩
  have b0 : W.cell? ⟨w1.heap.size, 0, none⟩ = some (.bool p.up) := bA.cell 0
  have b1 : W.cell? ⟨w1.heap.size, 1, none⟩ = some (.int .u64 (p.horizon : Int)) := bA.cell 1
  have b2 : W.cell? ⟨w1.heap.size, 2, none⟩ = some (.slice wa (waitN p 4).length wc) := bA.cell 2
  have b3 : W.cell? ⟨w1.heap.size, 3, none⟩ = some (.slice ea p.ents.length ec) := bA.cell 3
  clear kA bA rA HL c0 HLK
  generalize w1.heap.size = B at *
  obtain ⟨wl, hwl'⟩ : ∃ x, x = (waitN p 4).length := ⟨_, rfl⟩
  have HWL : Hid (wl = (waitN p 4).length) := hwl'
  rw [← hwl'] at b2 hd2 hd2' hwl HW
  clear hwl'
  go_quiet ((go_at_call 22; exact Calls.quiet_of_same (HNW.out _ (HW.out.1.drewN _))))
  cases hup : p.up with
  | false =>
    rw [hup] at b0
    obtain ⟨z1, z2, z3⟩ := HDN.out hup
    have y1 : p.ents.length = 0 := by rw [z1]; rfl
    have y2 : wl = 0 := by rw [HWL.out, waitN_nil z2]; rfl
    rw [y1] at b3
    rw [y2] at b2
    rw [z3] at b1
    clear z1 z2 z3
    go_wp2
    go_ret
    exact ⟨rfl, HW.out.1.drewN _⟩
  | true =>
    rw [hup] at b0
    clear b1 b2
    go_wp2
    have HEC : Hid (∀ W', Kept (fun _ => False) W W' → ∀ i (hi : i < p.ents.length), ∃ ge, ea = some ⟨ge, 0, none⟩ ∧ ∀ f u, (entC p.ents[i].e)[f]? = some u → W'.cell? ⟨ge, i * 6 + f, none⟩ = some u) := fun W' hW i hi => by
      have hr := HW.out.2.2.kept hW (fun _ _ => id)
      obtain ⟨ge, c', e1, e2, _⟩ := hr.block (by omega)
      injection e1 with e1 _ _
      refine ⟨ge, e1, fun f u hu => hr.cell e2 _ u ?_⟩
      have hf : f < 6 := (List.getElem?_eq_some_iff.mp hu).1
      rw [flat_at entC 6 (fun _ => rfl) (p.ents.map (·.e)) i (by rw [List.length_map]; exact hi) f hf, List.getElem_map]
      exact hu
    clear b3
    go_loopw [7] (fun iv wx => ∃ i : Nat, i ≤ p.ents.length ∧ iv = .int .i64 i ∧ Hid (Kept (fun _ => False) W wx)) (fun iv _ => p.ents.length - (intOf iv).toNat)
    case atStart => exact ⟨0, Nat.zero_le _, rfl, (Kept.refl _ _).drewN _⟩
    case round =>
      obtain ⟨i, hi, rfl, HKR⟩ := hrel
      have bR := HW.out.2.1.kept HKR.out id
      have e1 : wr.cell? ⟨B, 1, none⟩ = some (.int .u64 (p.horizon : Int)) := bR.cell 1
      have e3 : wr.cell? ⟨B, 3, none⟩ = some (.slice ea p.ents.length ec) := bR.cell 3
      clear bR
      by_cases hlt : i < p.ents.length
      · obtain ⟨ge, hea, hcell⟩ := HEC.out wr HKR.out i hlt
        obtain ⟨x, hx⟩ : ∃ x, x = p.ents[i] := ⟨_, rfl⟩
        have HXM : Hid (x ∈ p.ents ∧ ∀ h : i < p.ents.length, p.ents[i] = x) := ⟨by rw [hx]; exact List.getElem_mem hlt, fun _ => hx.symm⟩
        rw [← hx] at hcell
        have f0 : wr.cell? ⟨ge, i * 6, none⟩ = some (.string x.e.q) := hcell 0 _ rfl
        have f1 : wr.cell? ⟨ge, i * 6 + 1, none⟩ = some (.int .i32 x.e.val) := hcell 1 _ rfl
        have f2 : wr.cell? ⟨ge, i * 6 + 2, none⟩ = some (.int .u64 (x.e.fr : Int)) := hcell 2 _ rfl
        have f3 : wr.cell? ⟨ge, i * 6 + 3, none⟩ = some (.int .u64 (x.e.till : Int)) := hcell 3 _ rfl
        have f4 : wr.cell? ⟨ge, i * 6 + 4, none⟩ = some (.bool x.e.op) := hcell 4 _ rfl
        have f5 : wr.cell? ⟨ge, i * 6 + 5, none⟩ = some (.int .u64 (x.e.kn : Int)) := hcell 5 _ rfl
        have hi0 : (0 : Int) ≤ (i : Int) := by omega
        have hi1 : (i : Int) < (p.ents.length : Int) := by omega
        subst hea
        clear hx hcell
        have xe3 := drew_cell0 e3
        have xe1 := drew_cell0 e1
        have xf0 := drew_cell0 f0
        have xf1 := drew_cell0 f1
        have xf2 := drew_cell0 f2
        have xf3 := drew_cell0 f3
        have xf4 := drew_cell0 f4
        have xf5 := drew_cell0 f5
        go_wp2
        go_region_held3 (fun w' => w'.cell? ⟨B, 3, none⟩ = some (.slice (some ⟨ge, 0, none⟩) p.ents.length ec) ∧ w'.cell? ⟨B, 1, none⟩ = some (.int .u64 (p.horizon : Int)) ∧ w'.cell? ⟨ge, i * 6, none⟩ = some (.string x.e.q) ∧ w'.cell? ⟨ge, i * 6 + 1, none⟩ = some (.int .i32 x.e.val) ∧ w'.cell? ⟨ge, i * 6 + 2, none⟩ = some (.int .u64 (x.e.fr : Int)) ∧ w'.cell? ⟨ge, i * 6 + 3, none⟩ = some (.int .u64 (x.e.till : Int)) ∧ w'.cell? ⟨ge, i * 6 + 4, none⟩ = some (.bool x.e.op) ∧ w'.cell? ⟨ge, i * 6 + 5, none⟩ = some (.int .u64 (x.e.kn : Int))) (first | with_reducible exact ⟨ye3, ye1, yf0, yf1, yf2, yf3, yf4, yf5⟩ | with_reducible exact ⟨xe3, xe1, xf0, xf1, xf2, xf3, xf4, xf5⟩ | fail) ((go_at_call 10; refine (HRI.out _ x (HW.out.1.trans HKR.out.drew (fun _ => id) (fun _ _ => id)) HXM.out.1).mono ?_; rintro e w3 ⟨rfl, hk3⟩; have ye3 := hk3.hold xe3; have ye1 := hk3.hold xe1; have yf0 := hk3.hold xf0; have yf1 := hk3.hold xf1; have yf2 := hk3.hold xf2; have yf3 := hk3.hold xf3; have yf4 := hk3.hold xf4; have yf5 := hk3.hold xf5; have HK3 : Hid (Kept (fun _ => False) W w3) := HKR.out.drew.trans hk3 (fun _ => id) (fun _ _ => id); clear hk3))
        all_goals
          clear xe3 xe1 xf0 xf1 xf2 xf3 xf4 xf5 ye3 ye1 yf0 yf1 yf2 yf3 yf4 yf5 e3 e1 f0 f1 f2 f3 f4 f5
          go_wp2
          go_loopw [9] (fun jv wx => ∃ j : Nat, j ≤ i ∧ jv = .int .i64 j ∧ Hid (Kept (fun _ => False) W wx)) (fun jv _ => i - (intOf jv).toNat)
          case atStart => exact ⟨0, Nat.zero_le _, rfl, HK3.out⟩
          case round =>
            obtain ⟨j, hj, rfl, HKJ⟩ := hrel
            by_cases hjl : j < i
            · have hjn : j < p.ents.length := by omega
              have bR := HW.out.2.1.kept HKJ.out id
              have g3 : wr.cell? ⟨B, 3, none⟩ = some (.slice (some ⟨ge, 0, none⟩) p.ents.length ec) := bR.cell 3
              obtain ⟨ge1, hge1, ci⟩ := HEC.out wr HKJ.out i hlt
              obtain ⟨ge2, hge2, cj⟩ := HEC.out wr HKJ.out j hjn
              injection hge1 with hge1
              injection hge1 with hge1 _ _
              injection hge2 with hge2
              injection hge2 with hge2 _ _
              subst hge1
              subst hge2
              have hne := HTW.out i j hlt hjl
              obtain ⟨y, hy⟩ : ∃ y, y = p.ents[j] := ⟨_, rfl⟩
              rw [HXM.out.2 hlt] at ci hne
              rw [← hy] at cj hne
              have p0 : wr.cell? ⟨ge, i * 6, none⟩ = some (.string x.e.q) := ci 0 _ rfl
              have p2 : wr.cell? ⟨ge, i * 6 + 2, none⟩ = some (.int .u64 (x.e.fr : Int)) := ci 2 _ rfl
              have q0 : wr.cell? ⟨ge, j * 6, none⟩ = some (.string y.e.q) := cj 0 _ rfl
              have q2 : wr.cell? ⟨ge, j * 6 + 2, none⟩ = some (.int .u64 (y.e.fr : Int)) := cj 2 _ rfl
              have hj0 : (0 : Int) ≤ (j : Int) := by omega
              have hj1 : (j : Int) < (p.ents.length : Int) := by omega
              have hj2 : (j : Int) < (i : Int) := by omega
              clear hy ci cj bR
              go_wp2
              by_cases hq : y.e.q = x.e.q
              · have hqb : (y.e.q.toList == x.e.q.toList) = true := by rw [hq]; exact beq_self_eq_true _
                have hfr : ¬ y.e.fr = x.e.fr := fun hh => hne ⟨hq, hh⟩
                have hfb : ((y.e.fr : Int) == (x.e.fr : Int)) = false := beq_eq_false_iff_ne.mpr (by omega)
                clear hne hq
                go_quiet (fail)
                go_wp2
                go_roundw
                case rel => exact ⟨j + 1, by omega, by go_num, HKJ.out.drewN _⟩
                case measure => simp [intOf]; omega
              · have hqb : (y.e.q.toList == x.e.q.toList) = false := beq_eq_false_iff_ne.mpr fun h => hq (bytes_inj h)
                clear hne hq
                go_quiet (fail)
                go_wp2
                go_roundw
                case rel => exact ⟨j + 1, by omega, by go_num, HKJ.out.drewN _⟩
                case measure => simp [intOf]; omega
            · have hje : j = i := by omega
              subst hje
              go_wp2
              go_roundw
              case rel => exact ⟨j + 1, by omega, by go_num, HKJ.out⟩
              case measure => simp [intOf]; omega
      · have hie : i = p.ents.length := by omega
        subst hie
        go_wp2
        go_ret
        exact ⟨rfl, HW.out.1.trans HKR.out (fun _ => id) (fun _ _ => id)⟩

end Go.Proofs.YtpfcacedpkaihabGreat

/- The law True (package almanackeep), walked at every script. -/
namespace Go.Proofs.YtpfcacedpkaihabGreat
open Go.RowKit

theorem SemI.start1 {Q : KQ} {m : Nat} {r : Int} (h : Q.rds = []) (hr : Q.room = r) : SemI Q (p0 m r) := by
  refine ⟨⟨fun i p hp => by simp [p0] at hp, fun s hs => ?_, fun e he => by simp [p0] at he⟩, fun r j x hx => by rw [h] at hx; simp at hx⟩
  have hs' : s ∈ List.replicate m (newP r) := hs
  obtain rfl := List.eq_of_mem_replicate hs'
  exact ⟨fun c hc => (by cases hc), fun c hc => (by cases hc), fun c hc => (by cases hc), fun c hc => (by cases hc), List.nodup_nil, hr.symm⟩

set_option maxRecDepth 100000 in
set_option maxHeartbeats 4000000 in
theorem true_any (w : World) (a b : Int) (ao : Option Addr) (n cap : Nat) (os : List StE) (ha0 : -9223372036854775808 ≤ a) (ha1 : a ≤ 9223372036854775807) (hb0 : -9223372036854775808 ≤ b) (hb1 : b ≤ 9223372036854775807) (hsk : Sk w ao n os) (hn : n ≤ 1048576) (hok : ∀ o ∈ os, StOk w o) :
    Calls Tryz.prog 3 #[.int .i64 a, .int .i64 b, .slice ao n cap] w fun e w' => KLawPost w e w' := by
  have HBG : Hid (Calls Tryz.prog 4 #[.int .i64 a, .int .i64 b] w fun e w' => ∃ pb, e = .returned (.pointer (some ⟨pb, 0, none⟩)) ∧ KJ SemI (frOf w) pb 0 w') := jbegan w a b ha0 ha1 hb0 hb1 fun _ _ _ h1 h2 _ => SemI.start1 h1 h2
  have HSK : Hid (Sk w ao n os ∧ ∀ o ∈ os, StOk w o) := ⟨hsk, hok⟩
  have HST : Hid (∀ (W : World) (pb j : Nat) (o : StE), KJ SemI (frOf w) pb j W → StOk w o → j ≤ 1048576 → Calls Tryz.prog 6 #[.pointer (some ⟨pb, 0, none⟩), .agg #[.int .i64 o.kd, .int .i64 o.b, .int .i64 o.c, .string o.s, .slice o.ka o.kn o.kc, .slice o.va o.vn o.vc]] W fun e w' => e = .returned (.tuple #[]) ∧ Hid (KJ SemI (frOf w) pb (j + 1) w')) := fun W pb j o h ho hj => jstep SemI.stays (frOf w) W pb j o h (ho.is h.is) hj
  have HEN : Hid (∀ (W : World) (pb j : Nat) (raw : Int), KJ SemI (frOf w) pb j W → -9223372036854775808 ≤ raw → raw ≤ 9223372036854775807 → Calls Tryz.prog 5 #[.pointer (some ⟨pb, 0, none⟩), .int .i64 raw] W fun e w' => ∃ v, e = .returned v ∧ Hid (KJ SemI (frOf w) pb (j + 1) w')) := fun W pb j raw h h1 h2 => jend SemI.stays (frOf w) W pb j raw h h1 h2
  have hl := hsk.len
  clear hsk hok ha0 ha1 hb0 hb1
  go_enter Tryz.func3, Tryz.ntmps3
  go_wp2_with (go_at_call 4; refine HBG.out.mono ?_; rintro e w1 ⟨pb, rfl, hJ⟩; have HJ0 : Hid (KJ SemI (frOf w) pb 0 w1) := hJ; clear hJ)
  go_loopw [8] (fun iv wr => ∃ j : Nat, j ≤ n ∧ iv = .int .i64 j ∧ Hid (KJ SemI (frOf w) pb j wr)) (fun iv _ => n - (intOf iv).toNat)
  case atStart => exact ⟨0, Nat.zero_le _, rfl, HJ0.out⟩
  case round =>
    obtain ⟨j, hj, rfl, HJ⟩ := hrel
    have c8 := HJ.out.ok
    by_cases hlt : j < n
    · have hlt' : j < os.length := by omega
      obtain ⟨bl, off, hao, s0, s1, s2, s3, s4, s5⟩ := HSK.out.1.at HJ.out.is hlt'
      obtain ⟨o, ho⟩ : ∃ o, o = os[j] := ⟨_, rfl⟩
      have HO : Hid (StOk w o) := by rw [ho]; exact HSK.out.2 _ (List.getElem_mem hlt')
      have hob0 := HO.out.b0
      have hob1 := HO.out.b1
      rw [← ho] at s0 s1 s2 s3 s4 s5
      have hj0 : (0 : Int) ≤ (j : Int) := by omega
      have hj1 : (j : Int) < (n : Int) := by omega
      have hjm : j ≤ 1048576 := by omega
      subst hao
      clear ho
      by_cases k5 : o.kd = 5
      · have q5 : ((o.kd : Int) == 5) = true := beq_iff_eq.mpr k5
        clear k5
        go_wp2_with (go_at_call 5; refine (HEN.out _ pb j o.b HJ.out hob0 hob1).mono ?_; rintro e w2 ⟨v, rfl, HJ2⟩)
        go_roundw
        case rel => exact ⟨j + 1, by omega, by go_num, HJ2.out⟩
        case measure => simp [intOf]; omega
      · have q5 : ((o.kd : Int) == 5) = false := beq_eq_false_iff_ne.mpr k5
        clear k5
        go_wp2_with (go_at_call 6; refine (HST.out _ pb j o HJ.out HO.out hjm).mono ?_; rintro e w2 ⟨rfl, HJ2⟩)
        go_roundw
        case rel => exact ⟨j + 1, by omega, by go_num, HJ2.out⟩
        case measure => simp [intOf]; omega
    · have hje : j = n := by omega
      subst hje
      obtain ⟨K, D, hI, _, hg⟩ := HJ.out
      have hW := hI.walk (by omega)
      obtain ⟨W, hWr⟩ : ∃ W : World, W = wr := ⟨_, rfl⟩
      have HII : Hid (KInv (frOf w) W pb j K D) := by rw [hWr]; exact hI
      have hnl : K.nodes = (D.nodes.length : Int) := by
        have h1 : K.nodes = (D.pu.sites.length : Int) := hI.ki.nodes
        have h2 : D.pu.sites.length = D.nodes.length := by show (D.nodes.map (·.p)).length = _; rw [List.length_map]
        omega
      have hn3 := hW.n3
      obtain ⟨m, hm⟩ : ∃ m, m = D.nodes.length := ⟨_, rfl⟩
      have hm3 : m ≤ 3 := by rw [hm]; exact hn3
      have HCE : Hid (∀ W', Kept (fun _ => False) W W' → W'.cell? ⟨pb, 0, none⟩ = some (.pointer (some ⟨K.xb, 0, none⟩)) ∧ W'.cell? ⟨pb, 1, none⟩ = some (.int .i64 (m : Int))) := fun W' k => ⟨k.hold HII.out.core.keep.c0, by have := k.hold HII.out.core.keep.c1; rw [hnl, ← hm] at this; exact this⟩
      have HKN : Hid (∀ (W' : World) (k : Nat), Kept (fun _ => False) W W' → k < m → Calls Tryz.prog 7 #[.pointer (some ⟨pb, 0, none⟩), .int .i64 (k : Int)] W' fun e w' => e = .returned (.bool true) ∧ Kept (fun _ => False) W' w') := fun W' k hk hlt => kknows (frOf w) W' pb k j K D D.nodes[k] (HII.out.kept hk) hg (List.getElem?_eq_getElem (by omega)) (by omega)
      have HFL : Hid (∀ (W' : World) (k : Nat), Kept (fun _ => False) W W' → k < m → Calls Tryz.prog 8 #[.pointer (some ⟨K.xb, 0, none⟩), .int .i64 (k : Int)] W' fun e w' => ∃ ao fl cap, e = .returned (.tuple #[.slice ao fl cap, .int .i64 0]) ∧ fl ≤ 12 ∧ Kept (fun _ => False) W' w') := fun W' k hk hlt => by
        have hkl : k < D.nodes.length := by omega
        refine (dflight W' K.xb k D D.nodes[k] (HII.out.core.dev.kept hk (fun _ _ => id)) (List.getElem?_eq_getElem hkl) (hW.nodes _ (List.getElem_mem hkl))).mono fun e w' hp => ?_
        obtain ⟨ao, cap, e1, hG⟩ := hp
        refine ⟨ao, _, cap, e1, ?_, hG.out.kept⟩
        exact (HII.out.ki.good.sites D.nodes[k].p (by show _ ∈ D.nodes.map (·.p); exact List.mem_map_of_mem (List.getElem_mem hkl))).fl
      obtain ⟨pl, hpl⟩ : ∃ x, x = D.puts.length := ⟨_, rfl⟩
      have hpl2 : pl ≤ 10 := by rw [hpl]; exact HII.out.ki.good.qmax
      have HPU : Hid (∀ W', Kept (fun _ => False) W W' → Calls Tryz.prog 9 #[.pointer (some ⟨K.xb, 0, none⟩)] W' fun e w' => ∃ ap cp, e = .returned (.slice ap pl cp) ∧ Hid (Row w' 53 6 (.slice ap pl cp) pl (D.puts.flatMap entC) ∧ Kept (fun _ => False) W' w')) := fun W' hk => (dputs W' K.xb D (HII.out.core.dev.kept hk (fun _ _ => id)) hW.fit).mono fun e w' hp => by
        obtain ⟨v, e1, r1, r2, r3⟩ := hp
        obtain ⟨ap, cp, hv, _⟩ := r1.form
        rw [hv, ← hpl] at r1
        rw [← hpl] at hv
        exact ⟨ap, cp, by rw [e1, hv], r1, r2⟩
      have HRI : Hid (∀ (W' : World) (x : EntE), Kept (fun _ => False) W W' → x ∈ D.puts → Calls Tryz.prog 10 #[.pointer (some ⟨pb, 0, none⟩), .agg #[.string x.q, .int .i32 x.val, .int .u64 (x.fr : Int), .int .u64 (x.till : Int), .bool x.op, .int .u64 (x.kn : Int)], .int .u64 0] W' fun e' w' => e' = .returned (.bool true) ∧ Kept (fun _ => False) W' w') := fun W' x hk hx => by
        have ok := HII.out.ki.good.puts x hx
        have hpm : D.past.length ≤ 700 := HII.out.ki.good.pmax
        have h1 : x.kn ≤ D.past.length := ok.kn
        have h2 : x.till ≤ D.past.length := ok.till
        exact kright W' pb 0 K D.past x (HII.out.core.keep.kept hk (fun _ _ => id)) HII.out.ki.states (hg.sem.puts x hx) (ok.lastE (Nat.zero_le _)) hpm (by omega) (by omega) (by omega)
      have HBE : Hid (∀ W', Kept (fun _ => False) W W' → Below w.heap.size w W') := fun W' k => (HII.out.core.kept k).below.below
      have HKW : Hid (Kept (fun _ => False) W wr) := by rw [hWr]; exact Kept.refl _ _
      obtain ⟨puts, hputs⟩ : ∃ x, x = D.puts := ⟨_, rfl⟩
      rw [← hputs] at HPU HRI
      have HPL : Hid (puts.length = pl) := by rw [hputs, hpl]; rfl
      clear hI hg hW hnl hm hpl hputs HJ HEN HST HII
      clear hWr
      go_wp2
      go_loopw [9] (fun kv wx => ∃ k : Nat, k ≤ m ∧ kv = .int .i64 k ∧ Hid (Kept (fun _ => False) W wx)) (fun kv _ => m - (intOf kv).toNat)
      case atStart => exact ⟨0, Nat.zero_le _, rfl, HKW.out⟩
      case round =>
        obtain ⟨k, hk, rfl, HKR⟩ := hrel
        obtain ⟨d0, d1⟩ := HCE.out _ HKR.out
        by_cases hlt : k < m
        · have hk1 : (k : Int) < (m : Int) := by omega
          go_wp2_with first
            | (go_at_call 7; refine (HKN.out _ k HKR.out hlt).mono ?_; rintro e w2 ⟨rfl, hk2⟩; have HK2 : Hid (Kept (fun _ => False) W w2) := HKR.out.trans hk2 (fun _ => id) (fun _ _ => id); have e0 := (HCE.out _ HK2.out).1; clear hk2)
            | (go_at_call 8; refine (HFL.out _ k HK2.out hlt).mono ?_; rintro e w3 ⟨af, fl, cf, rfl, hfl, hk3⟩; have HK3 : Hid (Kept (fun _ => False) W w3) := HK2.out.trans hk3 (fun _ => id) (fun _ _ => id); clear hk3)
          go_roundw
          case rel => exact ⟨k + 1, by omega, by go_num, HK3.out⟩
          case measure => simp [intOf]; omega
        · have hke : k = m := by omega
          subst hke
          go_wp2_with (go_at_call 9; refine (HPU.out _ HKR.out).mono ?_; rintro e w2 ⟨ap, cp, rfl, HP2⟩)
          have HKP : Hid (Kept (fun _ => False) W w2) := HKR.out.trans HP2.out.2 (fun _ => id) (fun _ _ => id)
          go_loopw [14] (fun iv wx => ∃ i : Nat, i ≤ pl ∧ iv = .int .i64 i ∧ Hid (Kept (fun _ => False) w2 wx)) (fun iv _ => pl - (intOf iv).toNat)
          case atStart => exact ⟨0, Nat.zero_le _, rfl, Kept.refl _ _⟩
          case round =>
            obtain ⟨i, hi, rfl, HKI⟩ := hrel
            by_cases hil : i < pl
            · have hil' : i < puts.length := by rw [HPL.out]; exact hil
              have hr := HP2.out.1.kept HKI.out (fun _ _ => id)
              obtain ⟨ge, c', e1, e2, _⟩ := hr.block (by omega)
              injection e1 with e1 _ e1c
              subst e1
              subst e1c
              obtain ⟨x, hx⟩ : ∃ x, x = puts[i] := ⟨_, rfl⟩
              have HXM : Hid (x ∈ puts) := by rw [hx]; exact List.getElem_mem hil'
              have hc : ∀ f u, (entC x)[f]? = some u → wr.cell? ⟨ge, i * 6 + f, none⟩ = some u := fun f u hu => hr.cell e2 _ u (by
                have hf : f < 6 := (List.getElem?_eq_some_iff.mp hu).1
                rw [flat_at entC 6 (fun _ => rfl) puts i hil' f hf, ← hx]
                exact hu)
              have f0 : wr.cell? ⟨ge, i * 6, none⟩ = some (.string x.q) := hc 0 _ rfl
              have f1 : wr.cell? ⟨ge, i * 6 + 1, none⟩ = some (.int .i32 x.val) := hc 1 _ rfl
              have f2 : wr.cell? ⟨ge, i * 6 + 2, none⟩ = some (.int .u64 (x.fr : Int)) := hc 2 _ rfl
              have f3 : wr.cell? ⟨ge, i * 6 + 3, none⟩ = some (.int .u64 (x.till : Int)) := hc 3 _ rfl
              have f4 : wr.cell? ⟨ge, i * 6 + 4, none⟩ = some (.bool x.op) := hc 4 _ rfl
              have f5 : wr.cell? ⟨ge, i * 6 + 5, none⟩ = some (.int .u64 (x.kn : Int)) := hc 5 _ rfl
              have hi0 : (0 : Int) ≤ (i : Int) := by omega
              have hi1 : (i : Int) < (pl : Int) := by omega
              have HKJ : Hid (Kept (fun _ => False) W wr) := HKP.out.trans HKI.out (fun _ => id) (fun _ _ => id)
              clear hx hc hr e2
              go_wp2_with (go_at_call 10; refine (HRI.out _ x HKJ.out HXM.out).mono ?_; rintro e w3 ⟨rfl, hk3⟩)
              go_roundw
              case rel => exact ⟨i + 1, by omega, by go_num, HKI.out.trans hk3 (fun _ => id) (fun _ _ => id)⟩
              case measure => simp [intOf]; omega
            · have hie : i = pl := by omega
              subst hie
              go_wp2
              go_ret
              exact ⟨by simp; omega, HBE.out _ (HKP.out.trans HKI.out (fun _ => id) (fun _ _ => id))⟩

end Go.Proofs.YtpfcacedpkaihabGreat
