import Derived.Test.YtpfcacedpkaihaaGreatC46
namespace Go.Proofs.YtpfcacedpkaihaaGreat
open Go.RowKit
set_option maxRecDepth 100000
set_option maxHeartbeats 16000000
theorem rstore_merge (w : World) (b : Nat) (R : RefS) (t k : Nat) (nd : NodeE) (p p' : EntE) (h : Ref w b R) (hf : R.Fit) (hp10 : R.puts.length ≤ 10) (ht : R.puts[t]? = some p) (hq : p.q.size ≤ 40) (hk : k = sumB p.q.data.toList % R.nodes.length) (hnd : R.nodes[k]? = some nd) (hup : nd.up = true)
 (hl : nd.nms.length = nd.ents.length) (hn : nd.ents.length ≤ 1000) (hu : R.uses.length < 4000000000000)
 (hsame : ∃ (t' : Nat) (y : EntE), nd.ents[t']? = some y ∧ sameE y p')
 (hlate : ∀ (W : World) (v : Value), Ref W b (R.setPuts (R.puts.eraseIdx t) v) → Calls Tryz.prog 102 #[.pointer (some ⟨b, 0, none⟩), .agg #[.bool true, .int .u64 (nd.since : Int), .int .u64 (nd.horizon : Int), nd.fl, nd.wt, nd.en, nd.nm], .agg (entA p)] W fun e w' => e = .returned (.tuple #[.agg (entA p'), .bool true]) ∧ Kept (fun _ => False) W w') :
 Calls Tryz.prog 46 #[.pointer (some ⟨b, 0, none⟩), .int .i64 (t : Int)] w fun e w' => TakenPost w b R t k nd p' e w' := by
 obtain ⟨htl, ht'⟩ := List.getElem?_eq_some_iff.mp ht
 obtain ⟨hkl, hnd'⟩ := List.getElem?_eq_some_iff.mp hnd
 obtain ⟨gp, cpp, hvp, hop, hgpl⟩ := h.puts.block (by omega)
 obtain ⟨g, cap, hv, ho, hgl⟩ := h.nodes.block (by omega)
 have c5 := h.c5
 rw [hvp] at c5
 have c3 := h.c3
 rw [hv] at c3
 have hput : ∀ f, f < 6 → ∀ u, (entC p)[f]? = some u → w.cell? ⟨gp, t * 6 + f, none⟩ = some u := fun f hf u hu => h.puts.cell hop _ u (by rw [flat_at entC 6 (fun _ => rfl) R.puts t htl f hf, ht']; exact hu)
 have q0 : w.cell? ⟨gp, t * 6, none⟩ = some (.string p.q) := hput 0 (by omega) _ rfl
 have q1 : w.cell? ⟨gp, t * 6 + 1, none⟩ = some (.int .i32 p.val) := hput 1 (by omega) _ rfl
 have q2 : w.cell? ⟨gp, t * 6 + 2, none⟩ = some (.int .u64 (p.fr : Int)) := hput 2 (by omega) _ rfl
 have q3 : w.cell? ⟨gp, t * 6 + 3, none⟩ = some (.int .u64 (p.till : Int)) := hput 3 (by omega) _ rfl
 have q4 : w.cell? ⟨gp, t * 6 + 4, none⟩ = some (.bool p.op) := hput 4 (by omega) _ rfl
 have q5 : w.cell? ⟨gp, t * 6 + 5, none⟩ = some (.int .u64 (p.kn : Int)) := hput 5 (by omega) _ rfl
 obtain ⟨ae, ce, hve, _⟩ := (h.ents nd (List.mem_of_getElem? hnd)).form
 obtain ⟨am, cm, hvm, _⟩ := (h.nms nd (List.mem_of_getElem? hnd)).form
 obtain ⟨af, cf, hvf, _⟩ := (h.fls nd (List.mem_of_getElem? hnd)).form
 obtain ⟨aw, cw, hvw, _⟩ := (h.wts nd (List.mem_of_getElem? hnd)).form
 have hgb : g ≠ b := fun e => h.nodes.ne_block h.blk (by decide) (by rw [ho, e])
 have hbg : b ≠ g := Ne.symm hgb
 have hbl := h.blk.lt
 have hn0 := hf.npos
 have hn3 := hf.nmax
 have HNO : Hid (∀ W, W.cell? ⟨b, 3, none⟩ = some (.slice (some ⟨g, 0, none⟩) R.nodes.length cap) → Calls Tryz.prog 93 #[.pointer (some ⟨b, 0, none⟩), .string p.q] W fun e w' => e = .returned (.int .i64 (k : Int)) ∧ W = w') := fun W hc => by
  rw [hk]; exact rnodeOf_c W b _ _ _ p.q hc hn0 hn3 hq
 have HN : Hid (∀ (W : World) (R1 : RefS), Ref W b R1 → R1.vn = R.vn → R1.nodes = R.nodes → W.cell? ⟨b, 3, none⟩ = some (.slice (some ⟨g, 0, none⟩) R.nodes.length cap) ∧ W.cell? ⟨g, k * 7, none⟩ = some (.bool true) ∧ W.cell? ⟨g, k * 7 + 1, none⟩ = some (.int .u64 (nd.since : Int)) ∧ W.cell? ⟨g, k * 7 + 2, none⟩ = some (.int .u64 (nd.horizon : Int)) ∧ W.cell? ⟨g, k * 7 + 3, none⟩ = some (.slice af nd.fls.length cf) ∧ W.cell? ⟨g, k * 7 + 4, none⟩ = some (.slice aw nd.wts.length cw) ∧ W.cell? ⟨g, k * 7 + 5, none⟩ = some (.slice ae nd.ents.length ce) ∧ W.cell? ⟨g, k * 7 + 6, none⟩ = some (.slice am nd.nms.length cm)) := by
  intro W R1 hr e1 e2
  have hc : ∀ f, f < 7 → ∀ u, (nodeC nd)[f]? = some u → W.cell? ⟨g, k * 7 + f, none⟩ = some u := fun f hf u hu => hr.nodes.cell (by rw [e1]; exact ho) _ u (by rw [e2, node_at R.nodes k hkl f hf, hnd']; exact hu)
  refine ⟨by rw [hr.c3, e1, hv], ?_, hc 1 (by omega) _ rfl, hc 2 (by omega) _ rfl, ?_, ?_, ?_, ?_⟩
  · rw [← hup]; exact hc 0 (by omega) _ rfl
  · rw [← hvf]; exact hc 3 (by omega) _ rfl
  · rw [← hvw]; exact hc 4 (by omega) _ rfl
  · rw [← hve]; exact hc 5 (by omega) _ rfl
  · rw [← hvm]; exact hc 6 (by omega) _ rfl
 have HWO : Hid (∀ W, Kept (fun _ => False) w W → Calls Tryz.prog 100 #[.slice (some ⟨gp, 0, none⟩) R.puts.length cpp, .int .i64 (t : Int)] W fun e w' => ∃ ao c', e = .returned (.slice ao (R.puts.length - 1) c') ∧ w'.cell? ⟨b, 5, none⟩ = some (.slice (some ⟨gp, 0, none⟩) R.puts.length cpp) ∧ w'.frozen? ⟨b, 5, none⟩ = false ∧ w'.cell? ⟨b, 3, none⟩ = some (.slice (some ⟨g, 0, none⟩) R.nodes.length cap) ∧ w'.cell? ⟨g, k * 7, none⟩ = some (.bool true) ∧ (∀ a v, W.cell? a = some v → w'.cell? a = some v) ∧ Hid (Kept (fun _ => False) W w' ∧ (∀ x, (Value.slice ao (R.puts.length - 1) c').ownBlock = some x → W.heap.size ≤ x) ∧ Became w b R (w'.setCell ⟨b, 5, none⟩ (.slice ao (R.puts.length - 1) c')) (R.setPuts (R.puts.eraseIdx t) (.slice ao (R.puts.length - 1) c')))) := by
  intro W hW
  have hre := h.puts.kept hW (fun _ _ => id)
  rw [hvp] at hre
  refine (rwithout_row hre rfl htl (by omega)).mono fun e w' hp => ?_
  obtain ⟨v, e1, r1, k1, o1⟩ := hp
  obtain ⟨ao, c', hv', _⟩ := r1.form
  subst e1 hv'
  have hkk : Kept (fun _ => False) w w' := hW.trans k1 (fun _ => id) (fun _ _ => id)
  have hsz := hW.size
  have hrw := h.kept hkk (fun _ _ => id)
  obtain ⟨n3, n0, _⟩ := HN.out w' R hrw rfl rfl
  refine ⟨ao, c', rfl, hkk.hold c5, hrw.blk.free 5, n3, n0, fun a v hc => k1.hold hc, k1, o1, h.setPuts _ _ hkk ?_ fun x hx => by have := o1 x hx; omega⟩
  rw [List.length_eraseIdx_of_lt htl]
  exact r1
 have HLT : Hid (∀ (W : World) (v : Value), Ref W b (R.setPuts (R.puts.eraseIdx t) v) → Calls Tryz.prog 102 #[.pointer (some ⟨b, 0, none⟩), .agg #[.bool true, .int .u64 (nd.since : Int), .int .u64 (nd.horizon : Int), .slice af nd.fls.length cf, .slice aw nd.wts.length cw, .slice ae nd.ents.length ce, .slice am nd.nms.length cm], .agg #[.string p.q, .int .i32 p.val, .int .u64 (p.fr : Int), .int .u64 (p.till : Int), .bool p.op, .int .u64 (p.kn : Int)]] W fun e w' => e = .returned (.tuple #[.agg #[.string p'.q, .int .i32 p'.val, .int .u64 (p'.fr : Int), .int .u64 (p'.till : Int), .bool p'.op, .int .u64 (p'.kn : Int)], .bool true]) ∧ Kept (fun _ => False) W w') := by
  rw [← hvf, ← hvw, ← hve, ← hvm]; exact hlate
 have ht0 : (0 : Int) ≤ (t : Int) := by omega
 have ht1 : (t : Int) < (R.puts.length : Int) := by omega
 have hd0 : decide ((t : Int) < 0) = false := by simp
 have hd1 : decide ((R.puts.length : Int) ≤ (t : Int)) = false := by simp; omega
 have hk0 : (0 : Int) ≤ (k : Int) := by omega
 have hk1 : (k : Int) < (R.nodes.length : Int) := by omega
 have HH : Hid (Ref w b R) := h
 have HHF : Hid (R.Fit) := hf
 have HSAME : Hid (∃ (t' : Nat) (y : EntE), nd.ents[t']? = some y ∧ sameE y p') := hsame
 have HVF : Hid (nd.fl = .slice af nd.fls.length cf ∧ nd.wt = .slice aw nd.wts.length cw ∧ nd.up = true) := ⟨hvf, hvw, hup⟩
 have HVE : Hid (R.nodes[k]? = some nd ∧ R.vn.ownBlock = some g ∧ nd.en = .slice ae nd.ents.length ce ∧ nd.nm = .slice am nd.nms.length cm ∧ nd.nms.length = nd.ents.length) := ⟨hnd, ho, hve, hvm, hl⟩
 clear h hf hlate hput hvp hop hgpl hve hvm hvf hvw ho hv hnd' hnd hk ht' ht hl hup
 go_enter Tryz.func46, Tryz.ntmps46
 go_wp2_with first
  | (go_at_call 100; refine (HWO.out _ (Kept.alloc _ _ _)).mono ?_; rintro e w1 ⟨ao, c', rfl, z5, zf, z3, z0, hold, HB⟩; have x0 : w1.cell? ⟨w.heap.size, 0, none⟩ = some (.string p.q) := hold _ _ ((Blk.new w _ _).cell 0); have hbP : b ≠ w.heap.size := Nat.ne_of_lt hbl; have hPb : w.heap.size ≠ b := Ne.symm hbP; clear hold c5 c3 q0 q1 q2 q3 q4 q5)
  | (go_at_call 93; refine (HNO.out _ (HN.out _ _ HB.out.2.2.1 rfl rfl).1).mono ?_; rintro e w2 ⟨rfl, rfl⟩)
 have HS : Hid (Storing w b R (w1.setCell ⟨b, 5, none⟩ (.slice ao (R.puts.length - 1) c')) (R.setPuts (R.puts.eraseIdx t) (.slice ao (R.puts.length - 1) c')) w.heap.size p) := store_first ⟨HB.out.1, HB.out.2.2⟩ HH.out fun x hx => (by have := HB.out.2.1 x hx; simp at this; omega)
 generalize w1.setCell ⟨b, 5, none⟩ (.slice ao (R.puts.length - 1) c') = W at HS ⊢
 obtain ⟨v1, hv1⟩ : ∃ v1, v1 = Value.slice ao (R.puts.length - 1) c' := ⟨_, rfl⟩
 rw [← hv1] at HS
 clear hv1 HB z5 zf z3 z0 x0
 obtain ⟨n3, m0, m1, m2, m3, m4, m5, m6⟩ := HN.out W _ HS.out.bec.1 rfl rfl
 have y0 : W.cell? ⟨w.heap.size, 0, none⟩ = some (.string p.q) := HS.out.box.cell 0
 have y1 : W.cell? ⟨w.heap.size, 1, none⟩ = some (.int .i32 p.val) := HS.out.box.cell 1
 have y2 : W.cell? ⟨w.heap.size, 2, none⟩ = some (.int .u64 (p.fr : Int)) := HS.out.box.cell 2
 have y3 : W.cell? ⟨w.heap.size, 3, none⟩ = some (.int .u64 (p.till : Int)) := HS.out.box.cell 3
 have y4 : W.cell? ⟨w.heap.size, 4, none⟩ = some (.bool p.op) := HS.out.box.cell 4
 have y5 : W.cell? ⟨w.heap.size, 5, none⟩ = some (.int .u64 (p.kn : Int)) := HS.out.box.cell 5
 go_cut [8] (fun v wx => v = .bool true ∧ Hid (Storing w b R wx (R.setPuts (R.puts.eraseIdx t) v1) w.heap.size p'))
 case first =>
  go_region_with (go_at_call 102; refine (HLT.out _ v1 (HS.out.bec.1.drewN _)).mono ?_; rintro e w3 ⟨rfl, hk3⟩; have HS3 : Hid (Storing w b R w3 (R.setPuts (R.puts.eraseIdx t) v1) w.heap.size p) := store_late HS.out hk3; obtain ⟨r3, l0, l1, l2, l3, l4, l5, l6⟩ := HN.out w3 _ HS3.out.bec.1 rfl rfl; have f0 := HS3.out.box.free 0; have f1 := HS3.out.box.free 1; have f2 := HS3.out.box.free 2; have f3 := HS3.out.box.free 3; have f4 := HS3.out.box.free 4; have f5 := HS3.out.box.free 5; have u0 : w3.cell? ⟨w.heap.size, 0, none⟩ = some (.string p.q) := HS3.out.box.cell 0; have u1 : w3.cell? ⟨w.heap.size, 1, none⟩ = some (.int .i32 p.val) := HS3.out.box.cell 1; have u2 : w3.cell? ⟨w.heap.size, 2, none⟩ = some (.int .u64 (p.fr : Int)) := HS3.out.box.cell 2; have u3 : w3.cell? ⟨w.heap.size, 3, none⟩ = some (.int .u64 (p.till : Int)) := HS3.out.box.cell 3; have u4 : w3.cell? ⟨w.heap.size, 4, none⟩ = some (.bool p.op) := HS3.out.box.cell 4; have u5 : w3.cell? ⟨w.heap.size, 5, none⟩ = some (.int .u64 (p.kn : Int)) := HS3.out.box.cell 5; clear y0 y1 y2 y3 y4 y5 n3 m0 m1 m2 m3 m4 m5 m6)
  all_goals
   go_wp2
   go_meet
   case rel => exact ⟨rfl, HS3.out.setBox (Nat.le_refl _) p'⟩
 case rest =>
  obtain ⟨rfl, HS4⟩ := hcut
  obtain ⟨R1, hR1⟩ : ∃ R1, R1 = R.setPuts (R.puts.eraseIdx t) v1 := ⟨_, rfl⟩
  rw [← hR1] at HS4
  have HR1 : Hid (R1 = R.setPuts (R.puts.eraseIdx t) v1) := hR1
  have HQ1 : Hid (R1.vn = R.vn ∧ R1.nodes = R.nodes ∧ R1.uses = R.uses ∧ R1.vs = R.vs ∧ R1.room = R.room ∧ R1.next = R.next) := by rw [hR1]; exact ⟨rfl, rfl, rfl, rfl, rfl, rfl⟩
  clear y0 y1 y2 y3 y4 y5 n3 m0 m1 m2 m3 m4 m5 m6 hR1 HS HLT HWO
  have HE : Hid (∀ (W : World) (R2 : RefS), Ref W b R2 → R2.nodes = R.nodes → ∀ j (hj : j < nd.ents.length), ∃ ge, ae = some ⟨ge, 0, none⟩ ∧ ∀ f, f < 6 → W.cell? ⟨ge, j * 6 + f, none⟩ = (entC nd.ents[j])[f]?) := by
   intro W R2 hr e2 j hj
   have hm : nd ∈ R2.nodes := by rw [e2]; exact List.mem_of_getElem? HVE.out.1
   have hrow := hr.ents nd hm
   obtain ⟨ge, cpe, e3, e4, _⟩ := hrow.block (by omega)
   rw [HVE.out.2.2.1] at e3
   injection e3 with e3 _ _
   refine ⟨ge, e3, fun f hf => ?_⟩
   have hx := flat_at entC 6 (fun _ => rfl) nd.ents j hj f hf
   obtain ⟨u, hu⟩ : ∃ u, (entC nd.ents[j])[f]? = some u := ⟨_, List.getElem?_eq_getElem (show f < 6 from hf)⟩
   rw [hu] at hx
   rw [hu]
   exact hrow.cell e4 _ _ hx
  go_wp2
  go_loopw [9] (fun jv wr => ∃ j : Nat, j ≤ nd.ents.length ∧ jv = .int .i64 j ∧ Hid ((∀ (t : Nat) (y : EntE), t < j → nd.ents[t]? = some y → ¬ sameE y p') ∧ Storing w b R wr R1 w.heap.size p')) (fun jv _ => nd.ents.length - (intOf jv).toNat)
  case atStart => exact ⟨0, Nat.zero_le _, rfl, fun t y ht => absurd ht (Nat.not_lt_zero _), HS4.out⟩
  case round =>
   obtain ⟨j, hj, rfl, HL⟩ := hrel
   obtain ⟨n3, m0, m1, m2, m3, m4, m5, m6⟩ := HN.out wr _ HL.out.2.bec.1 HQ1.out.1 HQ1.out.2.1
   have y0 : wr.cell? ⟨w.heap.size, 0, none⟩ = some (.string p'.q) := HL.out.2.box.cell 0
   have y2 : wr.cell? ⟨w.heap.size, 2, none⟩ = some (.int .u64 (p'.fr : Int)) := HL.out.2.box.cell 2
   by_cases hlt : j < nd.ents.length
   · obtain ⟨ge, hae, hcl⟩ := HE.out wr _ HL.out.2.bec.1 HQ1.out.2.1 j hlt
     obtain ⟨x, hx⟩ : ∃ x, x = nd.ents[j] := ⟨_, rfl⟩
     have HX : Hid (nd.ents[j]? = some x) := by show _ = _; rw [hx]; exact List.getElem?_eq_getElem hlt
     have x0 : wr.cell? ⟨ge, j * 6, none⟩ = some (.string x.q) := (hcl 0 (by omega)).trans (by rw [← hx]; rfl)
     have x1 : wr.cell? ⟨ge, j * 6 + 1, none⟩ = some (.int .i32 x.val) := (hcl 1 (by omega)).trans (by rw [← hx]; rfl)
     have x2 : wr.cell? ⟨ge, j * 6 + 2, none⟩ = some (.int .u64 (x.fr : Int)) := (hcl 2 (by omega)).trans (by rw [← hx]; rfl)
     have x3 : wr.cell? ⟨ge, j * 6 + 3, none⟩ = some (.int .u64 (x.till : Int)) := (hcl 3 (by omega)).trans (by rw [← hx]; rfl)
     have x4 : wr.cell? ⟨ge, j * 6 + 4, none⟩ = some (.bool x.op) := (hcl 4 (by omega)).trans (by rw [← hx]; rfl)
     have x5 : wr.cell? ⟨ge, j * 6 + 5, none⟩ = some (.int .u64 (x.kn : Int)) := (hcl 5 (by omega)).trans (by rw [← hx]; rfl)
     have hj0 : (0 : Int) ≤ (j : Int) := by omega
     have hj1 : (j : Int) < (nd.ents.length : Int) := by omega
     have HAE : Hid (ae = some ⟨ge, 0, none⟩) := hae
     have hbs : b < wr.heap.size := HL.out.2.bec.1.blk.lt
     have hPs : w.heap.size < wr.heap.size := HL.out.2.box.lt
     clear hcl hx
     subst hae
     by_cases hq1 : x.q = p'.q
     · have hqb : (x.q.toList == p'.q.toList) = true := by rw [hq1]; exact beq_self_eq_true _
       by_cases hfr : x.fr = p'.fr
       · have HSM : Hid (sameE x p') := ⟨hq1, hfr⟩
         obtain ⟨M, hM⟩ : ∃ M, M = mergedE x p' := ⟨_, rfl⟩
         have HM : Hid (M = mergedE x p') := hM
         have hfb : ((x.fr : Int) == (p'.fr : Int)) = true := by rw [hfr]; exact beq_self_eq_true _
         have HME : Hid (∀ W, Calls Tryz.prog 103 #[.agg #[.string x.q, .int .i32 x.val, .int .u64 (x.fr : Int), .int .u64 (x.till : Int), .bool x.op, .int .u64 (x.kn : Int)], .agg #[.string p'.q, .int .i32 p'.val, .int .u64 (p'.fr : Int), .int .u64 (p'.till : Int), .bool p'.op, .int .u64 (p'.kn : Int)]] W fun e w' => e = .returned (.agg #[.string M.q, .int .i32 M.val, .int .u64 (M.fr : Int), .int .u64 (M.till : Int), .bool M.op, .int .u64 (M.kn : Int)]) ∧ Hid (Kept (fun _ => False) W w')) := fun W => by rw [hM]; exact rmerged W x p'
         have HMEM : Hid (nd ∈ R1.nodes ∧ nd.en.ownBlock = some ge) := ⟨by rw [HQ1.out.2.1]; exact List.mem_of_getElem? HVE.out.1, by rw [HVE.out.2.2.1, HAE.out]; rfl⟩
         clear hq1 hfr hM
         go_wp2_with fail
         have HSW : Hid (Storing w b R (wr.alloc (.cells #[.string x.q, .int .i32 x.val, .int .u64 (x.fr : Int), .int .u64 (x.till : Int), .bool x.op, .int .u64 (x.kn : Int)] 55)) R1 w.heap.size p' ∧ Blk (wr.alloc (.cells #[.string x.q, .int .i32 x.val, .int .u64 (x.fr : Int), .int .u64 (x.till : Int), .bool x.op, .int .u64 (x.kn : Int)] 55)) wr.heap.size 55 (entA x)) := ⟨HL.out.2.same (Kept.alloc _ _ _), Blk.new _ _ _⟩
         have HKW : Hid (Kept (fun _ => False) wr (wr.alloc (.cells #[.string x.q, .int .i32 x.val, .int .u64 (x.fr : Int), .int .u64 (x.till : Int), .bool x.op, .int .u64 (x.kn : Int)] 55))) := Kept.alloc _ _ _
         generalize wr.alloc (.cells #[.string x.q, .int .i32 x.val, .int .u64 (x.fr : Int), .int .u64 (x.till : Int), .bool x.op, .int .u64 (x.kn : Int)] 55) = W at HSW HKW ⊢
         have z0 : W.cell? ⟨ge, j * 6, none⟩ = some (.string x.q) := HKW.out.hold x0
         have z1 : W.cell? ⟨ge, j * 6 + 1, none⟩ = some (.int .i32 x.val) := HKW.out.hold x1
         have z2 : W.cell? ⟨ge, j * 6 + 2, none⟩ = some (.int .u64 (x.fr : Int)) := HKW.out.hold x2
         have z3 : W.cell? ⟨ge, j * 6 + 3, none⟩ = some (.int .u64 (x.till : Int)) := HKW.out.hold x3
         have z4 : W.cell? ⟨ge, j * 6 + 4, none⟩ = some (.bool x.op) := HKW.out.hold x4
         have z5 : W.cell? ⟨ge, j * 6 + 5, none⟩ = some (.int .u64 (x.kn : Int)) := HKW.out.hold x5
         clear n3 m0 m1 m2 m3 m4 m5 m6 y0 y2 x0 x1 x2 x3 x4 x5
         obtain ⟨n3, m0, m1, m2, m3, m4, m5, m6⟩ := HN.out W _ HSW.out.1.bec.1 HQ1.out.1 HQ1.out.2.1
         have X0 : W.cell? ⟨wr.heap.size, 0, none⟩ = some (.string x.q) := HSW.out.2.cell 0
         have X1 : W.cell? ⟨wr.heap.size, 1, none⟩ = some (.int .i32 x.val) := HSW.out.2.cell 1
         have X2 : W.cell? ⟨wr.heap.size, 2, none⟩ = some (.int .u64 (x.fr : Int)) := HSW.out.2.cell 2
         have X3 : W.cell? ⟨wr.heap.size, 3, none⟩ = some (.int .u64 (x.till : Int)) := HSW.out.2.cell 3
         have X4 : W.cell? ⟨wr.heap.size, 4, none⟩ = some (.bool x.op) := HSW.out.2.cell 4
         have X5 : W.cell? ⟨wr.heap.size, 5, none⟩ = some (.int .u64 (x.kn : Int)) := HSW.out.2.cell 5
         have Y0 : W.cell? ⟨w.heap.size, 0, none⟩ = some (.string p'.q) := HSW.out.1.box.cell 0
         have Y1 : W.cell? ⟨w.heap.size, 1, none⟩ = some (.int .i32 p'.val) := HSW.out.1.box.cell 1
         have Y2 : W.cell? ⟨w.heap.size, 2, none⟩ = some (.int .u64 (p'.fr : Int)) := HSW.out.1.box.cell 2
         have Y3 : W.cell? ⟨w.heap.size, 3, none⟩ = some (.int .u64 (p'.till : Int)) := HSW.out.1.box.cell 3
         have Y4 : W.cell? ⟨w.heap.size, 4, none⟩ = some (.bool p'.op) := HSW.out.1.box.cell 4
         have Y5 : W.cell? ⟨w.heap.size, 5, none⟩ = some (.int .u64 (p'.kn : Int)) := HSW.out.1.box.cell 5
         have hrowE := HSW.out.1.bec.1.ents nd HMEM.out.1
         have neb : b ≠ ge := fun e => hrowE.ne_block HSW.out.1.bec.1.blk (by decide) (by rw [HMEM.out.2, e])
         have neg : g ≠ ge := fun e => hrowE.ne_row HSW.out.1.bec.1.nodes (by decide) ge HMEM.out.2 (by rw [HQ1.out.1, HVE.out.2.1, e])
         have neP : w.heap.size ≠ ge := fun e => HSW.out.1.away (.inr ⟨_, nodeR_mem HMEM.out.1 (List.mem_of_getElem? (i := 2) rfl), by rw [e]; exact HMEM.out.2⟩)
         have neX : wr.heap.size ≠ ge := fun e => by
          have := (HL.out.2.bec.1.ents nd HMEM.out.1).lt ge HMEM.out.2
          omega
         clear hrowE
         have d0 := drew_cell n3
         have d1 := drew_cell m5
         have d2 := drew_cell X0
         have d3 := drew_cell X1
         have d4 := drew_cell X2
         have d5 := drew_cell X3
         have d6 := drew_cell X4
         have d7 := drew_cell X5
         have d8 := drew_cell Y0
         have d9 := drew_cell Y1
         have d10 := drew_cell Y2
         have d11 := drew_cell Y3
         have d12 := drew_cell Y4
         have d13 := drew_cell Y5
         go_cut [10] (fun _ wx => Hid (Storing w b R wx (R1.putN k (nd.setEnts (nd.ents.set j M) nd.en)) w.heap.size p'))
         case first =>
          go_region_held3 (fun w' => w'.cell? ⟨b, 3, none⟩ = some (.slice (some ⟨g, 0, none⟩) R.nodes.length cap) ∧ w'.cell? ⟨g, k * 7 + 5, none⟩ = some (.slice (some ⟨ge, 0, none⟩) nd.ents.length ce) ∧ w'.cell? ⟨wr.heap.size, 0, none⟩ = some (.string x.q) ∧ w'.cell? ⟨wr.heap.size, 1, none⟩ = some (.int .i32 x.val) ∧ w'.cell? ⟨wr.heap.size, 2, none⟩ = some (.int .u64 (x.fr : Int)) ∧ w'.cell? ⟨wr.heap.size, 3, none⟩ = some (.int .u64 (x.till : Int)) ∧ w'.cell? ⟨wr.heap.size, 4, none⟩ = some (.bool x.op) ∧ w'.cell? ⟨wr.heap.size, 5, none⟩ = some (.int .u64 (x.kn : Int)) ∧ w'.cell? ⟨w.heap.size, 0, none⟩ = some (.string p'.q) ∧ w'.cell? ⟨w.heap.size, 1, none⟩ = some (.int .i32 p'.val) ∧ w'.cell? ⟨w.heap.size, 2, none⟩ = some (.int .u64 (p'.fr : Int)) ∧ w'.cell? ⟨w.heap.size, 3, none⟩ = some (.int .u64 (p'.till : Int)) ∧ w'.cell? ⟨w.heap.size, 4, none⟩ = some (.bool p'.op) ∧ w'.cell? ⟨w.heap.size, 5, none⟩ = some (.int .u64 (p'.kn : Int))) (first | with_reducible exact ⟨s0, s1, s2, s3, s4, s5, s6, s7, s8, s9, s10, s11, s12, s13⟩ | with_reducible exact ⟨d0, d1, d2, d3, d4, d5, d6, d7, d8, d9, d10, d11, d12, d13⟩ | with_reducible exact ⟨hs6 (W := w4) (o := j * 6) (e := M) neb s0, hs6 (W := w4) (o := j * 6) (e := M) neg s1, hs6 (W := w4) (o := j * 6) (e := M) neX s2, hs6 (W := w4) (o := j * 6) (e := M) neX s3, hs6 (W := w4) (o := j * 6) (e := M) neX s4, hs6 (W := w4) (o := j * 6) (e := M) neX s5, hs6 (W := w4) (o := j * 6) (e := M) neX s6, hs6 (W := w4) (o := j * 6) (e := M) neX s7, hs6 (W := w4) (o := j * 6) (e := M) neP s8, hs6 (W := w4) (o := j * 6) (e := M) neP s9, hs6 (W := w4) (o := j * 6) (e := M) neP s10, hs6 (W := w4) (o := j * 6) (e := M) neP s11, hs6 (W := w4) (o := j * 6) (e := M) neP s12, hs6 (W := w4) (o := j * 6) (e := M) neP s13⟩ | fail) ((go_at_call 103; refine (HME.out _).mono ?_; rintro e w4 ⟨rfl, HK4⟩; have s0 := HK4.out.hold d0; have s1 := HK4.out.hold d1; have s2 := HK4.out.hold d2; have s3 := HK4.out.hold d3; have s4 := HK4.out.hold d4; have s5 := HK4.out.hold d5; have s6 := HK4.out.hold d6; have s7 := HK4.out.hold d7; have s8 := HK4.out.hold d8; have s9 := HK4.out.hold d9; have s10 := HK4.out.hold d10; have s11 := HK4.out.hold d11; have s12 := HK4.out.hold d12; have s13 := HK4.out.hold d13; have o0 := HK4.out.hold (drew_cell z0); have o1 := HK4.out.hold (drew_cell z1); have o2 := HK4.out.hold (drew_cell z2); have o3 := HK4.out.hold (drew_cell z3); have o4 := HK4.out.hold (drew_cell z4); have o5 := HK4.out.hold (drew_cell z5); have HS5 : Hid (Storing w b R w4 R1 w.heap.size p') := HSW.out.1.same (kdrew HK4.out); have ff : ∀ f, w4.frozen? ⟨ge, f, none⟩ = false := (fun f => (HS5.out.bec.1.ents nd HMEM.out.1).free HMEM.out.2 f)))
          all_goals
           go_wp2
           go_meet
           case rel =>
            have hz := HS5.out.next (store_turn HS5.out.bec.1 (by rw [HQ1.out.2.1]; exact HVE.out.1) HMEM.out.2 hlt M)
            exact hz
         case rest =>
          clear d0 d1 d2 d3 d4 d5 d6 d7 d8 d9 d10 d11 d12 d13 n3 m0 m1 m2 m3 m4 m5 m6 X0 X1 X2 X3 X4 X5 Y0 Y1 Y2 Y3 Y4 Y5 z0 z1 z2 z3 z4 z5 neb neg neP neX
          obtain ⟨y, hy⟩ : ∃ y, y = nd.setEnts (nd.ents.set j M) nd.en := ⟨_, rfl⟩
          rw [← hy] at hcut
          have HC : Hid (Storing w b R wc (R1.putN k y) w.heap.size p') := hcut
          have HY : Hid (y = nd.setEnts (nd.ents.set j M) nd.en) := hy
          obtain ⟨nm, hnm⟩ : ∃ nm, nd.nms[j]? = some nm := ⟨_, List.getElem?_eq_getElem (by have := HVE.out.2.2.2.2; omega)⟩
          have HNM : Hid (nd.nms[j]? = some nm) := hnm
          have hk1' : k < R1.nodes.length := by rw [HQ1.out.2.1]; omega
          have hyk : (R1.putN k y).nodes[k]? = some y := List.getElem?_set_self hk1'
          have hynm : y.nm = .slice am nd.nms.length cm ∧ y.nms = nd.nms := by rw [hy]; exact ⟨HVE.out.2.2.2.1, rfl⟩
          obtain ⟨gm, cpm, e3, e4, _⟩ := (hcut.out.bec.1.nms y (List.mem_of_getElem? hyk)).block (by rw [hynm.2]; have := HVE.out.2.2.2.2; omega)
          rw [hynm.1] at e3
          injection e3 with e3 e3b e3c
          clear e3b e3c
          have m6 : wc.cell? ⟨g, k * 7 + 6, none⟩ = some (.slice am nd.nms.length cm) := hcut.out.bec.1.nodes.cell (by show R1.vn.ownBlock = _; rw [HQ1.out.1]; exact HVE.out.2.1) _ _ (by
           have hkk : k < (R1.putN k y).nodes.length := by rw [RefS.putN, List.length_set]; exact hk1'
           rw [node_at (R1.putN k y).nodes k hkk 6 (by omega), (List.getElem?_eq_some_iff.mp hyk).2]
           show some y.nm = _
           rw [hynm.1])
          have n3 : wc.cell? ⟨b, 3, none⟩ = some (.slice (some ⟨g, 0, none⟩) R.nodes.length cap) := by
           have := (HN.out wr R1 HL.out.2.bec.1 HQ1.out.1 HQ1.out.2.1).1
           rw [HL.out.2.bec.1.c3] at this
           rw [hcut.out.bec.1.c3]
           exact this
          have nj : wc.cell? ⟨gm, j, none⟩ = some (.int .i64 nm) := (hcut.out.bec.1.nms y (List.mem_of_getElem? hyk)).cell e4 j _ (by rw [hynm.2, i64s, List.getElem?_map, hnm]; rfl)
          obtain ⟨au, cu, hvu, _⟩ := hcut.out.bec.1.uses.form
          have hus : (R1.putN k y).uses = R.uses := HQ1.out.2.2.1
          rw [hus] at hvu
          have u6 : wc.cell? ⟨b, 6, none⟩ = some (.slice au R.uses.length cu) := by rw [← hvu]; exact hcut.out.bec.1.blk.cell 6
          have f6 := hcut.out.bec.1.blk.free 6
          have hjm : (j : Int) < (nd.nms.length : Int) := by have := HVE.out.2.2.2.2; omega
          obtain ⟨i0, hi0, hz0, hz1, hz2⟩ := info_parts Tryz.infoInt
          have HI0 : Hid (Tryz.prog.info? 3 = some i0 ∧ i0.zero = some (.int .i64 0) ∧ i0.size = 1 ∧ i0.bytes = 8) := ⟨hi0, hz0, hz1, hz2⟩
          have HROW : Hid (∀ W2 : World, Kept (fun _ => False) wc W2 → Row W2 3 1 (.slice au R.uses.length cu) R.uses.length (i64s R.uses)) := fun W2 hk => by
           have := HC.out.bec.1.uses.kept hk (fun _ _ => id)
           rw [hus, hvu] at this
           exact this
          have HAP : Hid (∀ (W2 w' : World) (v' : Value), Kept (fun _ => False) wc W2 → Appended W2 w' 3 1 (.slice au R.uses.length cu) v' R.uses.length 1 (i64s R.uses) [.int .i64 nm] → w'.cell? ⟨b, 6, none⟩ = some (.slice au R.uses.length cu) ∧ w'.cell? ⟨b, 3, none⟩ = some (.slice (some ⟨g, 0, none⟩) R.nodes.length cap) ∧ w'.cell? ⟨g, k * 7 + 6, none⟩ = some (.slice am nd.nms.length cm) ∧ w'.cell? ⟨gm, j, none⟩ = some (.int .i64 nm) ∧ w'.frozen? ⟨b, 6, none⟩ = false ∧ Hid (Became w b R (w'.setCell ⟨b, 6, none⟩ v') ((R1.putN k y).pushUse nm v'))) := fun W2 w' v' hk hA => by
           have hA1 : Appended W2 w' 3 1 (R1.putN k y).vs v' (R1.putN k y).uses.length 1 (i64s (R1.putN k y).uses) [.int .i64 nm] := by rw [hus, hvu]; exact hA
           obtain ⟨q1, q2, q3, q4⟩ := store_use HC.out hk hA1
           exact ⟨q2 6 _ u6, q2 3 _ n3, q1.keep (fun e => HC.out.bec.1.uses.ne_row HC.out.bec.1.nodes (by decide) g e (by show R1.vn.ownBlock = _; rw [HQ1.out.1]; exact HVE.out.2.1)) m6, q1.keep (nm_ne_uses HC.out.bec.1 (List.mem_of_getElem? hyk) e4) nj, q3 _, q4⟩
          have hw1 : R.uses.length + 1 ≤ maxLen := by unfold maxLen; omega
          have hw2 : (R.uses.length + 1) * 8 ≤ 140737488355328 := by omega
          subst e3
          clear hy hynm hyk hi0 hz0 hz1 hz2 hvu hus e4 hnm hk1' f6
          go_wp2_with fail
          refine startC 20 (fun w' => w'.cell? ⟨b, 6, none⟩ = some (.slice au R.uses.length cu) ∧ w'.cell? ⟨b, 3, none⟩ = some (.slice (some ⟨g, 0, none⟩) R.nodes.length cap) ∧ w'.cell? ⟨g, k * 7 + 6, none⟩ = some (.slice (some ⟨gm, 0, none⟩) nd.nms.length cm) ∧ w'.cell? ⟨gm, j, none⟩ = some (.int .i64 nm)) (by kernel_rfl) ?_
          have hS : (fun w' => w'.cell? ⟨b, 6, none⟩ = some (.slice au R.uses.length cu) ∧ w'.cell? ⟨b, 3, none⟩ = some (.slice (some ⟨g, 0, none⟩) R.nodes.length cap) ∧ w'.cell? ⟨g, k * 7 + 6, none⟩ = some (.slice (some ⟨gm, 0, none⟩) nd.nms.length cm) ∧ w'.cell? ⟨gm, j, none⟩ = some (.int .i64 nm)) wc.drew := ⟨u6, n3, m6, nj⟩
          refine takeC (i := 0) (v := ?_) rfl (by kernel_rfl) (by kernel_rfl) (by kernel_rfl) (by kernel_rfl) (fun _ _ _ h => h) hS (Or.inl ⟨by rfl, ?_⟩) ?_
          rotate_left
          · (intro w hSw; (try dsimp only at hSw); go_simp; first | done | with_reducible rfl)
          simp only [Act.put]
          refine takeC (i := 1) (v := ?_) rfl (by kernel_rfl) (by kernel_rfl) (by kernel_rfl) (by kernel_rfl) (fun _ _ _ h => h) hS (Or.inl ⟨by rfl, ?_⟩) ?_
          rotate_left
          · (intro w hSw; (try dsimp only at hSw); go_simp; first | done | with_reducible rfl)
          simp only [Act.put]
          refine takeC (i := 2) (v := ?_) rfl (by kernel_rfl) (by kernel_rfl) (by kernel_rfl) (by kernel_rfl) (fun _ _ _ h => h) hS (Or.inl ⟨by rfl, ?_⟩) ?_
          rotate_left
          · (intro w hSw; (try dsimp only at hSw); go_simp; first | done | with_reducible rfl)
          simp only [Act.put]
          refine takeC (i := 3) (v := ?_) rfl (by kernel_rfl) (by kernel_rfl) (by kernel_rfl) (by kernel_rfl) (fun _ _ _ h => h) hS (Or.inl ⟨by rfl, ?_⟩) ?_
          rotate_left
          · (intro w hSw; (try dsimp only at hSw); go_simp; first | done | with_reducible rfl)
          simp only [Act.put]
          refine takeC (i := 4) (v := ?_) rfl (by kernel_rfl) (by kernel_rfl) (by kernel_rfl) (by kernel_rfl) (fun _ _ _ h => h) hS (Or.inl ⟨by rfl, ?_⟩) ?_
          rotate_left
          · (intro w hSw; (try dsimp only at hSw); go_simp; first | done | with_reducible rfl)
          simp only [Act.put]
          refine takeC (i := 5) (v := ?_) rfl (by kernel_rfl) (by kernel_rfl) (by kernel_rfl) (by kernel_rfl) (fun _ _ _ h => h) hS (Or.inl ⟨by rfl, ?_⟩) ?_
          rotate_left
          · (intro w hSw; (try dsimp only at hSw); go_simp; first | done | with_reducible rfl)
          simp only [Act.put]
          refine takeC (i := 6) (v := ?_) rfl (by kernel_rfl) (by kernel_rfl) (by kernel_rfl) (by kernel_rfl) (fun _ _ _ h => h) hS (Or.inl ⟨by rfl, ?_⟩) ?_
          rotate_left
          · (intro w hSw; (try dsimp only at hSw); go_simp; first | done | with_reducible rfl)
          simp only [Act.put]
          refine takeC (i := 7) (v := ?_) rfl (by kernel_rfl) (by kernel_rfl) (by kernel_rfl) (by kernel_rfl) (fun _ _ _ h => h) hS (Or.inl ⟨by rfl, ?_⟩) ?_
          rotate_left
          · (intro w hSw; (try dsimp only at hSw); go_simp; first | done | with_reducible rfl)
          simp only [Act.put]
          refine takeC (i := 8) (v := ?_) rfl (by kernel_rfl) (by kernel_rfl) (by kernel_rfl) (by kernel_rfl) (fun _ _ _ h => h) hS (Or.inl ⟨by rfl, ?_⟩) ?_
          rotate_left
          · (intro w hSw; (try dsimp only at hSw); go_simp; first | done | with_reducible rfl)
          simp only [Act.put]
          refine takeC (i := 9) (v := ?_) rfl (by kernel_rfl) (by kernel_rfl) (by kernel_rfl) (by kernel_rfl) (fun _ _ _ h => h) hS (Or.inl ⟨by rfl, ?_⟩) ?_
          rotate_left
          · (intro w hSw; (try dsimp only at hSw); go_simp; first | done | with_reducible rfl)
          simp only [Act.put]
          refine takeC (i := 10) (v := ?_) rfl (by kernel_rfl) (by kernel_rfl) (by kernel_rfl) (by kernel_rfl) (fun _ _ _ h => h) hS (Or.inl ⟨by rfl, ?_⟩) ?_
          rotate_left
          · (intro w hSw; (try dsimp only at hSw); go_simp; first | done | with_reducible rfl)
          simp only [Act.put]
          refine takeC (i := 11) (v := ?_) rfl (by kernel_rfl) (by kernel_rfl) (by kernel_rfl) (by kernel_rfl) (fun _ _ _ h => h) hS (Or.inl ⟨by rfl, ?_⟩) ?_
          rotate_left
          · (intro w hSw; (try dsimp only at hSw); go_simp; first | done | with_reducible rfl)
          simp only [Act.put]
          refine takeC (i := 12) (v := ?_) rfl (by kernel_rfl) (by kernel_rfl) (by kernel_rfl) (by kernel_rfl) (fun _ _ _ h => h) hS (Or.inl ⟨by rfl, ?_⟩) ?_
          rotate_left
          · (intro w hSw; (try dsimp only at hSw); go_simp; first | done | with_reducible rfl)
          simp only [Act.put]
          refine takeC (i := 13) (v := ?_) rfl (by kernel_rfl) (by kernel_rfl) (by kernel_rfl) (by kernel_rfl) (fun _ _ _ h => h) hS (Or.inl ⟨by rfl, ?_⟩) ?_
          rotate_left
          · (intro w hSw; (try dsimp only at hSw); go_simp; first | done | with_reducible rfl)
          simp only [Act.put]
          refine takeC (i := 14) (v := ?_) rfl (by kernel_rfl) (by kernel_rfl) (by kernel_rfl) (by kernel_rfl) (fun _ _ _ h => h) hS (Or.inl ⟨by rfl, ?_⟩) ?_
          rotate_left
          · (intro w hSw; (try dsimp only at hSw); go_simp; first | done | with_reducible rfl)
          simp only [Act.put]
          refine takeC (i := 15) (v := ?_) rfl (by kernel_rfl) (by kernel_rfl) (by kernel_rfl) (by kernel_rfl) (fun _ _ _ h => h) hS (Or.inl ⟨by rfl, ?_⟩) ?_
          rotate_left
          · (intro w hSw; (try dsimp only at hSw); go_simp; first | done | with_reducible rfl)
          simp only [Act.put]
          refine stepC (j := 16) (by kernel_rfl) (by rfl) rfl (by decide) (fun K hK => ?_)
          go_simp
          refine hK.out _ _ ⟨hold_al (w := wc.drew) u6, hold_al (w := wc.drew) n3, hold_al (w := wc.drew) m6, hold_al (w := wc.drew) nj⟩ ?_
          clear hK K hS
          refine stepC (j := 17) (by kernel_rfl) (by rfl) rfl (by decide) (fun K hK => ?_)
          refine wp_append_mine _ (.tmp 119) (.tmp 131) 24 rfl 3 i0 (.int .i64 0) 1 8 Tryz.underlying24 HI0.out.1 HI0.out.2.1 HI0.out.2.2.1 HI0.out.2.2.2 rfl (Nat.succ_pos 0) (.slice au R.uses.length cu) R.uses.length (i64s R.uses) rfl (HROW.out _ ((Kept.refl _ _).drew.allocNew _)) ⟨wc.heap.size, 0, none⟩ 1 1 [.int .i64 nm] rfl rfl (fun j u hj => news_one wc.drew _ _ j u hj) (oneCell_int nm) hw1 hw2 (fun v' w' hA => ?_)
          obtain ⟨p1, p2, p3, l0, pf, p4⟩ := HAP.out _ _ _ ((Kept.refl _ _).drew.allocNew _) hA
          obtain ⟨ao', cap', hv', _⟩ := hA.row.form
          clear hA
          subst hv'
          have hS : (fun w' => w'.cell? ⟨b, 6, none⟩ = some (.slice au R.uses.length cu) ∧ w'.cell? ⟨b, 3, none⟩ = some (.slice (some ⟨g, 0, none⟩) R.nodes.length cap) ∧ w'.cell? ⟨g, k * 7 + 6, none⟩ = some (.slice (some ⟨gm, 0, none⟩) nd.nms.length cm) ∧ w'.cell? ⟨gm, j, none⟩ = some (.int .i64 nm)) w' := ⟨p1, p2, p3, l0⟩
          refine hK.out _ _ hS ?_
          clear hK K
          simp only [Act.put]
          refine stepC (j := 18) (by kernel_rfl) (by rfl) rfl (by decide) (fun K hK => ?_)
          go_simp
          refine hK.out _ _ hS ?_
          clear hK K
          refine stepC (j := 19) (by kernel_rfl) (by rfl) rfl (by decide) (fun K hK => ?_)
          go_simp
          refine hK.out _ _ hS ?_
          clear hK K
          refine lastC (by kernel_rfl) (by rfl) rfl (by kernel_rfl) (fun K hK => ?_)
          go_simp
          refine hK.out _ _ ?_
          clear hK K hS
          go_wp2
          refine bodyPost_ret (v := .tuple #[.bool true, .int .i64 0]) (by simp [results, Tryz.results46, go_sem]) rfl ⟨rfl, .inl ⟨j, x, nm, v1, .slice ao' (R.uses.length + 1) cap', HX.out, HNM.out, HSM.out, HL.out.1, ?_⟩⟩
          have := p4.out
          rw [HY.out, HR1.out, HM.out] at this
          exact this
       · have hfb : ((x.fr : Int) == (p'.fr : Int)) = false := beq_eq_false_iff_ne.mpr fun e => hfr (by omega)
         have HNS : Hid (¬ sameE x p') := fun h => hfr h.2
         clear hq1 hfr
         go_wp2
         go_roundw
         case rel => exact ⟨j + 1, by omega, by go_num, not_next HL.out.1 HX.out HNS.out, HL.out.2.same (Kept.alloc _ _ _)⟩
         case measure => simp [intOf]; omega
     · have hqb : (x.q.toList == p'.q.toList) = false := beq_eq_false_iff_ne.mpr fun h => hq1 (bytes_inj h)
       have HNS : Hid (¬ sameE x p') := fun h => hq1 h.1
       clear hq1
       go_wp2
       go_roundw
       case rel => exact ⟨j + 1, by omega, by go_num, not_next HL.out.1 HX.out HNS.out, HL.out.2.same (Kept.alloc _ _ _)⟩
       case measure => simp [intOf]; omega
   · obtain ⟨t', y, hy, hs⟩ := HSAME.out
     exact absurd hs (HL.out.1 t' y (by have := (List.getElem?_eq_some_iff.mp hy).1; omega) hy)
end Go.Proofs.YtpfcacedpkaihaaGreat
