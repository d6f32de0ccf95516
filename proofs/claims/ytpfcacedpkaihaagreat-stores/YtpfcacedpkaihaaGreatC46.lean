import Derived.Test.YtpfcacedpkaihaaGreatC34
import Derived.Test.YtpfcacedpkaihaaGreatC42
import Derived.Test.YtpfcacedpkaihaaGreatC40
namespace Go.Proofs.YtpfcacedpkaihaaGreat
open Go.RowKit
set_option maxRecDepth 100000
set_option maxHeartbeats 16000000
theorem hs6 {W : World} {g o b f : Nat} {e : EntE} {v : Value} (hne : b ≠ g) (h : W.cell? ⟨b, f, none⟩ = some v) : (set6 W g o e).cell? ⟨b, f, none⟩ = some v :=
 (World.cell?_of_block (a := ⟨b, f, none⟩) ((set6_kept W g o e).block b (World.block_lt_of_cell? W _ h) hne)).trans h
theorem kdrew {W w : World} {n : Nat} (h : Kept (fun _ => False) (W.drewN n) w) : Kept (fun _ => False) W w := ((Kept.refl (fun _ => False) W).drewN n).trans h (fun _ => id) (fun _ _ => id)
theorem store_turn {W : World} {b k ge j : Nat} {R : RefS} {nd : NodeE} (h : Ref W b R) (hnd : R.nodes[k]? = some nd) (hg : nd.en.ownBlock = some ge) (hj : j < nd.ents.length) (M : EntE) : Became W b R (set6 W ge (j * 6) M) (R.putN k (nd.setEnts (nd.ents.set j M) nd.en)) :=
 h.turnEnts hnd _ ((set6_kept W ge (j * 6) M).mono fun i hi => by rw [hg, hi]) (by rw [List.length_set]; exact (h.ents nd (List.mem_of_getElem? hnd)).set6 hg hj M)
theorem drew_cell {w : World} {a : Addr} {v : Value} (h : w.cell? a = some v) : w.drew.cell? a = some v := h
def TakenPost (w : World) (b : Nat) (R : RefS) (i k : Nat) (nd : NodeE) (p : EntE) (e : Ending) (w' : World) : Prop :=
 e = .returned (.tuple #[.bool true, .int .i64 0]) ∧
 ((∃ (j : Nat) (x : EntE) (nm : Int) (v vs : Value), nd.ents[j]? = some x ∧ nd.nms[j]? = some nm ∧ sameE x p ∧ (∀ (t : Nat) (y : EntE), t < j → nd.ents[t]? = some y → ¬ sameE y p) ∧
  Became w b R w' (((R.setPuts (R.puts.eraseIdx i) v).putN k (nd.setEnts (nd.ents.set j (mergedE x p)) nd.en)).pushUse nm vs)) ∨
  ((∀ (t : Nat) (y : EntE), nd.ents[t]? = some y → ¬ sameE y p) ∧ ∃ (nd1 : NodeE) (v ve vm vs : Value),
   (((nd.ents.length : Int) < R.room ∧ nd1 = nd) ∨ (R.room ≤ (nd.ents.length : Int) ∧ ∃ v1 v2, nd1 = nd.without (goesN R.uses nd).toNat v1 v2)) ∧
   Became w b R w' { ((R.setPuts (R.puts.eraseIdx i) v).putN k ((nd1.setEnts (nd1.ents ++ [p]) ve).setNms (nd1.nms ++ [R.next]) vm)).pushUse R.next vs with next := R.next + 1 }))
theorem not_next {l : List EntE} {p x : EntE} {j : Nat} (h : ∀ (t : Nat) (y : EntE), t < j → l[t]? = some y → ¬ sameE y p) (hx : l[j]? = some x) (hn : ¬ sameE x p) : ∀ (t : Nat) (y : EntE), t < j + 1 → l[t]? = some y → ¬ sameE y p := by
 intro t y ht hy
 by_cases e : t = j
 · subst e; rw [hx] at hy; injection hy with hy; subst hy; exact hn
 · exact h t y (by omega) hy
theorem store_first {w w1 : World} {b : Nat} {R : RefS} {v : Value} {l : List EntE} {p : EntE} (hB : Kept (fun _ => False) (w.alloc (.cells (entA p) 55)) w1 ∧ Became w b R (w1.setCell ⟨b, 5, none⟩ v) (R.setPuts l v)) (h : Ref w b R) (hv : ∀ x, v.ownBlock = some x → w.heap.size < x) :
 Storing w b R (w1.setCell ⟨b, 5, none⟩ v) (R.setPuts l v) w.heap.size p := by
 have hbl := h.blk.lt
 refine ⟨hB.2, ((Blk.new w _ _).kept hB.1 id).kept (Kept.setCell w1 _ _) (by simp only; omega), ?_⟩
 rintro (e | ⟨r, hr, he⟩)
 · omega
 · by_cases hz : r.v = v
   · have := hv _ (by rw [← hz]; exact he); omega
   · have hm : r ∈ R.rows := by
      simp only [RefS.rows, RefS.setPuts, List.mem_cons] at hr ⊢
      rcases hr with rfl | rfl | rfl | rfl | rfl | hr
      · exact .inl rfl
      · exact .inr (.inl rfl)
      · exact .inr (.inr (.inl rfl))
      · exact absurd rfl hz
      · exact .inr (.inr (.inr (.inr (.inl rfl))))
      · exact .inr (.inr (.inr (.inr (.inr hr))))
     have := (h.all.row r hm).lt _ he; omega
theorem store_late {w W w3 : World} {b P : Nat} {R R' : RefS} {p : EntE} {n : Nat} (h : Storing w b R W R' P p) (k : Kept (fun _ => False) (W.drewN n) w3) : Storing w b R w3 R' P p := h.same (((Kept.refl (fun _ => False) W).drewN n).trans k (fun _ => id) (fun _ _ => id))
theorem app_from {w w2 w' : World} {e : TypeId} {size : Nat} {v v' : Value} {n m : Nat} {xs news : List Value} (k : Kept (fun _ => False) w w2) (h : Appended w2 w' e size v v' n m xs news) : Appended w w' e size v v' n m xs news := by
 refine ⟨h.row, k.trans h.kept (fun _ => False.elim) (fun _ _ => id), ?_⟩
 rcases h.own with e | e
 · exact .inl e
 · exact .inr fun j hj => Nat.le_trans k.size (e j hj)
theorem store_ent {w W W2 w' : World} {b k g P : Nat} {R R2 : RefS} {nd1 : NodeE} {p : EntE} {v' : Value} (h : Storing w b R W R2 P p) (hk : Kept (fun _ => False) W W2) (hnd : R2.nodes[k]? = some nd1) (ho : R2.vn.ownBlock = some g) (hA : Appended W2 w' 55 6 nd1.en v' nd1.ents.length 1 (nd1.ents.flatMap entC) (entC p)) :
 (∀ f u, W.cell? ⟨g, f, none⟩ = some u → w'.cell? ⟨g, f, none⟩ = some u) ∧ (∀ f u, W.cell? ⟨b, f, none⟩ = some u → w'.cell? ⟨b, f, none⟩ = some u) ∧ (∀ f, w'.frozen? ⟨g, f, none⟩ = false) ∧ Storing w b R (w'.setCell ⟨g, k * 7 + 5, none⟩ v') (R2.putN k (nd1.setEnts (nd1.ents ++ [p]) v')) P p ∧ Blk w' P 55 (entA p) := by
 have hA2 := app_from hk hA
 have hr := h.bec.1.ents nd1 (List.mem_of_getElem? hnd)
 have hg : ¬ nd1.en.ownBlock = some g := fun e => hr.ne_row h.bec.1.nodes (by decide) g e ho
 have hb : ¬ nd1.en.ownBlock = some b := fun e => hr.ne_block h.bec.1.blk (by decide) e
 refine ⟨fun f u hc => hA2.kept.keep hg hc, fun f u hc => hA2.kept.keep hb hc, fun f => (h.bec.1.nodes.kept hA2.kept fun j hj he => ?_).free ho f, h.next (h.bec.1.pushEnt hnd ho p v' hA2), h.box.kept hA2.kept fun e => h.away (.inr ⟨_, nodeR_mem (List.mem_of_getElem? hnd) (List.mem_of_getElem? (i := 2) rfl), e⟩)⟩
 rw [ho] at hj
 injection hj with hj
 exact hg (by rw [hj]; exact he)
theorem store_nm {w W W2 w' : World} {b k g P : Nat} {R R2 : RefS} {nd1 : NodeE} {p : EntE} {x : Int} {v' : Value} (h : Storing w b R W R2 P p) (hk : Kept (fun _ => False) W W2) (hnd : R2.nodes[k]? = some nd1) (ho : R2.vn.ownBlock = some g) (hA : Appended W2 w' 3 1 nd1.nm v' nd1.nms.length 1 (i64s nd1.nms) [.int .i64 x]) :
 (∀ f u, W.cell? ⟨g, f, none⟩ = some u → w'.cell? ⟨g, f, none⟩ = some u) ∧ (∀ f u, W.cell? ⟨b, f, none⟩ = some u → w'.cell? ⟨b, f, none⟩ = some u) ∧ (∀ f, w'.frozen? ⟨g, f, none⟩ = false) ∧ Storing w b R (w'.setCell ⟨g, k * 7 + 6, none⟩ v') (R2.putN k (nd1.setNms (nd1.nms ++ [x]) v')) P p := by
 have hA2 := app_from hk hA
 have hr := h.bec.1.nms nd1 (List.mem_of_getElem? hnd)
 have hg : ¬ nd1.nm.ownBlock = some g := fun e => hr.ne_row h.bec.1.nodes (by decide) g e ho
 have hb : ¬ nd1.nm.ownBlock = some b := fun e => hr.ne_block h.bec.1.blk (by decide) e
 refine ⟨fun f u hc => hA2.kept.keep hg hc, fun f u hc => hA2.kept.keep hb hc, fun f => (h.bec.1.nodes.kept hA2.kept fun j hj he => ?_).free ho f, h.next (h.bec.1.pushNm hnd ho x v' hA2)⟩
 rw [ho] at hj
 injection hj with hj
 exact hg (by rw [hj]; exact he)
theorem store_use {w W W2 w' : World} {b P : Nat} {R R2 : RefS} {p : EntE} {x : Int} {v' : Value} (h : Storing w b R W R2 P p) (hk : Kept (fun _ => False) W W2) (hA : Appended W2 w' 3 1 R2.vs v' R2.uses.length 1 (i64s R2.uses) [.int .i64 x]) :
 Kept (fun j => R2.vs.ownBlock = some j) W w' ∧ (∀ f u, W.cell? ⟨b, f, none⟩ = some u → w'.cell? ⟨b, f, none⟩ = some u) ∧ (∀ f, w'.frozen? ⟨b, f, none⟩ = false) ∧ Became w b R (w'.setCell ⟨b, 6, none⟩ v') (R2.pushUse x v') := by
 have hA2 := app_from hk hA
 have hb : ¬ R2.vs.ownBlock = some b := fun e => h.bec.1.uses.ne_block h.bec.1.blk (by decide) e
 exact ⟨hA2.kept, fun f u hc => hA2.kept.keep hb hc, fun f => (h.bec.1.blk.kept hA2.kept hb).free f, h.bec.trans (h.bec.1.pushUse x v' hA2)⟩
theorem nm_ne_uses {w : World} {b k : Nat} {R : RefS} {nd : NodeE} (h : Ref w b R) (hn : nd ∈ R.nodes) (hk : nd.nm.ownBlock = some k) : R.vs.ownBlock ≠ some k := by
 have hm : (⟨3, 1, nd.nm, nd.nms.length, i64s nd.nms⟩ : RowD) ∈ R.nodes.flatMap nodeR := List.mem_flatMap.mpr ⟨nd, hn, List.mem_of_getElem? (i := 3) rfl⟩
 obtain ⟨i, hi, e⟩ := List.getElem_of_mem hm
 exact h.all.sep (i + 5) 4 _ ⟨3, 1, R.vs, R.uses.length, i64s R.uses⟩ (by show (R.nodes.flatMap nodeR)[i]? = _; rw [List.getElem?_eq_getElem hi, e]) rfl (by omega) k hk
theorem node_cells {W : World} {b k g n cap : Nat} {R2 : RefS} {nd1 : NodeE} (h : Ref W b R2) (hnd : R2.nodes[k]? = some nd1) (hv : R2.vn = .slice (some ⟨g, 0, none⟩) n cap) (ho : R2.vn.ownBlock = some g) :
 W.cell? ⟨b, 3, none⟩ = some (.slice (some ⟨g, 0, none⟩) n cap) ∧ W.cell? ⟨g, k * 7 + 5, none⟩ = some nd1.en ∧ W.cell? ⟨g, k * 7 + 6, none⟩ = some nd1.nm := by
 obtain ⟨hk, hnd'⟩ := List.getElem?_eq_some_iff.mp hnd
 exact ⟨by rw [h.c3, hv], h.nodes.cell ho _ _ (by rw [node_at R2.nodes k hk 5 (by omega), hnd']; rfl), h.nodes.cell ho _ _ (by rw [node_at R2.nodes k hk 6 (by omega), hnd']; rfl)⟩
theorem goes_nat (us : List Int) (nd : NodeE) (h : 0 < nd.ents.length) : ∃ q : Nat, goesN us nd = (q : Int) ∧ q < nd.ents.length := by
 unfold goesN
 split
 · rename_i h0
   have := bestC_lt nd.ents nd.ents.length
   exact ⟨(bestC nd.ents nd.ents.length).toNat, by omega, by omega⟩
 · have := bestU_lt us nd.nms nd.ents.length
   exact ⟨bestU us nd.nms nd.ents.length, rfl, by omega⟩
end Go.Proofs.YtpfcacedpkaihaaGreat
