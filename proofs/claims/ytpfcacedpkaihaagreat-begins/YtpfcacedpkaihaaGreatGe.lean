/- The document's fall (package almanacref), walked; what the change of one node leaves of a world. -/
import Derived.Test.YtpfcacedpkaihaaGreatGdGh
namespace Go.Proofs.YtpfcacedpkaihaaGreat
open Go.RowKit

/-- a node that has fallen. -/
def zeroN : NodeE := ⟨false, 0, 0, .slice none 0 0, .slice none 0 0, .slice none 0 0, .slice none 0 0, [], [], [], []⟩

theorem nilD (w : World) (T size : Nat) : RowD.Is w ⟨T, size, .slice none 0 0, 0, []⟩ := Row.nil w T size

theorem Ref.putZero {w w' : World} {b k : Nat} {R : RefS} {nd : NodeE} (h : Ref w b R) (hnd : R.nodes[k]? = some nd) (kn : Kept (fun j => R.vn.ownBlock = some j) w w')
    (hn : Row w' 146 7 R.vn (R.nodes.set k zeroN).length ((R.nodes.set k zeroN).flatMap nodeC)) : Ref w' b (R.putN k zeroN) := by
  obtain ⟨hk, hnd'⟩ := List.getElem?_eq_some_iff.mp hnd
  have nown : ∀ (r : RowD) (x : Nat), (Value.slice none 0 0).ownBlock = some x → r.v.ownBlock = some x ∨ w.heap.size ≤ x := fun _ x hx => by simp [Value.ownBlock] at hx
  have g0 : R.rows[(k * 4 + 0) + 5]? = _ := rows_at hnd 0 (by omega)
  have g1 : R.rows[(k * 4 + 1) + 5]? = _ := rows_at hnd 1 (by omega)
  have g2 : R.rows[(k * 4 + 2) + 5]? = _ := rows_at hnd 2 (by omega)
  have g3 : R.rows[(k * 4 + 3) + 5]? = _ := rows_at hnd 3 (by omega)
  have a0 := h.all.put _ _ ⟨53, 1, .slice none 0 0, 0, []⟩ g0 (Kept.refl _ w) (nilD w _ _) (nown _)
  have a1 := a0.put ((k * 4 + 1) + 5) _ ⟨53, 1, .slice none 0 0, 0, []⟩ (by rw [List.getElem?_set_ne (by omega)]; exact g1) (Kept.refl _ w) (nilD w _ _) (nown _)
  have a2 := a1.put ((k * 4 + 2) + 5) _ ⟨55, 6, .slice none 0 0, 0, []⟩ (by rw [List.getElem?_set_ne (by omega), List.getElem?_set_ne (by omega)]; exact g2) (Kept.refl _ w) (nilD w _ _) (nown _)
  have a3 := a2.put ((k * 4 + 3) + 5) _ ⟨3, 1, .slice none 0 0, 0, []⟩ (by rw [List.getElem?_set_ne (by omega), List.getElem?_set_ne (by omega), List.getElem?_set_ne (by omega)]; exact g3) (Kept.refl _ w) (nilD w _ _) (nown _)
  have a4 := a3.put 2 R.nodeD (R.putN k zeroN).nodeD (by rw [List.getElem?_set_ne (by omega), List.getElem?_set_ne (by omega), List.getElem?_set_ne (by omega), List.getElem?_set_ne (by omega)]; rfl) kn hn (fun x hx => .inl hx)
  have s0 := flat_set nodeR 4 (fun _ => rfl) R.nodes k hk 0 (by omega) ⟨53, 1, .slice none 0 0, 0, []⟩ { nd with fl := .slice none 0 0, fls := [] } (by rw [hnd']; rfl)
  have s1 := flat_set nodeR 4 (fun _ => rfl) (R.nodes.set k { nd with fl := .slice none 0 0, fls := [] }) k (by simpa using hk) 1 (by omega) ⟨53, 1, .slice none 0 0, 0, []⟩ { nd with fl := .slice none 0 0, fls := [], wt := .slice none 0 0, wts := [] } (by rw [List.getElem_set_self]; rfl)
  have s2 := flat_set nodeR 4 (fun _ => rfl) (R.nodes.set k { nd with fl := .slice none 0 0, fls := [], wt := .slice none 0 0, wts := [] }) k (by simpa using hk) 2 (by omega) ⟨55, 6, .slice none 0 0, 0, []⟩ { nd with fl := .slice none 0 0, fls := [], wt := .slice none 0 0, wts := [], en := .slice none 0 0, ents := [] } (by rw [List.getElem_set_self]; rfl)
  have s3 := flat_set nodeR 4 (fun _ => rfl) (R.nodes.set k { nd with fl := .slice none 0 0, fls := [], wt := .slice none 0 0, wts := [], en := .slice none 0 0, ents := [] }) k (by simpa using hk) 3 (by omega) ⟨3, 1, .slice none 0 0, 0, []⟩ zeroN (by rw [List.getElem_set_self]; rfl)
  rw [List.set_set] at s1 s2 s3
  have er : (R.putN k zeroN).rows = ((((R.rows.set ((k * 4 + 0) + 5) ⟨53, 1, .slice none 0 0, 0, []⟩).set ((k * 4 + 1) + 5) ⟨53, 1, .slice none 0 0, 0, []⟩).set ((k * 4 + 2) + 5) ⟨55, 6, .slice none 0 0, 0, []⟩).set ((k * 4 + 3) + 5) ⟨3, 1, .slice none 0 0, 0, []⟩).set 2 (R.putN k zeroN).nodeD := by
    show _ :: _ :: _ :: _ :: _ :: (R.nodes.set k zeroN).flatMap nodeR = _ :: _ :: _ :: _ :: _ :: ((((R.nodes.flatMap nodeR).set (k * 4 + 0) _).set (k * 4 + 1) _).set (k * 4 + 2) _).set (k * 4 + 3) _
    rw [s0, s1, s2, s3]; rfl
  exact ⟨h.blk.kept kn fun he => h.nodes.ne_block h.blk (by decide) he, by rw [er]; exact a4⟩

theorem node_put {l : List NodeE} {k : Nat} (hk : k < l.length) (nd : NodeE) :
    (((((((l.flatMap nodeC).set (k * 7) (.bool nd.up)).set (k * 7 + 1) (.int .u64 (nd.since : Int))).set (k * 7 + 2) (.int .u64 (nd.horizon : Int))).set (k * 7 + 3) nd.fl).set (k * 7 + 4) nd.wt).set (k * 7 + 5) nd.en).set (k * 7 + 6) nd.nm = (l.set k nd).flatMap nodeC := by
  obtain ⟨y, hy⟩ : ∃ y, y = l[k] := ⟨_, rfl⟩
  have s0 := flat_set nodeC 7 (fun _ => rfl) l k hk 0 (by omega) (.bool nd.up) { y with up := nd.up } (by rw [← hy]; rfl)
  have s1 := flat_set nodeC 7 (fun _ => rfl) (l.set k { y with up := nd.up }) k (by simpa using hk) 1 (by omega) (.int .u64 (nd.since : Int)) { y with up := nd.up, since := nd.since } (by rw [List.getElem_set_self]; rfl)
  have s2 := flat_set nodeC 7 (fun _ => rfl) (l.set k { y with up := nd.up, since := nd.since }) k (by simpa using hk) 2 (by omega) (.int .u64 (nd.horizon : Int)) { y with up := nd.up, since := nd.since, horizon := nd.horizon } (by rw [List.getElem_set_self]; rfl)
  have s3 := flat_set nodeC 7 (fun _ => rfl) (l.set k { y with up := nd.up, since := nd.since, horizon := nd.horizon }) k (by simpa using hk) 3 (by omega) nd.fl { y with up := nd.up, since := nd.since, horizon := nd.horizon, fl := nd.fl } (by rw [List.getElem_set_self]; rfl)
  have s4 := flat_set nodeC 7 (fun _ => rfl) (l.set k { y with up := nd.up, since := nd.since, horizon := nd.horizon, fl := nd.fl }) k (by simpa using hk) 4 (by omega) nd.wt { y with up := nd.up, since := nd.since, horizon := nd.horizon, fl := nd.fl, wt := nd.wt } (by rw [List.getElem_set_self]; rfl)
  have s5 := flat_set nodeC 7 (fun _ => rfl) (l.set k { y with up := nd.up, since := nd.since, horizon := nd.horizon, fl := nd.fl, wt := nd.wt }) k (by simpa using hk) 5 (by omega) nd.en { y with up := nd.up, since := nd.since, horizon := nd.horizon, fl := nd.fl, wt := nd.wt, en := nd.en } (by rw [List.getElem_set_self]; rfl)
  have s6 := flat_set nodeC 7 (fun _ => rfl) (l.set k { y with up := nd.up, since := nd.since, horizon := nd.horizon, fl := nd.fl, wt := nd.wt, en := nd.en }) k (by simpa using hk) 6 (by omega) nd.nm nd (by rw [List.getElem_set_self]; rfl)
  rw [Nat.add_zero] at s0
  rw [List.set_set] at s1 s2 s3 s4 s5 s6
  rw [s0, s1, s2, s3, s4, s5, s6]

set_option maxHeartbeats 1000000 in
theorem rfall (w : World) (b : Nat) (R : RefS) (k : Nat) (h : Ref w b R) (hm : R.nodes.length ≤ 3) (hk : k < R.nodes.length) :
    Calls Tryz.prog 123 #[.pointer (some ⟨b, 0, none⟩), .int .i64 k] w fun e w' => e = .returned (.tuple #[]) ∧ Ref w' b (R.putN k zeroN) ∧ Kept (fun j => R.vn.ownBlock = some j) w w' := by
  obtain ⟨g, cap, hv, ho, hgl⟩ := h.nodes.block (by omega)
  have c3 := h.c3
  rw [hv] at c3
  have a0 := h.nodes.cell ho (k * 7) _ (by have := node_at R.nodes k hk 0 (by omega); rw [Nat.add_zero] at this; rw [this]; rfl)
  have a1 := h.nodes.cell ho (k * 7 + 1) _ (by rw [node_at R.nodes k hk 1 (by omega)]; rfl)
  have a2 := h.nodes.cell ho (k * 7 + 2) _ (by rw [node_at R.nodes k hk 2 (by omega)]; rfl)
  have a3 := h.nodes.cell ho (k * 7 + 3) _ (by rw [node_at R.nodes k hk 3 (by omega)]; rfl)
  have a4 := h.nodes.cell ho (k * 7 + 4) _ (by rw [node_at R.nodes k hk 4 (by omega)]; rfl)
  have a5 := h.nodes.cell ho (k * 7 + 5) _ (by rw [node_at R.nodes k hk 5 (by omega)]; rfl)
  have a6 := h.nodes.cell ho (k * 7 + 6) _ (by rw [node_at R.nodes k hk 6 (by omega)]; rfl)
  have f0 := h.nodes.free ho (k * 7)
  have f1 := h.nodes.free ho (k * 7 + 1)
  have f2 := h.nodes.free ho (k * 7 + 2)
  have f3 := h.nodes.free ho (k * 7 + 3)
  have f4 := h.nodes.free ho (k * 7 + 4)
  have f5 := h.nodes.free ho (k * 7 + 5)
  have f6 := h.nodes.free ho (k * 7 + 6)
  have r0 := (((((((h.nodes.set ho (k * 7) (.bool false)).set ho (k * 7 + 1) (.int .u64 0)).set ho (k * 7 + 2) (.int .u64 0)).set ho (k * 7 + 3) (.slice none 0 0)).set ho (k * 7 + 4) (.slice none 0 0)).set ho (k * 7 + 5) (.slice none 0 0)).set ho (k * 7 + 6) (.slice none 0 0))
  have e0 := node_put hk zeroN
  have k0 : Kept (fun j => R.vn.ownBlock = some j) w (((((((w.setCell ⟨g, k * 7, none⟩ (.bool false)).setCell ⟨g, k * 7 + 1, none⟩ (.int .u64 0)).setCell ⟨g, k * 7 + 2, none⟩ (.int .u64 0)).setCell ⟨g, k * 7 + 3, none⟩ (.slice none 0 0)).setCell ⟨g, k * 7 + 4, none⟩ (.slice none 0 0)).setCell ⟨g, k * 7 + 5, none⟩ (.slice none 0 0)).setCell ⟨g, k * 7 + 6, none⟩ (.slice none 0 0)) := by
    have one : ∀ (u : World) (o : Nat) (v : Value), Kept (fun j => R.vn.ownBlock = some j) u (u.setCell ⟨g, o, none⟩ v) := fun u o v => (Kept.setCell u _ _).mono fun j hj => by rw [ho, hj]
    have tr : ∀ {a b c : World}, Kept (fun j => R.vn.ownBlock = some j) a b → Kept (fun j => R.vn.ownBlock = some j) b c → Kept (fun j => R.vn.ownBlock = some j) a c := fun p q => p.trans q (fun _ => id) (fun _ _ => id)
    exact tr (tr (tr (tr (tr (tr (one _ _ _) (one _ _ _)) (one _ _ _)) (one _ _ _)) (one _ _ _)) (one _ _ _)) (one _ _ _)
  have HZ := h.putZero (List.getElem?_eq_getElem hk) k0 (by rw [List.length_set, ← e0]; exact r0)
  have HZ' : Hid (Ref (((((((w.setCell ⟨g, k * 7, none⟩ (.bool false)).setCell ⟨g, k * 7 + 1, none⟩ (.int .u64 0)).setCell ⟨g, k * 7 + 2, none⟩ (.int .u64 0)).setCell ⟨g, k * 7 + 3, none⟩ (.slice none 0 0)).setCell ⟨g, k * 7 + 4, none⟩ (.slice none 0 0)).setCell ⟨g, k * 7 + 5, none⟩ (.slice none 0 0)).setCell ⟨g, k * 7 + 6, none⟩ (.slice none 0 0)) b (R.putN k zeroN)) := HZ
  have HK : Hid (Kept (fun j => R.vn.ownBlock = some j) w (((((((w.setCell ⟨g, k * 7, none⟩ (.bool false)).setCell ⟨g, k * 7 + 1, none⟩ (.int .u64 0)).setCell ⟨g, k * 7 + 2, none⟩ (.int .u64 0)).setCell ⟨g, k * 7 + 3, none⟩ (.slice none 0 0)).setCell ⟨g, k * 7 + 4, none⟩ (.slice none 0 0)).setCell ⟨g, k * 7 + 5, none⟩ (.slice none 0 0)).setCell ⟨g, k * 7 + 6, none⟩ (.slice none 0 0))) := k0
  clear r0 e0 k0 HZ h hv ho
  go_enter Tryz.func123, Tryz.ntmps123
  go_wp2
  go_end0
  exact ⟨rfl, HZ'.out, HK.out⟩

end Go.Proofs.YtpfcacedpkaihaaGreat
