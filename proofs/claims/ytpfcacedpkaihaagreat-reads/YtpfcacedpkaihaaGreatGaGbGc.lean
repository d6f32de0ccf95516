import Derived.Test.YtpfcacedpkaihaaGreatPz
import Derived.Deep.QuietTactic
import Derived.BigQuiet
import Derived.BigGuardPart
/- The document's own world in memory (package almanacref): what its blocks hold. -/
namespace Go.Proofs.YtpfcacedpkaihaaGreat
open Go.RowKit
structure NodeE where
  up : Bool
  since : Nat
  horizon : Nat
  fl : Value
  wt : Value
  en : Value
  nm : Value
  fls : List Nat
  wts : List Nat
  ents : List EntE
  nms : List Int
def nodeC (n : NodeE) : List Value := [.bool n.up, .int .u64 (n.since : Int), .int .u64 (n.horizon : Int), n.fl, n.wt, n.en, n.nm]
structure RefS where
  past : List PastE
  clock : Int
  rdrs : List RdrE
  nodes : List NodeE
  room : Int
  next : Int
  puts : List EntE
  uses : List Int
  vp : Value
  vr : Value
  vn : Value
  vu : Value
  vs : Value

def nodeR (nd : NodeE) : List RowD := [⟨53, 1, nd.fl, nd.fls.length, u64s nd.fls⟩, ⟨53, 1, nd.wt, nd.wts.length, u64s nd.wts⟩, ⟨55, 6, nd.en, nd.ents.length, nd.ents.flatMap entC⟩, ⟨3, 1, nd.nm, nd.nms.length, i64s nd.nms⟩]
def RefS.rows (R : RefS) : List RowD :=
  ⟨143, 10, R.vp, R.past.length, R.past.flatMap pastC⟩ :: ⟨162, 3, R.vr, R.rdrs.length, R.rdrs.flatMap rdrC⟩ :: ⟨146, 7, R.vn, R.nodes.length, R.nodes.flatMap nodeC⟩ ::
    ⟨55, 6, R.vu, R.puts.length, R.puts.flatMap entC⟩ :: ⟨3, 1, R.vs, R.uses.length, i64s R.uses⟩ :: R.nodes.flatMap nodeR

structure Ref (w : World) (b : Nat) (R : RefS) : Prop where
  blk : Blk w b 84 #[R.vp, .int .i64 R.clock, R.vr, R.vn, .int .i64 R.room, R.vu, R.vs, .int .i64 R.next]
  all : Rows' w R.rows

theorem rows_ne_world {R : RefS} {r : RowD} (h : r ∈ R.rows) : r.T ≠ 84 := by
  simp only [RefS.rows, List.mem_cons, List.mem_flatMap, nodeR, List.not_mem_nil, or_false] at h
  rcases h with rfl | rfl | rfl | rfl | rfl | ⟨nd, _, rfl | rfl | rfl | rfl⟩ <;> (dsimp only; decide)

theorem Ref.past {w : World} {b : Nat} {R : RefS} (h : Ref w b R) : Row w 143 10 R.vp R.past.length (R.past.flatMap pastC) := h.all.row _ (List.mem_of_getElem? (i := 0) rfl)
theorem Ref.rdrs {w : World} {b : Nat} {R : RefS} (h : Ref w b R) : Row w 162 3 R.vr R.rdrs.length (R.rdrs.flatMap rdrC) := h.all.row _ (List.mem_of_getElem? (i := 1) rfl)
theorem Ref.nodes {w : World} {b : Nat} {R : RefS} (h : Ref w b R) : Row w 146 7 R.vn R.nodes.length (R.nodes.flatMap nodeC) := h.all.row _ (List.mem_of_getElem? (i := 2) rfl)
theorem Ref.puts {w : World} {b : Nat} {R : RefS} (h : Ref w b R) : Row w 55 6 R.vu R.puts.length (R.puts.flatMap entC) := h.all.row _ (List.mem_of_getElem? (i := 3) rfl)
theorem Ref.uses {w : World} {b : Nat} {R : RefS} (h : Ref w b R) : Row w 3 1 R.vs R.uses.length (i64s R.uses) := h.all.row _ (List.mem_of_getElem? (i := 4) rfl)
theorem nodeR_mem {R : RefS} {nd : NodeE} {r : RowD} (hn : nd ∈ R.nodes) (hr : r ∈ nodeR nd) : r ∈ R.rows := by
  simp only [RefS.rows, List.mem_cons, List.mem_flatMap]
  exact .inr (.inr (.inr (.inr (.inr ⟨nd, hn, hr⟩))))
theorem Ref.fls {w : World} {b : Nat} {R : RefS} (h : Ref w b R) : ∀ nd ∈ R.nodes, Row w 53 1 nd.fl nd.fls.length (u64s nd.fls) := fun _ hn => h.all.row ⟨_, _, _, _, _⟩ (nodeR_mem hn (List.mem_of_getElem? (i := 0) rfl))
theorem Ref.wts {w : World} {b : Nat} {R : RefS} (h : Ref w b R) : ∀ nd ∈ R.nodes, Row w 53 1 nd.wt nd.wts.length (u64s nd.wts) := fun _ hn => h.all.row ⟨_, _, _, _, _⟩ (nodeR_mem hn (List.mem_of_getElem? (i := 1) rfl))
theorem Ref.ents {w : World} {b : Nat} {R : RefS} (h : Ref w b R) : ∀ nd ∈ R.nodes, Row w 55 6 nd.en nd.ents.length (nd.ents.flatMap entC) := fun _ hn => h.all.row ⟨_, _, _, _, _⟩ (nodeR_mem hn (List.mem_of_getElem? (i := 2) rfl))
theorem Ref.nms {w : World} {b : Nat} {R : RefS} (h : Ref w b R) : ∀ nd ∈ R.nodes, Row w 3 1 nd.nm nd.nms.length (i64s nd.nms) := fun _ hn => h.all.row ⟨_, _, _, _, _⟩ (nodeR_mem hn (List.mem_of_getElem? (i := 3) rfl))

/-- the bounds that a world of the document's keeps. -/
structure RefS.Fit (R : RefS) : Prop where
  pos : 0 < R.past.length
  pmax : R.past.length ≤ 701
  clk0 : 0 ≤ R.clock
  clk1 : R.clock ≤ 100000
  rmax : R.rdrs.length ≤ 200
  npos : 0 < R.nodes.length
  nmax : R.nodes.length ≤ 3
  fmax : ∀ nd ∈ R.nodes, nd.fls.length ≤ 12 ∧ nd.horizon ≤ 700 ∧ ∀ t ∈ nd.fls, t ≤ 700

def RefS.fp (R : RefS) (b : Nat) (k : Nat) : Prop := k = b ∨ ∃ r ∈ R.rows, r.v.ownBlock = some k

theorem fp_self (R : RefS) (b : Nat) : R.fp b b := .inl rfl
theorem fp_vp {R : RefS} {b k : Nat} (h : R.vp.ownBlock = some k) : R.fp b k := .inr ⟨_, List.mem_of_getElem? (i := 0) rfl, h⟩
theorem fp_vr {R : RefS} {b k : Nat} (h : R.vr.ownBlock = some k) : R.fp b k := .inr ⟨_, List.mem_of_getElem? (i := 1) rfl, h⟩
theorem fp_vn {R : RefS} {b k : Nat} (h : R.vn.ownBlock = some k) : R.fp b k := .inr ⟨_, List.mem_of_getElem? (i := 2) rfl, h⟩

theorem Ref.lt {w : World} {b : Nat} {R : RefS} (h : Ref w b R) : ∀ k, R.fp b k → k < w.heap.size := by
  rintro k (rfl | ⟨r, hr, hk⟩)
  · exact h.blk.lt
  · exact (h.all.row r hr).lt k hk
theorem Ref.ne {w : World} {b : Nat} {R : RefS} (h : Ref w b R) : ∀ r ∈ R.rows, r.v.ownBlock ≠ some b := fun r hr => (h.all.row r hr).ne_block h.blk (rows_ne_world hr)

theorem Ref.same {w w' : World} {b : Nat} {R : RefS} (h : Ref w b R) (hs : ∀ k, R.fp b k → w'.heap[k]? = w.heap[k]?) : Ref w' b R :=
  ⟨h.blk.same (hs b (.inl rfl)), h.all.same fun k hk => hs k (.inr hk)⟩
theorem Ref.kept {w w' : World} {F : Nat → Prop} {b : Nat} {R : RefS} (h : Ref w b R) (k : Kept F w w') (hF : ∀ j, R.fp b j → ¬ F j) : Ref w' b R :=
  h.same fun j hj => k.block j (h.lt j hj) (hF j hj)

/-- one of a world's rows has turned, and the cell of the world that holds it: a world again. -/
theorem Ref.put {w w' : World} {b : Nat} {R R' : RefS} (h : Ref w b R) (i f : Nat) (r r' : RowD) (hi : R.rows[i]? = some r) (k : Kept (fun j => r.v.ownBlock = some j) w w') (hr : r'.Is w')
    (hown : ∀ x, r'.v.ownBlock = some x → r.v.ownBlock = some x ∨ w.heap.size ≤ x) (hrows : R'.rows = R.rows.set i r') (hT : r'.T ≠ 84)
    (hblk : (#[R.vp, .int .i64 R.clock, R.vr, R.vn, .int .i64 R.room, R.vu, R.vs, .int .i64 R.next] : Array Value).setIfInBounds f r'.v = #[R'.vp, .int .i64 R'.clock, R'.vr, R'.vn, .int .i64 R'.room, R'.vu, R'.vs, .int .i64 R'.next]) :
    Ref (w'.setCell ⟨b, f, none⟩ r'.v) b R' ∧ Kept (R.fp b) w (w'.setCell ⟨b, f, none⟩ r'.v) ∧ (∀ x, R'.fp b x → R.fp b x ∨ w.heap.size ≤ x) := by
  have hm : r ∈ R.rows := List.mem_of_getElem? hi
  have blk1 := h.blk.kept k fun he => h.ne r hm he
  have all1 := h.all.put i r r' hi k hr hown
  have k2 := Kept.setCell w' ⟨b, f, none⟩ r'.v
  refine ⟨⟨?_, ?_⟩, k.trans k2 (fun x hx => .inr ⟨r, hm, hx⟩) (fun x _ hx => .inl hx), ?_⟩
  · rw [← hblk]; exact blk1.set f _
  · rw [hrows]
    refine all1.kept k2 ?_
    rintro j ⟨a, ha, hj⟩ he
    subst he
    rcases List.mem_or_eq_of_mem_set ha with ha' | rfl
    · exact (all1.row a ha).ne_block blk1 (rows_ne_world ha') hj
    · exact Row.ne_block hr blk1 hT hj
  · rintro x (rfl | ⟨a, ha, hx⟩)
    · exact .inl (.inl rfl)
    · rw [hrows] at ha
      rcases List.mem_or_eq_of_mem_set ha with ha | rfl
      · exact .inl (.inr ⟨a, ha, hx⟩)
      · exact (hown x hx).imp (fun hh => .inr ⟨r, hm, hh⟩) id

/-- one of a world's rows has turned where it lies: a world again. -/
theorem Ref.turn {w w' : World} {b : Nat} {R R' : RefS} (h : Ref w b R) (i : Nat) (r r' : RowD) (hi : R.rows[i]? = some r) (k : Kept (fun j => r.v.ownBlock = some j) w w') (hr : r'.Is w') (hv : r'.v = r.v) (hrows : R'.rows = R.rows.set i r')
    (hblk : #[R.vp, .int .i64 R.clock, R.vr, R.vn, .int .i64 R.room, R.vu, R.vs, .int .i64 R.next] = #[R'.vp, .int .i64 R'.clock, R'.vr, R'.vn, .int .i64 R'.room, R'.vu, R'.vs, .int .i64 R'.next]) : Ref w' b R' :=
  ⟨by rw [← hblk]; exact h.blk.kept k fun he => h.ne r (List.mem_of_getElem? hi) he, by rw [hrows]; exact h.all.put i r r' hi k hr fun x hx => .inl (by rw [← hv]; exact hx)⟩

/-- a world with another node k. -/
def RefS.putN (R : RefS) (k : Nat) (nd : NodeE) : RefS := { R with nodes := R.nodes.set k nd }
def RefS.nodeD (R : RefS) : RowD := ⟨146, 7, R.vn, R.nodes.length, R.nodes.flatMap nodeC⟩

theorem rows_at {R : RefS} {k : Nat} {nd : NodeE} (hnd : R.nodes[k]? = some nd) (f : Nat) (hf : f < 4) : R.rows[(k * 4 + f) + 5]? = (nodeR nd)[f]? := by
  obtain ⟨hk, hnd'⟩ := List.getElem?_eq_some_iff.mp hnd
  show (R.nodes.flatMap nodeR)[k * 4 + f]? = _
  rw [flat_at nodeR 4 (fun _ => rfl) R.nodes k hk f hf, hnd']
theorem rows_set {R : RefS} {k : Nat} {nd y : NodeE} (hnd : R.nodes[k]? = some nd) (f : Nat) (hf : f < 4) (r : RowD) (hy : nodeR y = (nodeR nd).set f r) :
    (R.putN k y).rows = (R.rows.set ((k * 4 + f) + 5) r).set 2 (R.putN k y).nodeD := by
  obtain ⟨hk, hnd'⟩ := List.getElem?_eq_some_iff.mp hnd
  have e := flat_set nodeR 4 (fun _ => rfl) R.nodes k hk f hf r y (by rw [hnd']; exact hy)
  show _ :: _ :: _ :: _ :: _ :: (R.nodes.set k y).flatMap nodeR = _ :: _ :: _ :: _ :: _ :: (R.nodes.flatMap nodeR).set (k * 4 + f) r
  rw [e]; rfl

/-- one row of a node, and the cell of the node that holds it, have turned: a world again. -/
theorem Ref.putF {w w1 w' : World} {b k f : Nat} {R : RefS} {nd y : NodeE} {r r' : RowD} (h : Ref w b R) (hnd : R.nodes[k]? = some nd) (hf : f < 4) (hr : (nodeR nd)[f]? = some r) (hy : nodeR y = (nodeR nd).set f r')
    (k1 : Kept (fun j => r.v.ownBlock = some j) w w1) (hr' : r'.Is w1) (hown : ∀ x, r'.v.ownBlock = some x → r.v.ownBlock = some x ∨ w.heap.size ≤ x)
    (k2 : Kept (fun j => R.vn.ownBlock = some j) w1 w') (hn : Row w' 146 7 R.vn (R.nodes.set k y).length ((R.nodes.set k y).flatMap nodeC)) :
    Ref w' b (R.putN k y) ∧ Kept (R.fp b) w w' ∧ (∀ x, (R.putN k y).fp b x → R.fp b x ∨ w.heap.size ≤ x) := by
  have hi : R.rows[(k * 4 + f) + 5]? = some r := (rows_at hnd f hf).trans hr
  have hm : r ∈ R.rows := List.mem_of_getElem? hi
  have hmn : R.nodeD ∈ R.rows := List.mem_of_getElem? (i := 2) rfl
  have all1 := h.all.put ((k * 4 + f) + 5) r r' hi k1 hr' hown
  have h2 : (R.rows.set ((k * 4 + f) + 5) r')[2]? = some R.nodeD := by rw [List.getElem?_set_ne (by omega)]; rfl
  have all2 := all1.put 2 R.nodeD (R.putN k y).nodeD h2 k2 hn (fun x hx => .inl hx)
  have blk1 := h.blk.kept k1 fun he => h.ne r hm he
  have rown : Row w1 146 7 R.vn R.nodes.length (R.nodes.flatMap nodeC) := all1.row _ (List.mem_of_getElem? h2)
  have blk2 := blk1.kept k2 fun he => rown.ne_block blk1 (by decide) he
  have er := rows_set hnd f hf r' hy
  refine ⟨⟨blk2, by rw [er]; exact all2⟩, k1.trans k2 (fun x hx => .inr ⟨r, hm, hx⟩) (fun x _ hx => .inr ⟨_, hmn, hx⟩), ?_⟩
  rintro x (rfl | ⟨a, ha, hx⟩)
  · exact .inl (.inl rfl)
  · rw [er] at ha
    rcases List.mem_or_eq_of_mem_set ha with ha | rfl
    · rcases List.mem_or_eq_of_mem_set ha with ha | rfl
      · exact .inl (.inr ⟨a, ha, hx⟩)
      · exact (hown x hx).imp (fun hh => .inr ⟨r, hm, hh⟩) id
    · exact .inl (.inr ⟨_, hmn, hx⟩)

/-- the cells of the world's own block. -/
theorem Ref.c0 {w : World} {b : Nat} {R : RefS} (h : Ref w b R) : w.cell? ⟨b, 0, none⟩ = some R.vp := h.blk.cell 0
theorem Ref.c1 {w : World} {b : Nat} {R : RefS} (h : Ref w b R) : w.cell? ⟨b, 1, none⟩ = some (.int .i64 R.clock) := h.blk.cell 1
theorem Ref.c2 {w : World} {b : Nat} {R : RefS} (h : Ref w b R) : w.cell? ⟨b, 2, none⟩ = some R.vr := h.blk.cell 2
theorem Ref.c3 {w : World} {b : Nat} {R : RefS} (h : Ref w b R) : w.cell? ⟨b, 3, none⟩ = some R.vn := h.blk.cell 3

theorem rdr_at (l : List RdrE) (j : Nat) (hj : j < l.length) (f : Nat) (hf : f < 3) : (l.flatMap rdrC)[j * 3 + f]? = (rdrC l[j])[f]? := flat_at rdrC 3 (fun _ => rfl) l j hj f hf
theorem node_at (l : List NodeE) (j : Nat) (hj : j < l.length) (f : Nat) (hf : f < 7) : (l.flatMap nodeC)[j * 7 + f]? = (nodeC l[j])[f]? := flat_at nodeC 7 (fun _ => rfl) l j hj f hf

end Go.Proofs.YtpfcacedpkaihaaGreat

/- The document's newest, Tick, fresh, gone and fall (package almanacref), walked. -/
namespace Go.Proofs.YtpfcacedpkaihaaGreat
open Go.RowKit
set_option maxHeartbeats 400000 in
theorem rnewest_c (w : World) (b : Nat) (ao : Option Addr) (n cap : Nat) (c0 : w.cell? ⟨b, 0, none⟩ = some (.slice ao n cap)) (hp : 0 < n) (hm : n ≤ 701) :
    Calls Tryz.prog 77 #[.pointer (some ⟨b, 0, none⟩)] w fun e w' => e = .returned (.int .u64 ((n - 1 : Nat) : Int)) ∧ w = w' := by
  go_enter Tryz.func77, Tryz.ntmps77
  go_wp2
  go_ret
  exact ⟨rt_int (by omega), rfl⟩

set_option maxHeartbeats 400000 in
theorem rnewest (w : World) (b : Nat) (R : RefS) (h : Ref w b R) (hf : R.Fit) :
    Calls Tryz.prog 77 #[.pointer (some ⟨b, 0, none⟩)] w fun e w' => e = .returned (.int .u64 ((R.past.length - 1 : Nat) : Int)) ∧ w = w' := by
  obtain ⟨ao, cap, hv, _⟩ := h.past.form
  have c0 := h.c0
  rw [hv] at c0
  have hp := hf.pos
  have hm := hf.pmax
  clear h hf hv
  go_enter Tryz.func77, Tryz.ntmps77
  go_wp2
  go_ret
  exact ⟨rt_int (by omega), rfl⟩

theorem Ref.tick {w : World} {b : Nat} {R : RefS} (h : Ref w b R) (c : Int) : Ref (w.setCell ⟨b, 1, none⟩ (.int .i64 c)) b { R with clock := c } :=
  ⟨h.blk.set 1 _, h.all.kept (Kept.setCell w ⟨b, 1, none⟩ (.int .i64 c)) (by rintro j ⟨r, hr, hj⟩ he; subst he; exact h.ne r hr hj)⟩

set_option maxHeartbeats 400000 in
theorem rtick (w : World) (b : Nat) (R : RefS) (h : Ref w b R) (hf : R.Fit) :
    Calls Tryz.prog 32 #[.pointer (some ⟨b, 0, none⟩)] w fun e w' =>
      (R.clock = 100000 ∧ e = .returned (.int .i64 6) ∧ w = w') ∨ (R.clock < 100000 ∧ e = .returned (.int .i64 0) ∧ Ref w' b { R with clock := R.clock + 1 } ∧ Kept (R.fp b) w w') := by
  have c1 := h.c1
  have f1 := h.blk.free 1
  have hm0 := hf.clk0
  have hm1 := hf.clk1
  by_cases hc : R.clock = 100000
  · have hc' : (R.clock == 100000) = true := beq_iff_eq.mpr hc
    have HC : Hid (R.clock = 100000) := hc
    clear hc h hf
    go_enter Tryz.func32, Tryz.ntmps32
    go_wp2
    go_ret
    exact .inl ⟨HC.out, rfl, rfl⟩
  · have hc' : (R.clock == 100000) = false := beq_eq_false_iff_ne.mpr hc
    have HR : Hid (Ref w b R) := h
    clear h hf
    go_enter Tryz.func32, Tryz.ntmps32
    go_wp2
    go_ret
    exact .inr ⟨by omega, rfl, HR.out.tick _, (Kept.setCell _ _ _).mono fun k hk => .inl hk⟩

/-- was the state of a stamp newest at some tick from one on? -/
def freshB (l : List PastE) (t : Nat) (tick : Int) : Bool := decide (t = l.length - 1) || decide (tick ≤ (l[t + 1]?.map PastE.tick).getD 0)

set_option maxHeartbeats 1000000 in
theorem rfresh (w : World) (b : Nat) (R : RefS) (t : Nat) (tick : Int) (h : Ref w b R) (hf : R.Fit) (ht : t < R.past.length) :
    Calls Tryz.prog 84 #[.pointer (some ⟨b, 0, none⟩), .int .u64 t, .int .i64 tick] w fun e w' => e = .returned (.bool (freshB R.past t tick)) ∧ w = w' := by
  have hp := hf.pos
  have hm := hf.pmax
  obtain ⟨g, cap, hv, ho, _⟩ := h.past.block hp
  have c0 := h.c0
  rw [hv] at c0
  have hn := fun W (hW : Ref W b R) => rnewest W b R hW hf
  have HN : Hid (∀ W, Ref W b R → Calls Tryz.prog 77 #[.pointer (some ⟨b, 0, none⟩)] W fun e w' => e = .returned (.int .u64 ((R.past.length - 1 : Nat) : Int)) ∧ W = w') := hn
  have HR : Hid (Ref w b R) := h
  by_cases hc : t = R.past.length - 1
  · have hb : (((t : Int)) == ((R.past.length - 1 : Nat) : Int)) = true := beq_iff_eq.mpr (by omega)
    have HF : Hid (freshB R.past t tick = true) := by simp [Hid, freshB, hc]
    clear hc h hf hv hn ho
    go_enter Tryz.func84, Tryz.ntmps84
    go_wp2_with (go_at_call 77; refine (HN.out _ HR.out).mono ?_; rintro e w' ⟨rfl, rfl⟩)
    go_ret
    exact ⟨rt_bool (by rw [HF.out]), rfl⟩
  · have hb : (((t : Int)) == ((R.past.length - 1 : Nat) : Int)) = false := beq_eq_false_iff_ne.mpr (by omega)
    have hlt : t + 1 < R.past.length := by omega
    have hcell := h.past.cell ho ((t + 1) * 10 + 9) _ (by rw [past_at R.past (t + 1) hlt 9 (by omega)]; rfl)
    obtain ⟨tk, htk⟩ : ∃ tk, tk = R.past[t + 1].tick := ⟨_, rfl⟩
    rw [← htk] at hcell
    have HF : Hid (freshB R.past t tick = decide (tick ≤ tk)) := by simp [Hid, freshB, hc, List.getElem?_eq_getElem hlt, htk]
    clear hc h hf hv hn ho htk
    go_enter Tryz.func84, Tryz.ntmps84
    go_wp2_with (go_at_call 77; refine (HN.out _ HR.out).mono ?_; rintro e w' ⟨rfl, rfl⟩)
    go_ret
    exact ⟨rt_bool (by rw [HF.out]), rfl⟩

end Go.Proofs.YtpfcacedpkaihaaGreat

/- The document's gone and End (package almanacref), walked. -/
namespace Go.Proofs.YtpfcacedpkaihaaGreat
open Go.RowKit

/-- is there no such reader, or has it ended? -/
def goneB (l : List RdrE) (r : Int) : Bool := decide (r < 0) || decide ((l.length : Int) ≤ r) || (l[r.toNat]?.map RdrE.ended).getD false

set_option maxHeartbeats 1000000 in
theorem rgone (w : World) (b : Nat) (R : RefS) (r : Int) (h : Ref w b R) (hf : R.Fit) :
    Calls Tryz.prog 86 #[.pointer (some ⟨b, 0, none⟩), .int .i64 r] w fun e w' => e = .returned (.bool (goneB R.rdrs r)) ∧ w = w' := by
  have hm := hf.rmax
  obtain ⟨ao, cap, hv, _⟩ := h.rdrs.form
  have c2 := h.c2
  rw [hv] at c2
  by_cases h0 : r < 0
  · have hd : decide (r < 0) = true := by simpa using h0
    have HF : Hid (goneB R.rdrs r = true) := by simp [Hid, goneB, h0]
    clear h hf hv
    go_enter Tryz.func86, Tryz.ntmps86
    go_wp2
    go_ret
    exact ⟨rt_bool (by rw [HF.out]), rfl⟩
  · have hd : decide (r < 0) = false := by simpa using h0
    by_cases h1 : (R.rdrs.length : Int) ≤ r
    · have hd1 : decide ((R.rdrs.length : Int) ≤ r) = true := by simpa using h1
      have HF : Hid (goneB R.rdrs r = true) := by simp [Hid, goneB, h1]
      clear h hf hv
      go_enter Tryz.func86, Tryz.ntmps86
      go_wp2
      go_ret
      exact ⟨rt_bool (by rw [HF.out]), rfl⟩
    · have hd1 : decide ((R.rdrs.length : Int) ≤ r) = false := by simpa using h1
      obtain ⟨j, rfl⟩ : ∃ j : Nat, r = j := ⟨r.toNat, by omega⟩
      have hlt : j < R.rdrs.length := by omega
      obtain ⟨g, cap', hv', ho, _⟩ := h.rdrs.block (by omega)
      rw [hv] at hv'
      injection hv' with e1 _ e2
      subst e1
      have hcell := h.rdrs.cell ho (j * 3 + 2) _ (by rw [rdr_at R.rdrs j hlt 2 (by omega)]; rfl)
      obtain ⟨en, hen⟩ : ∃ en, en = R.rdrs[j].ended := ⟨_, rfl⟩
      rw [← hen] at hcell
      have HF : Hid (goneB R.rdrs j = en) := by
        have a : ¬ (j : Int) < 0 := by omega
        have c : ¬ (R.rdrs.length : Int) ≤ (j : Int) := by omega
        show goneB R.rdrs j = en
        simp only [goneB, a, c, decide_false, Bool.false_or, Int.toNat_natCast, List.getElem?_eq_getElem hlt, hen]; rfl
      clear h hf hv ho hen
      go_enter Tryz.func86, Tryz.ntmps86
      go_wp2
      go_ret
      exact ⟨rt_bool (by rw [HF.out]), rfl⟩

/-- a reader ends. -/
def RefS.endR (R : RefS) (j : Nat) (x : RdrE) : RefS := { R with rdrs := R.rdrs.set j { x with ended := true } }

theorem Ref.endR {w : World} {b : Nat} {R : RefS} (h : Ref w b R) (j g : Nat) (x : RdrE) (hx : R.rdrs[j]? = some x) (ho : R.vr.ownBlock = some g) : Ref (w.setCell ⟨g, j * 3 + 2, none⟩ (.bool true)) b (R.endR j x) := by
  have k := Kept.setCell w ⟨g, j * 3 + 2, none⟩ (.bool true)
  obtain ⟨hj, hx'⟩ := List.getElem?_eq_some_iff.mp hx
  have e : (R.rdrs.flatMap rdrC).set (j * 3 + 2) (.bool true) = (R.rdrs.set j { x with ended := true }).flatMap rdrC :=
    flat_set rdrC 3 (fun _ => rfl) R.rdrs j hj 2 (by omega) (.bool true) { x with ended := true } (by rw [hx']; rfl)
  refine h.turn 1 ⟨162, 3, R.vr, R.rdrs.length, R.rdrs.flatMap rdrC⟩ ⟨162, 3, R.vr, (R.rdrs.set j { x with ended := true }).length, (R.rdrs.set j { x with ended := true }).flatMap rdrC⟩ rfl (k.mono fun i hi => by show R.vr.ownBlock = some i; rw [ho, hi]) ?_ rfl rfl rfl
  show Row _ _ 3 R.vr (R.rdrs.set j _).length ((R.rdrs.set j _).flatMap rdrC)
  rw [List.length_set, ← e]
  exact h.rdrs.set ho _ _

set_option maxHeartbeats 1000000 in
theorem rend (w : World) (b : Nat) (R : RefS) (r : Int) (h : Ref w b R) (hf : R.Fit) :
    Calls Tryz.prog 37 #[.pointer (some ⟨b, 0, none⟩), .int .i64 r] w fun e w' =>
      (goneB R.rdrs r = true ∧ e = .returned (.tuple #[.agg #[.int .u64 0, .int .u64 0], .int .i64 8]) ∧ Below w.heap.size w w') ∨
      (∃ (j : Nat) (x : RdrE), r = j ∧ R.rdrs[j]? = some x ∧ x.ended = false ∧ e = .returned (.tuple #[.agg #[.int .u64 (x.lo : Int), .int .u64 (x.hi : Int)], .int .i64 0]) ∧ Ref w' b (R.endR j x) ∧ Kept (R.fp b) w w') := by
  have HG : Hid (∀ W, Ref W b R → Calls Tryz.prog 86 #[.pointer (some ⟨b, 0, none⟩), .int .i64 r] W fun e w' => e = .returned (.bool (goneB R.rdrs r)) ∧ W = w') := fun W hW => rgone W b R r hW hf
  have hlt0 := h.lt
  have hb := h.blk.lt
  have hR1 : Ref (w.alloc (.cells #[.int .u64 0, .int .u64 0] 88)) b R := h.kept (Kept.alloc w _ (fun _ => False)) (fun _ _ => id)
  have HR1 : Hid (Ref (w.alloc (.cells #[.int .u64 0, .int .u64 0] 88)) b R) := hR1
  cases hg : goneB R.rdrs r with
  | true =>
    rw [hg] at HG
    clear h hR1 hf hlt0
    go_enter Tryz.func37, Tryz.ntmps37
    go_wp2_with (go_at_call 86; refine (HG.out _ HR1.out).mono ?_; rintro e w' ⟨rfl, rfl⟩)
    refine bodyPost_ret (v := .tuple #[.agg #[.int .u64 0, .int .u64 0], .int .i64 8]) (by simp [results, Tryz.results37, go_sem]) rfl (.inl ⟨by trivial, rfl, ?_⟩)
    exact ((((Below.refl _ _).alloc (Nat.le_refl _) _)))
  | false =>
    rw [hg] at HG
    have hz : ¬ r < 0 := by intro hh; simp [goneB, hh] at hg
    have hz1 : ¬ (R.rdrs.length : Int) ≤ r := by intro hh; simp [goneB, hh] at hg
    obtain ⟨j, rfl⟩ : ∃ j : Nat, r = j := ⟨r.toNat, by omega⟩
    have hlt : j < R.rdrs.length := by omega
    have hm := hf.rmax
    have hen : R.rdrs[j].ended = false := by
      simp only [goneB, hz, hz1, decide_false, Bool.false_or, Int.toNat_natCast, List.getElem?_eq_getElem hlt] at hg; exact hg
    obtain ⟨g, cap, hv, ho, hgl⟩ := h.rdrs.block (by omega)
    have c2 := h.c2
    rw [hv] at c2
    have q0 := h.rdrs.cell ho (j * 3) _ (by have := rdr_at R.rdrs j hlt 0 (by omega); rw [Nat.add_zero] at this; rw [this]; rfl)
    have q1 := h.rdrs.cell ho (j * 3 + 1) _ (by rw [rdr_at R.rdrs j hlt 1 (by omega)]; rfl)
    have q2 := h.rdrs.cell ho (j * 3 + 2) _ (by rw [rdr_at R.rdrs j hlt 2 (by omega)]; rfl)
    have f2 := h.rdrs.free ho (j * 3 + 2)
    have hnb : g ≠ b := fun e => h.rdrs.ne_block h.blk (by decide) (by rw [ho, e])
    obtain ⟨x, hx⟩ : ∃ x, x = R.rdrs[j] := ⟨_, rfl⟩
    rw [← hx] at q0 q1 q2
    have HX : Hid (R.rdrs[j]? = some x ∧ x.ended = false) := ⟨by rw [hx]; exact List.getElem?_eq_getElem hlt, by rw [hx]; exact hen⟩
    have hE := h.endR j g x HX.out.1 ho
    have HE : Hid (∀ c, Ref ((w.setCell ⟨g, j * 3 + 2, none⟩ (.bool true)).alloc c) b (R.endR j x)) := fun c => hE.kept (Kept.alloc _ _ (fun _ => False)) (fun _ _ => id)
    clear hE
    have HO : Hid (R.vr.ownBlock = some g) := ho
    clear h hR1 hf hlt0 hv ho hx hen hg
    go_enter Tryz.func37, Tryz.ntmps37
    go_wp2_with (go_at_call 86; refine (HG.out _ HR1.out).mono ?_; rintro e w' ⟨rfl, rfl⟩)
    refine bodyPost_ret (v := .tuple #[.agg #[.int .u64 (x.lo : Int), .int .u64 (x.hi : Int)], .int .i64 0]) (by simp [results, Tryz.results37, go_sem]) rfl (.inr ⟨j, x, rfl, HX.out.1, HX.out.2, rfl, HE.out _, ?_⟩)
    exact ((Kept.setCell w _ _).mono fun k hk => fp_vr (by rw [HO.out, hk])).trans (Kept.alloc _ _ (fun _ => False)) (fun _ => id) (fun _ _ => False.elim)

end Go.Proofs.YtpfcacedpkaihaaGreat
