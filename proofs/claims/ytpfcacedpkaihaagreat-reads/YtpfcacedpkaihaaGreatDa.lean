/- The program's own world in memory (packages almanac, store, readers, puts): what its blocks hold. -/
import Derived.Test.YtpfcacedpkaihaaGreatPz
namespace Go.Proofs.YtpfcacedpkaihaaGreat
open Go.RowKit

structure SeatE where
  reads : Bool
  num : Int
  lo : Nat
  hi : Nat
/-- an entry that a node holds, with the number of its last use. -/
structure HeldE where
  e : EntE
  used : Nat
def heldC (h : HeldE) : List Value := [.string h.e.q, .int .i32 h.e.val, .int .u64 (h.e.fr : Int), .int .u64 (h.e.till : Int), .bool h.e.op, .int .u64 (h.e.kn : Int), .int .u64 (h.used : Int)]
/-- a node and the link to it, as plain data. -/
structure NodeP where
  up : Bool
  room : Int
  horizon : Nat
  hists : List (Nat × Int)
  waits : List (Nat × Int)
  ents : List HeldE
  uses : Nat
  flight : List (Nat × Int)
structure DNodeE where
  p : NodeP
  hs : Value
  wt : Value
  en : Value
  fl : Value
def dnodeC (n : DNodeE) : List Value := [.bool n.p.up, .int .i64 n.p.room, .int .u64 (n.p.horizon : Int), n.hs, n.wt, n.en, .int .u64 (n.p.uses : Int), n.fl]
def histC (h : Nat × Int) : List Value := [.int .u64 (h.1 : Int), .int .u8 h.2]
def dnodeR (n : DNodeE) : List RowD := [⟨244, 2, n.hs, n.p.hists.length, n.p.hists.flatMap histC⟩, ⟨244, 2, n.wt, n.p.waits.length, n.p.waits.flatMap histC⟩, ⟨227, 7, n.en, n.p.ents.length, n.p.ents.flatMap heldC⟩, ⟨192, 2, n.fl, n.p.flight.length, n.p.flight.flatMap histC⟩]
structure DevS where
  clock : Int
  past : List PastE
  begun : Nat
  seats : Nat → SeatE
  puts : List EntE
  vc : Value
  vq : Value
  nodes : List DNodeE
  vn : Value

def DevS.cells (D : DevS) : Array Value :=
  #[.int .i64 D.clock, D.vc, .int .i64 (D.begun : Int),
    .bool (D.seats 0).reads, .int .i64 (D.seats 0).num, .int .u64 ((D.seats 0).lo : Int), .int .u64 ((D.seats 0).hi : Int),
    .bool (D.seats 1).reads, .int .i64 (D.seats 1).num, .int .u64 ((D.seats 1).lo : Int), .int .u64 ((D.seats 1).hi : Int),
    .bool (D.seats 2).reads, .int .i64 (D.seats 2).num, .int .u64 ((D.seats 2).lo : Int), .int .u64 ((D.seats 2).hi : Int),
    .bool (D.seats 3).reads, .int .i64 (D.seats 3).num, .int .u64 ((D.seats 3).lo : Int), .int .u64 ((D.seats 3).hi : Int),
    .bool (D.seats 4).reads, .int .i64 (D.seats 4).num, .int .u64 ((D.seats 4).lo : Int), .int .u64 ((D.seats 4).hi : Int),
    .bool (D.seats 5).reads, .int .i64 (D.seats 5).num, .int .u64 ((D.seats 5).lo : Int), .int .u64 ((D.seats 5).hi : Int), D.vq, D.vn]

def DevS.rows (D : DevS) : List RowD := ⟨215, 10, D.vc, D.past.length, D.past.flatMap pastC⟩ :: ⟨55, 6, D.vq, D.puts.length, D.puts.flatMap entC⟩ :: ⟨139, 8, D.vn, D.nodes.length, D.nodes.flatMap dnodeC⟩ :: D.nodes.flatMap dnodeR

structure Dev (w : World) (b : Nat) (D : DevS) : Prop where
  blk : Blk w b 129 D.cells
  all : Rows' w D.rows

theorem drows_ne_world {D : DevS} {r : RowD} (h : r ∈ D.rows) : r.T ≠ 129 := by
  simp only [DevS.rows, List.mem_cons, List.mem_flatMap, dnodeR, List.not_mem_nil, or_false] at h
  rcases h with rfl | rfl | rfl | ⟨nd, _, rfl | rfl | rfl | rfl⟩ <;> (dsimp only; decide)

theorem Dev.past {w : World} {b : Nat} {D : DevS} (h : Dev w b D) : Row w 215 10 D.vc D.past.length (D.past.flatMap pastC) := h.all.row _ (List.mem_of_getElem? (i := 0) rfl)
theorem Dev.puts {w : World} {b : Nat} {D : DevS} (h : Dev w b D) : Row w 55 6 D.vq D.puts.length (D.puts.flatMap entC) := h.all.row _ (List.mem_of_getElem? (i := 1) rfl)

theorem Dev.nodes {w : World} {b : Nat} {D : DevS} (h : Dev w b D) : Row w 139 8 D.vn D.nodes.length (D.nodes.flatMap dnodeC) := h.all.row _ (List.mem_of_getElem? (i := 2) rfl)
theorem dnodeR_mem {D : DevS} {nd : DNodeE} {r : RowD} (hn : nd ∈ D.nodes) (hr : r ∈ dnodeR nd) : r ∈ D.rows := by
  simp only [DevS.rows, List.mem_cons, List.mem_flatMap]
  exact .inr (.inr (.inr ⟨nd, hn, hr⟩))
theorem Dev.hists {w : World} {b : Nat} {D : DevS} (h : Dev w b D) : ∀ nd ∈ D.nodes, Row w 244 2 nd.hs nd.p.hists.length (nd.p.hists.flatMap histC) := fun _ hn => h.all.row ⟨_, _, _, _, _⟩ (dnodeR_mem hn (List.mem_of_getElem? (i := 0) rfl))
theorem Dev.waits {w : World} {b : Nat} {D : DevS} (h : Dev w b D) : ∀ nd ∈ D.nodes, Row w 244 2 nd.wt nd.p.waits.length (nd.p.waits.flatMap histC) := fun _ hn => h.all.row ⟨_, _, _, _, _⟩ (dnodeR_mem hn (List.mem_of_getElem? (i := 1) rfl))
theorem Dev.ents {w : World} {b : Nat} {D : DevS} (h : Dev w b D) : ∀ nd ∈ D.nodes, Row w 227 7 nd.en nd.p.ents.length (nd.p.ents.flatMap heldC) := fun _ hn => h.all.row ⟨_, _, _, _, _⟩ (dnodeR_mem hn (List.mem_of_getElem? (i := 2) rfl))
theorem Dev.flight {w : World} {b : Nat} {D : DevS} (h : Dev w b D) : ∀ nd ∈ D.nodes, Row w 192 2 nd.fl nd.p.flight.length (nd.p.flight.flatMap histC) := fun _ hn => h.all.row ⟨_, _, _, _, _⟩ (dnodeR_mem hn (List.mem_of_getElem? (i := 3) rfl))

def DevS.fp (D : DevS) (b : Nat) (k : Nat) : Prop := k = b ∨ ∃ r ∈ D.rows, r.v.ownBlock = some k
theorem dfp_self (D : DevS) (b : Nat) : D.fp b b := .inl rfl
theorem dfp_vc {D : DevS} {b k : Nat} (h : D.vc.ownBlock = some k) : D.fp b k := .inr ⟨_, List.mem_of_getElem? (i := 0) rfl, h⟩
theorem dfp_vq {D : DevS} {b k : Nat} (h : D.vq.ownBlock = some k) : D.fp b k := .inr ⟨_, List.mem_of_getElem? (i := 1) rfl, h⟩

/-- the bounds that a world of the program's keeps. -/
structure DevS.Fit (D : DevS) : Prop where
  pmax : D.past.length ≤ 700
  clk0 : 0 ≤ D.clock
  clk1 : D.clock ≤ 100000
  bmax : D.begun ≤ 200
  qmax : D.puts.length ≤ 10

theorem Dev.lt {w : World} {b : Nat} {D : DevS} (h : Dev w b D) : ∀ k, D.fp b k → k < w.heap.size := by
  rintro k (rfl | ⟨r, hr, hk⟩)
  · exact h.blk.lt
  · exact (h.all.row r hr).lt k hk
theorem Dev.ne {w : World} {b : Nat} {D : DevS} (h : Dev w b D) : ∀ r ∈ D.rows, r.v.ownBlock ≠ some b := fun r hr => (h.all.row r hr).ne_block h.blk (drows_ne_world hr)
theorem Dev.same {w w' : World} {b : Nat} {D : DevS} (h : Dev w b D) (hs : ∀ k, D.fp b k → w'.heap[k]? = w.heap[k]?) : Dev w' b D :=
  ⟨h.blk.same (hs b (.inl rfl)), h.all.same fun k hk => hs k (.inr hk)⟩
theorem Dev.kept {w w' : World} {F : Nat → Prop} {b : Nat} {D : DevS} (h : Dev w b D) (k : Kept F w w') (hF : ∀ j, D.fp b j → ¬ F j) : Dev w' b D :=
  h.same fun j hj => k.block j (h.lt j hj) (hF j hj)

/-- one of a world's rows has turned, and the cell of the world that holds it: a world again. -/
theorem Dev.put {w w' : World} {b : Nat} {D D' : DevS} (h : Dev w b D) (i f : Nat) (r r' : RowD) (hi : D.rows[i]? = some r) (k : Kept (fun j => r.v.ownBlock = some j) w w') (hr : r'.Is w')
    (hown : ∀ x, r'.v.ownBlock = some x → r.v.ownBlock = some x ∨ w.heap.size ≤ x) (hrows : D'.rows = D.rows.set i r') (hT : r'.T ≠ 129)
    (hblk : D.cells.setIfInBounds f r'.v = D'.cells) :
    Dev (w'.setCell ⟨b, f, none⟩ r'.v) b D' ∧ Kept (D.fp b) w (w'.setCell ⟨b, f, none⟩ r'.v) ∧ (∀ x, D'.fp b x → D.fp b x ∨ w.heap.size ≤ x) := by
  have hm : r ∈ D.rows := List.mem_of_getElem? hi
  have blk1 := h.blk.kept k fun he => h.ne r hm he
  have all1 := h.all.put i r r' hi k hr hown
  have k2 := Kept.setCell w' ⟨b, f, none⟩ r'.v
  refine ⟨⟨?_, ?_⟩, k.trans k2 (fun x hx => .inr ⟨r, hm, hx⟩) (fun x _ hx => .inl hx), ?_⟩
  · rw [← hblk]; exact blk1.set f _
  · rw [hrows]
    refine all1.kept k2 ?_
    rintro j ⟨a, ha, hj⟩ he
    subst he
    rcases List.mem_or_eq_of_mem_set ha with ha' | rfl
    · exact (all1.row a ha).ne_block blk1 (drows_ne_world ha') hj
    · exact Row.ne_block hr blk1 hT hj
  · rintro x (rfl | ⟨a, ha, hx⟩)
    · exact .inl (.inl rfl)
    · rw [hrows] at ha
      rcases List.mem_or_eq_of_mem_set ha with ha | rfl
      · exact .inl (.inr ⟨a, ha, hx⟩)
      · exact (hown x hx).imp (fun hh => .inr ⟨r, hm, hh⟩) id

/-- a cell of the world's own block has turned, none that holds a row: a world again. -/
theorem Dev.setOwn {w : World} {b : Nat} {D D' : DevS} (h : Dev w b D) (f : Nat) (v : Value) (hrows : D'.rows = D.rows) (hblk : D.cells.setIfInBounds f v = D'.cells) : Dev (w.setCell ⟨b, f, none⟩ v) b D' :=
  ⟨by rw [← hblk]; exact h.blk.set f v, by rw [hrows]; exact h.all.kept (Kept.setCell w ⟨b, f, none⟩ v) (by rintro j ⟨r, hr, hj⟩ he; subst he; exact h.ne r hr hj)⟩

/-- a world with another node k. -/
def DevS.putN (D : DevS) (k : Nat) (nd : DNodeE) : DevS := { D with nodes := D.nodes.set k nd }
def DevS.nodeD (D : DevS) : RowD := ⟨139, 8, D.vn, D.nodes.length, D.nodes.flatMap dnodeC⟩
theorem drows_at {D : DevS} {k : Nat} {nd : DNodeE} (hnd : D.nodes[k]? = some nd) (f : Nat) (hf : f < 4) : D.rows[(k * 4 + f) + 3]? = (dnodeR nd)[f]? := by
  obtain ⟨hk, hnd'⟩ := List.getElem?_eq_some_iff.mp hnd
  show (D.nodes.flatMap dnodeR)[k * 4 + f]? = _
  rw [flat_at dnodeR 4 (fun _ => rfl) D.nodes k hk f hf, hnd']
theorem drows_set {D : DevS} {k : Nat} {nd y : DNodeE} (hnd : D.nodes[k]? = some nd) (f : Nat) (hf : f < 4) (r : RowD) (hy : dnodeR y = (dnodeR nd).set f r) :
    (D.putN k y).rows = (D.rows.set ((k * 4 + f) + 3) r).set 2 (D.putN k y).nodeD := by
  obtain ⟨hk, hnd'⟩ := List.getElem?_eq_some_iff.mp hnd
  have e := flat_set dnodeR 4 (fun _ => rfl) D.nodes k hk f hf r y (by rw [hnd']; exact hy)
  show _ :: _ :: _ :: (D.nodes.set k y).flatMap dnodeR = _ :: _ :: _ :: (D.nodes.flatMap dnodeR).set (k * 4 + f) r
  rw [e]; rfl

/-- a world out of another: it is one, nothing but the old one's has turned, it lies in the old one's blocks or in new ones. -/
def DBecame (w : World) (b : Nat) (D : DevS) (w' : World) (D' : DevS) : Prop := Dev w' b D' ∧ Kept (D.fp b) w w' ∧ ∀ x, D'.fp b x → D.fp b x ∨ w.heap.size ≤ x
theorem DBecame.trans {w w1 w2 : World} {b : Nat} {D D1 D2 : DevS} (h : DBecame w b D w1 D1) (h2 : DBecame w1 b D1 w2 D2) : DBecame w b D w2 D2 := by
  have hs := h.2.1.size
  refine ⟨h2.1, h.2.1.trans h2.2.1 (fun _ => id) (fun k hk hf => ?_), fun x hx => ?_⟩
  · rcases h.2.2 k hf with h1 | h1
    · exact h1
    · omega
  · rcases h2.2.2 x hx with h1 | h1
    · exact h.2.2 x h1
    · exact .inr (by omega)
theorem DBecame.of_kept {w w1 : World} {b : Nat} {D : DevS} (h : Dev w b D) (k : Kept (fun _ => False) w w1) : DBecame w b D w1 D := ⟨h.kept k (fun _ _ => id), k.mono (fun _ => False.elim), fun _ hx => .inl hx⟩

/-- one row of a node, and cells of the node, have turned: a world again. -/
theorem Dev.putF {w w1 w' : World} {b k f : Nat} {D : DevS} {nd y : DNodeE} {r r' : RowD} (h : Dev w b D) (hnd : D.nodes[k]? = some nd) (hf : f < 4) (hr : (dnodeR nd)[f]? = some r) (hy : dnodeR y = (dnodeR nd).set f r')
    (k1 : Kept (fun j => r.v.ownBlock = some j) w w1) (hr' : r'.Is w1) (hown : ∀ x, r'.v.ownBlock = some x → r.v.ownBlock = some x ∨ w.heap.size ≤ x)
    (k2 : Kept (fun j => D.vn.ownBlock = some j) w1 w') (hn : Row w' 139 8 D.vn (D.nodes.set k y).length ((D.nodes.set k y).flatMap dnodeC)) :
    DBecame w b D w' (D.putN k y) := by
  have hi : D.rows[(k * 4 + f) + 3]? = some r := (drows_at hnd f hf).trans hr
  have hm : r ∈ D.rows := List.mem_of_getElem? hi
  have hmn : D.nodeD ∈ D.rows := List.mem_of_getElem? (i := 2) rfl
  have all1 := h.all.put ((k * 4 + f) + 3) r r' hi k1 hr' hown
  have h2 : (D.rows.set ((k * 4 + f) + 3) r')[2]? = some D.nodeD := by rw [List.getElem?_set_ne (by omega)]; rfl
  have all2 := all1.put 2 D.nodeD (D.putN k y).nodeD h2 k2 hn (fun x hx => .inl hx)
  have blk1 := h.blk.kept k1 fun he => h.ne r hm he
  have rown : Row w1 139 8 D.vn D.nodes.length (D.nodes.flatMap dnodeC) := all1.row _ (List.mem_of_getElem? h2)
  have blk2 := blk1.kept k2 fun he => rown.ne_block blk1 (by decide) he
  have er := drows_set hnd f hf r' hy
  refine ⟨⟨blk2, by rw [er]; exact all2⟩, k1.trans k2 (fun x hx => .inr ⟨r, hm, hx⟩) (fun x _ hx => .inr ⟨_, hmn, hx⟩), ?_⟩
  rintro x (rfl | ⟨a, ha, hx⟩)
  · exact .inl (.inl rfl)
  · rw [er] at ha
    rcases List.mem_or_eq_of_mem_set ha with ha | rfl
    · rcases List.mem_or_eq_of_mem_set ha with ha | rfl
      · exact .inl (.inr ⟨a, ha, hx⟩)
      · exact (hown x hx).imp (fun hh => .inr ⟨r, hm, hh⟩) id
    · exact .inl (.inr ⟨_, hmn, hx⟩)

theorem dnode_at (l : List DNodeE) (j : Nat) (hj : j < l.length) (f : Nat) (hf : f < 8) : (l.flatMap dnodeC)[j * 8 + f]? = (dnodeC l[j])[f]? := flat_at dnodeC 8 (fun _ => rfl) l j hj f hf

/-- the cells of a node. -/
theorem Dev.nodeC {w : World} {b k g : Nat} {D : DevS} {nd : DNodeE} (h : Dev w b D) (hnd : D.nodes[k]? = some nd) (ho : D.vn.ownBlock = some g) (f : Nat) (hf : f < 8) (u : Value) (hu : (dnodeC nd)[f]? = some u) : w.cell? ⟨g, k * 8 + f, none⟩ = some u := by
  obtain ⟨hk, hnd'⟩ := List.getElem?_eq_some_iff.mp hnd
  exact h.nodes.cell ho _ u (by rw [dnode_at D.nodes k hk f hf, hnd']; exact hu)
theorem dnodeR_mem' {D : DevS} {k f : Nat} {nd : DNodeE} {r : RowD} (hnd : D.nodes[k]? = some nd) (hr : (dnodeR nd)[f]? = some r) : r ∈ D.rows := dnodeR_mem (List.mem_of_getElem? hnd) (List.mem_of_getElem? hr)
theorem dnodeR_ne {nd : DNodeE} {r : RowD} (h : r ∈ dnodeR nd) : r.T ≠ 139 := by
  simp only [dnodeR, List.mem_cons, List.not_mem_nil, or_false] at h
  rcases h with rfl | rfl | rfl | rfl <;> (dsimp only; decide)

/-- a row of a node has turned, or lies in a new block, and a cell of the node has turned: a world again. -/
theorem Dev.rowN {w w1 : World} {b k g : Nat} {D : DevS} {nd y : DNodeE} (h : Dev w b D) (hnd : D.nodes[k]? = some nd) (ho : D.vn.ownBlock = some g) (f c : Nat) (hf : f < 4) (hcc : c < 8) (r r' : RowD) (v : Value) (hr : (dnodeR nd)[f]? = some r) (hy : dnodeR y = (dnodeR nd).set f r') (hc : dnodeC y = (dnodeC nd).set c v)
    (k1 : Kept (fun j => r.v.ownBlock = some j) w w1) (hr' : r'.Is w1) (hown : ∀ x, r'.v.ownBlock = some x → r.v.ownBlock = some x ∨ w.heap.size ≤ x) : DBecame w b D (w1.setCell ⟨g, k * 8 + c, none⟩ v) (D.putN k y) := by
  obtain ⟨hk, hnd'⟩ := List.getElem?_eq_some_iff.mp hnd
  have hm := dnodeR_mem' hnd hr
  have hrn : Row w1 139 8 D.vn D.nodes.length (D.nodes.flatMap dnodeC) := h.nodes.kept k1 fun j hj he => (h.all.row r hm).ne_row h.nodes (dnodeR_ne (List.mem_of_getElem? hr)) j he hj
  refine h.putF hnd hf hr hy k1 hr' hown ((Kept.setCell w1 _ _).mono fun j hj => by rw [ho, hj]) ?_
  have := hrn.set ho (k * 8 + c) v
  rw [flat_set dnodeC 8 (fun _ => rfl) D.nodes k hk c hcc v y (by rw [hnd']; exact hc)] at this
  rw [List.length_set]
  exact this

/-- a plain cell of a node has turned: a world again. -/
theorem Dev.cellN {w : World} {b k g : Nat} {D : DevS} {nd y : DNodeE} (h : Dev w b D) (hnd : D.nodes[k]? = some nd) (ho : D.vn.ownBlock = some g) (c : Nat) (hcc : c < 8) (v : Value) (hy : dnodeR y = dnodeR nd) (hc : dnodeC y = (dnodeC nd).set c v) : DBecame w b D (w.setCell ⟨g, k * 8 + c, none⟩ v) (D.putN k y) :=
  h.rowN hnd ho 0 c (by omega) hcc ⟨244, 2, nd.hs, nd.p.hists.length, nd.p.hists.flatMap histC⟩ ⟨244, 2, nd.hs, nd.p.hists.length, nd.p.hists.flatMap histC⟩ v rfl (by rw [hy]; rfl) hc (Kept.refl _ _) (h.hists nd (List.mem_of_getElem? hnd)) (fun x hx => .inl hx)

theorem flat_same {α β : Type} (C : α → List β) (l : List α) (k : Nat) (y : α) (h : ∀ x, l[k]? = some x → C y = C x) : (l.set k y).flatMap C = l.flatMap C := by
  induction l generalizing k with
  | nil => rfl
  | cons a r ih =>
    match k with
    | 0 => simp only [List.set_cons_zero, List.flatMap_cons]; rw [h a rfl]
    | k + 1 => simp only [List.set_cons_succ, List.flatMap_cons]; rw [ih k fun x hx => h x (by simpa using hx)]

/-- a node's entries have turned where they lie: a world again. -/
theorem Dev.turnEnts {w w1 : World} {b k : Nat} {D : DevS} {nd : DNodeE} (h : Dev w b D) (hnd : D.nodes[k]? = some nd) (l : List HeldE) (k1 : Kept (fun j => nd.en.ownBlock = some j) w w1) (hr : Row w1 227 7 nd.en l.length (l.flatMap heldC)) : DBecame w b D w1 (D.putN k { nd with p := { nd.p with ents := l } }) := by
  have hrn : Row w1 139 8 D.vn D.nodes.length (D.nodes.flatMap dnodeC) := h.nodes.kept k1 fun j hj he => (h.ents nd (List.mem_of_getElem? hnd)).ne_row h.nodes (by decide) j he hj
  refine h.putF hnd (f := 2) (r := ⟨227, 7, nd.en, nd.p.ents.length, nd.p.ents.flatMap heldC⟩) (r' := ⟨227, 7, nd.en, l.length, l.flatMap heldC⟩) (by omega) rfl rfl k1 hr (fun x hx => .inl hx) (Kept.refl _ _) ?_
  rw [List.length_set, flat_same dnodeC D.nodes k _ fun x hx => by rw [hnd] at hx; injection hx with hx; subst hx; rfl]
  exact hrn

/-- the cells of an entry. -/
theorem held_at (l : List HeldE) (j : Nat) (hj : j < l.length) (f : Nat) (hf : f < 7) : (l.flatMap heldC)[j * 7 + f]? = (heldC l[j])[f]? := flat_at heldC 7 (fun _ => rfl) l j hj f hf
theorem Dev.heldC {w : World} {b k ge j : Nat} {D : DevS} {nd : DNodeE} {x : HeldE} (h : Dev w b D) (hnd : D.nodes[k]? = some nd) (he : nd.en.ownBlock = some ge) (hx : nd.p.ents[j]? = some x) (f : Nat) (hf : f < 7) (u : Value) (hu : (Go.Proofs.YtpfcacedpkaihaaGreat.heldC x)[f]? = some u) : w.cell? ⟨ge, j * 7 + f, none⟩ = some u := by
  obtain ⟨hj, hx'⟩ := List.getElem?_eq_some_iff.mp hx
  exact (h.ents nd (List.mem_of_getElem? hnd)).cell he _ u (by rw [held_at nd.p.ents j hj f hf, hx']; exact hu)
theorem Dev.heldF {w : World} {b k ge : Nat} {D : DevS} {nd : DNodeE} (h : Dev w b D) (hnd : D.nodes[k]? = some nd) (he : nd.en.ownBlock = some ge) (f : Nat) : w.frozen? ⟨ge, f, none⟩ = false := (h.ents nd (List.mem_of_getElem? hnd)).free he f
theorem Dev.nodeF {w : World} {b g : Nat} {D : DevS} (h : Dev w b D) (ho : D.vn.ownBlock = some g) (f : Nat) : w.frozen? ⟨g, f, none⟩ = false := h.nodes.free ho f

theorem Dev.drewN {w : World} {b : Nat} {D : DevS} (h : Dev w b D) (n : Nat) : Dev (w.drewN n) b D := h.same fun _ _ => rfl

end Go.Proofs.YtpfcacedpkaihaaGreat
