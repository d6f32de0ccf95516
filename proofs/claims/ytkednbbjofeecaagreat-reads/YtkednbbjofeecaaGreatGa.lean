/- The document's own world in memory (package almanacref): what its blocks hold. -/
import Derived.Test.YtkednbbjofeecaaGreatHp
namespace Go.Proofs.YtkednbbjofeecaaGreat
open Go.RowKit

/-! ### rows of structs -/
theorem flat_at {α β : Type} (C : α → List β) (s : Nat) (hs : ∀ x, (C x).length = s) (l : List α) (j : Nat) (hj : j < l.length) (f : Nat) (hf : f < s) : (l.flatMap C)[j * s + f]? = (C l[j])[f]? := by
  induction l generalizing j with
  | nil => simp at hj
  | cons x r ih =>
    match j with
    | 0 => simp only [List.flatMap_cons, Nat.zero_mul, Nat.zero_add, List.getElem_cons_zero]; rw [List.getElem?_append_left (by rw [hs]; exact hf)]
    | j + 1 =>
      have e : (j + 1) * s + f = s + (j * s + f) := by rw [Nat.add_mul]; omega
      simp only [List.flatMap_cons, List.getElem_cons_succ]
      rw [e, List.getElem?_append_right (by rw [hs]; omega), hs, Nat.add_sub_cancel_left]
      exact ih j (by simpa using hj)
theorem flat_set {α β : Type} (C : α → List β) (s : Nat) (hs : ∀ x, (C x).length = s) (l : List α) (j : Nat) (hj : j < l.length) (f : Nat) (hf : f < s) (v : β) (y : α) (hy : C y = (C l[j]).set f v) :
    (l.flatMap C).set (j * s + f) v = (l.set j y).flatMap C := by
  induction l generalizing j with
  | nil => simp at hj
  | cons x r ih =>
    match j with
    | 0 =>
      simp only [List.getElem_cons_zero] at hy
      simp only [List.flatMap_cons, Nat.zero_mul, Nat.zero_add, List.set_cons_zero, hy]
      rw [List.set_append_left _ _ (by rw [hs]; exact hf)]
    | j + 1 =>
      have e : (j + 1) * s + f = s + (j * s + f) := by rw [Nat.add_mul]; omega
      simp only [List.flatMap_cons, List.set_cons_succ]
      rw [e, List.set_append_right _ _ (by rw [hs]; omega), hs, Nat.add_sub_cancel_left]
      rw [ih j (by simpa using hj) (by simpa using hy)]
theorem flat_length {α β : Type} (C : α → List β) (s : Nat) (hs : ∀ x, (C x).length = s) (l : List α) : (l.flatMap C).length = l.length * s := by
  induction l with
  | nil => simp
  | cons x r ih => simp only [List.flatMap_cons, List.length_append, hs, ih, List.length_cons, Nat.add_mul]; omega

/-! ### the document's world -/
structure PastE where
  st : Nat → Int
  keys : Int
  tick : Int
def pastC (p : PastE) : List Value := [.int .i32 (p.st 0), .int .i32 (p.st 1), .int .i32 (p.st 2), .int .i32 (p.st 3), .int .i32 (p.st 4), .int .i32 (p.st 5), .int .i32 (p.st 6), .int .i32 (p.st 7), .int .u8 p.keys, .int .i64 p.tick]
structure RdrE where
  lo : Nat
  hi : Nat
  ended : Bool
def rdrC (r : RdrE) : List Value := [.int .u64 (r.lo : Int), .int .u64 (r.hi : Int), .bool r.ended]
/-- an entry: of a node, or a put. -/
structure EntE where
  q : ByteArray
  val : Int
  fr : Nat
  till : Nat
  op : Bool
  kn : Nat
def entC (e : EntE) : List Value := [.string e.q, .int .i32 e.val, .int .u64 (e.fr : Int), .int .u64 (e.till : Int), .bool e.op, .int .u64 (e.kn : Int)]
structure NodeE where
  up : Bool
  since : Nat
  horizon : Nat
  fl : Value
  wt : Value
  en : Value
  nm : Value
  fls : List Nat
  wts : List Nat
  ents : List EntE
  nms : List Int
def nodeC (n : NodeE) : List Value := [.bool n.up, .int .u64 (n.since : Int), .int .u64 (n.horizon : Int), n.fl, n.wt, n.en, n.nm]
def u64s (l : List Nat) : List Value := l.map fun t : Nat => Value.int .u64 (t : Int)
def i64s (l : List Int) : List Value := l.map fun t : Int => Value.int .i64 t

structure RefS where
  past : List PastE
  clock : Int
  rdrs : List RdrE
  nodes : List NodeE
  room : Int
  next : Int
  puts : List EntE
  uses : List Int
  vp : Value
  vr : Value
  vn : Value
  vu : Value
  vs : Value

/-! ### rows that one owner keeps apart -/
structure RowD where
  T : TypeId
  size : Nat
  v : Value
  n : Nat
  xs : List Value
def RowD.Is (w : World) (r : RowD) : Prop := Row w r.T r.size r.v r.n r.xs
structure Rows' (w : World) (l : List RowD) : Prop where
  row : ∀ r ∈ l, r.Is w
  sep : ∀ (i j : Nat) (a c : RowD), l[i]? = some a → l[j]? = some c → i ≠ j → ∀ k, a.v.ownBlock = some k → c.v.ownBlock ≠ some k

theorem Rows'.same {w w' : World} {l : List RowD} (h : Rows' w l) (hs : ∀ k, (∃ r ∈ l, r.v.ownBlock = some k) → w'.heap[k]? = w.heap[k]?) : Rows' w' l :=
  ⟨fun r hr => (h.row r hr).same fun k hk => hs k ⟨r, hr, hk⟩, h.sep⟩
theorem Rows'.kept {w w' : World} {F : Nat → Prop} {l : List RowD} (h : Rows' w l) (k : Kept F w w') (hF : ∀ j, (∃ r ∈ l, r.v.ownBlock = some j) → ¬ F j) : Rows' w' l :=
  h.same fun j hj => by obtain ⟨r, hr, hj'⟩ := hj; exact k.block j ((h.row r hr).lt j hj') (hF j ⟨r, hr, hj'⟩)

/-- one row has turned, or lies elsewhere: in its old block or in a new one. -/
theorem Rows'.put {w w' : World} {l : List RowD} (h : Rows' w l) (i : Nat) (r r' : RowD) (hi : l[i]? = some r) (k : Kept (fun j => r.v.ownBlock = some j) w w') (hr : r'.Is w')
    (hown : ∀ x, r'.v.ownBlock = some x → r.v.ownBlock = some x ∨ w.heap.size ≤ x) : Rows' w' (l.set i r') := by
  have hlt := (List.getElem?_eq_some_iff.mp hi).1
  have far : ∀ (j : Nat) (a : RowD), l[j]? = some a → j ≠ i → ∀ x, r'.v.ownBlock = some x → a.v.ownBlock ≠ some x := by
    intro j a ha hj x hx he
    rcases hown x hx with h1 | h1
    · exact h.sep j i a r ha hi hj x he h1
    · have := (h.row a (List.mem_of_getElem? ha)).lt x he; omega
  refine ⟨fun a ha => ?_, fun p q a c hp hq hpq x hx => ?_⟩
  · obtain ⟨j, hj⟩ := List.getElem?_of_mem ha
    rw [List.getElem?_set] at hj
    by_cases e : i = j
    · rw [if_pos e, if_pos hlt] at hj; injection hj with hj; subst hj; exact hr
    · rw [if_neg e] at hj
      exact (h.row a (List.mem_of_getElem? hj)).kept k fun x hx he => h.sep j i a r hj hi (fun z => e z.symm) x hx he
  · rw [List.getElem?_set] at hp hq
    by_cases ep : i = p
    · rw [if_pos ep, if_pos hlt] at hp
      injection hp with hp; subst hp
      rw [if_neg (by omega)] at hq
      exact far q c hq (by omega) x hx
    · rw [if_neg ep] at hp
      by_cases eq : i = q
      · rw [if_pos eq, if_pos hlt] at hq
        injection hq with hq; subst hq
        intro he
        exact far p a hp (by omega) x he hx
      · rw [if_neg eq] at hq
        exact h.sep p q a c hp hq hpq x hx

def nodeR (nd : NodeE) : List RowD := [⟨53, 1, nd.fl, nd.fls.length, u64s nd.fls⟩, ⟨53, 1, nd.wt, nd.wts.length, u64s nd.wts⟩, ⟨55, 6, nd.en, nd.ents.length, nd.ents.flatMap entC⟩, ⟨3, 1, nd.nm, nd.nms.length, i64s nd.nms⟩]
def RefS.rows (R : RefS) : List RowD :=
  ⟨132, 10, R.vp, R.past.length, R.past.flatMap pastC⟩ :: ⟨148, 3, R.vr, R.rdrs.length, R.rdrs.flatMap rdrC⟩ :: ⟨135, 7, R.vn, R.nodes.length, R.nodes.flatMap nodeC⟩ ::
    ⟨55, 6, R.vu, R.puts.length, R.puts.flatMap entC⟩ :: ⟨3, 1, R.vs, R.uses.length, i64s R.uses⟩ :: R.nodes.flatMap nodeR

structure Ref (w : World) (b : Nat) (R : RefS) : Prop where
  blk : Blk w b 84 #[R.vp, .int .i64 R.clock, R.vr, R.vn, .int .i64 R.room, R.vu, R.vs, .int .i64 R.next]
  all : Rows' w R.rows

theorem rows_ne_world {R : RefS} {r : RowD} (h : r ∈ R.rows) : r.T ≠ 84 := by
  simp only [RefS.rows, List.mem_cons, List.mem_flatMap, nodeR, List.not_mem_nil, or_false] at h
  rcases h with rfl | rfl | rfl | rfl | rfl | ⟨nd, _, rfl | rfl | rfl | rfl⟩ <;> (dsimp only; decide)

theorem Ref.past {w : World} {b : Nat} {R : RefS} (h : Ref w b R) : Row w 132 10 R.vp R.past.length (R.past.flatMap pastC) := h.all.row _ (List.mem_of_getElem? (i := 0) rfl)
theorem Ref.rdrs {w : World} {b : Nat} {R : RefS} (h : Ref w b R) : Row w 148 3 R.vr R.rdrs.length (R.rdrs.flatMap rdrC) := h.all.row _ (List.mem_of_getElem? (i := 1) rfl)
theorem Ref.nodes {w : World} {b : Nat} {R : RefS} (h : Ref w b R) : Row w 135 7 R.vn R.nodes.length (R.nodes.flatMap nodeC) := h.all.row _ (List.mem_of_getElem? (i := 2) rfl)
theorem Ref.puts {w : World} {b : Nat} {R : RefS} (h : Ref w b R) : Row w 55 6 R.vu R.puts.length (R.puts.flatMap entC) := h.all.row _ (List.mem_of_getElem? (i := 3) rfl)
theorem Ref.uses {w : World} {b : Nat} {R : RefS} (h : Ref w b R) : Row w 3 1 R.vs R.uses.length (i64s R.uses) := h.all.row _ (List.mem_of_getElem? (i := 4) rfl)
theorem nodeR_mem {R : RefS} {nd : NodeE} {r : RowD} (hn : nd ∈ R.nodes) (hr : r ∈ nodeR nd) : r ∈ R.rows := by
  simp only [RefS.rows, List.mem_cons, List.mem_flatMap]
  exact .inr (.inr (.inr (.inr (.inr ⟨nd, hn, hr⟩))))
theorem Ref.fls {w : World} {b : Nat} {R : RefS} (h : Ref w b R) : ∀ nd ∈ R.nodes, Row w 53 1 nd.fl nd.fls.length (u64s nd.fls) := fun _ hn => h.all.row ⟨_, _, _, _, _⟩ (nodeR_mem hn (List.mem_of_getElem? (i := 0) rfl))
theorem Ref.wts {w : World} {b : Nat} {R : RefS} (h : Ref w b R) : ∀ nd ∈ R.nodes, Row w 53 1 nd.wt nd.wts.length (u64s nd.wts) := fun _ hn => h.all.row ⟨_, _, _, _, _⟩ (nodeR_mem hn (List.mem_of_getElem? (i := 1) rfl))
theorem Ref.ents {w : World} {b : Nat} {R : RefS} (h : Ref w b R) : ∀ nd ∈ R.nodes, Row w 55 6 nd.en nd.ents.length (nd.ents.flatMap entC) := fun _ hn => h.all.row ⟨_, _, _, _, _⟩ (nodeR_mem hn (List.mem_of_getElem? (i := 2) rfl))
theorem Ref.nms {w : World} {b : Nat} {R : RefS} (h : Ref w b R) : ∀ nd ∈ R.nodes, Row w 3 1 nd.nm nd.nms.length (i64s nd.nms) := fun _ hn => h.all.row ⟨_, _, _, _, _⟩ (nodeR_mem hn (List.mem_of_getElem? (i := 3) rfl))

/-- the bounds that a world of the document's keeps. -/
structure RefS.Fit (R : RefS) : Prop where
  pos : 0 < R.past.length
  pmax : R.past.length ≤ 701
  clk0 : 0 ≤ R.clock
  clk1 : R.clock ≤ 100000
  rmax : R.rdrs.length ≤ 200
  npos : 0 < R.nodes.length
  nmax : R.nodes.length ≤ 3
  fmax : ∀ nd ∈ R.nodes, nd.fls.length ≤ 12 ∧ nd.horizon ≤ 700 ∧ ∀ t ∈ nd.fls, t ≤ 700

def RefS.fp (R : RefS) (b : Nat) (k : Nat) : Prop := k = b ∨ ∃ r ∈ R.rows, r.v.ownBlock = some k

theorem fp_self (R : RefS) (b : Nat) : R.fp b b := .inl rfl
theorem fp_vp {R : RefS} {b k : Nat} (h : R.vp.ownBlock = some k) : R.fp b k := .inr ⟨_, List.mem_of_getElem? (i := 0) rfl, h⟩
theorem fp_vr {R : RefS} {b k : Nat} (h : R.vr.ownBlock = some k) : R.fp b k := .inr ⟨_, List.mem_of_getElem? (i := 1) rfl, h⟩
theorem fp_vn {R : RefS} {b k : Nat} (h : R.vn.ownBlock = some k) : R.fp b k := .inr ⟨_, List.mem_of_getElem? (i := 2) rfl, h⟩

theorem Ref.lt {w : World} {b : Nat} {R : RefS} (h : Ref w b R) : ∀ k, R.fp b k → k < w.heap.size := by
  rintro k (rfl | ⟨r, hr, hk⟩)
  · exact h.blk.lt
  · exact (h.all.row r hr).lt k hk
theorem Ref.ne {w : World} {b : Nat} {R : RefS} (h : Ref w b R) : ∀ r ∈ R.rows, r.v.ownBlock ≠ some b := fun r hr => (h.all.row r hr).ne_block h.blk (rows_ne_world hr)

theorem Ref.same {w w' : World} {b : Nat} {R : RefS} (h : Ref w b R) (hs : ∀ k, R.fp b k → w'.heap[k]? = w.heap[k]?) : Ref w' b R :=
  ⟨h.blk.same (hs b (.inl rfl)), h.all.same fun k hk => hs k (.inr hk)⟩
theorem Ref.kept {w w' : World} {F : Nat → Prop} {b : Nat} {R : RefS} (h : Ref w b R) (k : Kept F w w') (hF : ∀ j, R.fp b j → ¬ F j) : Ref w' b R :=
  h.same fun j hj => k.block j (h.lt j hj) (hF j hj)

/-- one of a world's rows has turned, and the cell of the world that holds it: a world again. -/
theorem Ref.put {w w' : World} {b : Nat} {R R' : RefS} (h : Ref w b R) (i f : Nat) (r r' : RowD) (hi : R.rows[i]? = some r) (k : Kept (fun j => r.v.ownBlock = some j) w w') (hr : r'.Is w')
    (hown : ∀ x, r'.v.ownBlock = some x → r.v.ownBlock = some x ∨ w.heap.size ≤ x) (hrows : R'.rows = R.rows.set i r') (hT : r'.T ≠ 84)
    (hblk : (#[R.vp, .int .i64 R.clock, R.vr, R.vn, .int .i64 R.room, R.vu, R.vs, .int .i64 R.next] : Array Value).setIfInBounds f r'.v = #[R'.vp, .int .i64 R'.clock, R'.vr, R'.vn, .int .i64 R'.room, R'.vu, R'.vs, .int .i64 R'.next]) :
    Ref (w'.setCell ⟨b, f, none⟩ r'.v) b R' ∧ Kept (R.fp b) w (w'.setCell ⟨b, f, none⟩ r'.v) ∧ (∀ x, R'.fp b x → R.fp b x ∨ w.heap.size ≤ x) := by
  have hm : r ∈ R.rows := List.mem_of_getElem? hi
  have blk1 := h.blk.kept k fun he => h.ne r hm he
  have all1 := h.all.put i r r' hi k hr hown
  have k2 := Kept.setCell w' ⟨b, f, none⟩ r'.v
  refine ⟨⟨?_, ?_⟩, k.trans k2 (fun x hx => .inr ⟨r, hm, hx⟩) (fun x _ hx => .inl hx), ?_⟩
  · rw [← hblk]; exact blk1.set f _
  · rw [hrows]
    refine all1.kept k2 ?_
    rintro j ⟨a, ha, hj⟩ he
    subst he
    rcases List.mem_or_eq_of_mem_set ha with ha' | rfl
    · exact (all1.row a ha).ne_block blk1 (rows_ne_world ha') hj
    · exact Row.ne_block hr blk1 hT hj
  · rintro x (rfl | ⟨a, ha, hx⟩)
    · exact .inl (.inl rfl)
    · rw [hrows] at ha
      rcases List.mem_or_eq_of_mem_set ha with ha | rfl
      · exact .inl (.inr ⟨a, ha, hx⟩)
      · exact (hown x hx).imp (fun hh => .inr ⟨r, hm, hh⟩) id

/-- one of a world's rows has turned where it lies: a world again. -/
theorem Ref.turn {w w' : World} {b : Nat} {R R' : RefS} (h : Ref w b R) (i : Nat) (r r' : RowD) (hi : R.rows[i]? = some r) (k : Kept (fun j => r.v.ownBlock = some j) w w') (hr : r'.Is w') (hv : r'.v = r.v) (hrows : R'.rows = R.rows.set i r')
    (hblk : #[R.vp, .int .i64 R.clock, R.vr, R.vn, .int .i64 R.room, R.vu, R.vs, .int .i64 R.next] = #[R'.vp, .int .i64 R'.clock, R'.vr, R'.vn, .int .i64 R'.room, R'.vu, R'.vs, .int .i64 R'.next]) : Ref w' b R' :=
  ⟨by rw [← hblk]; exact h.blk.kept k fun he => h.ne r (List.mem_of_getElem? hi) he, by rw [hrows]; exact h.all.put i r r' hi k hr fun x hx => .inl (by rw [← hv]; exact hx)⟩

/-- a world with another node k. -/
def RefS.putN (R : RefS) (k : Nat) (nd : NodeE) : RefS := { R with nodes := R.nodes.set k nd }
def RefS.nodeD (R : RefS) : RowD := ⟨135, 7, R.vn, R.nodes.length, R.nodes.flatMap nodeC⟩

theorem rows_at {R : RefS} {k : Nat} {nd : NodeE} (hnd : R.nodes[k]? = some nd) (f : Nat) (hf : f < 4) : R.rows[(k * 4 + f) + 5]? = (nodeR nd)[f]? := by
  obtain ⟨hk, hnd'⟩ := List.getElem?_eq_some_iff.mp hnd
  show (R.nodes.flatMap nodeR)[k * 4 + f]? = _
  rw [flat_at nodeR 4 (fun _ => rfl) R.nodes k hk f hf, hnd']
theorem rows_set {R : RefS} {k : Nat} {nd y : NodeE} (hnd : R.nodes[k]? = some nd) (f : Nat) (hf : f < 4) (r : RowD) (hy : nodeR y = (nodeR nd).set f r) :
    (R.putN k y).rows = (R.rows.set ((k * 4 + f) + 5) r).set 2 (R.putN k y).nodeD := by
  obtain ⟨hk, hnd'⟩ := List.getElem?_eq_some_iff.mp hnd
  have e := flat_set nodeR 4 (fun _ => rfl) R.nodes k hk f hf r y (by rw [hnd']; exact hy)
  show _ :: _ :: _ :: _ :: _ :: (R.nodes.set k y).flatMap nodeR = _ :: _ :: _ :: _ :: _ :: (R.nodes.flatMap nodeR).set (k * 4 + f) r
  rw [e]; rfl

/-- one row of a node, and the cell of the node that holds it, have turned: a world again. -/
theorem Ref.putF {w w1 w' : World} {b k f : Nat} {R : RefS} {nd y : NodeE} {r r' : RowD} (h : Ref w b R) (hnd : R.nodes[k]? = some nd) (hf : f < 4) (hr : (nodeR nd)[f]? = some r) (hy : nodeR y = (nodeR nd).set f r')
    (k1 : Kept (fun j => r.v.ownBlock = some j) w w1) (hr' : r'.Is w1) (hown : ∀ x, r'.v.ownBlock = some x → r.v.ownBlock = some x ∨ w.heap.size ≤ x)
    (k2 : Kept (fun j => R.vn.ownBlock = some j) w1 w') (hn : Row w' 135 7 R.vn (R.nodes.set k y).length ((R.nodes.set k y).flatMap nodeC)) :
    Ref w' b (R.putN k y) ∧ Kept (R.fp b) w w' ∧ (∀ x, (R.putN k y).fp b x → R.fp b x ∨ w.heap.size ≤ x) := by
  have hi : R.rows[(k * 4 + f) + 5]? = some r := (rows_at hnd f hf).trans hr
  have hm : r ∈ R.rows := List.mem_of_getElem? hi
  have hmn : R.nodeD ∈ R.rows := List.mem_of_getElem? (i := 2) rfl
  have all1 := h.all.put ((k * 4 + f) + 5) r r' hi k1 hr' hown
  have h2 : (R.rows.set ((k * 4 + f) + 5) r')[2]? = some R.nodeD := by rw [List.getElem?_set_ne (by omega)]; rfl
  have all2 := all1.put 2 R.nodeD (R.putN k y).nodeD h2 k2 hn (fun x hx => .inl hx)
  have blk1 := h.blk.kept k1 fun he => h.ne r hm he
  have rown : Row w1 135 7 R.vn R.nodes.length (R.nodes.flatMap nodeC) := all1.row _ (List.mem_of_getElem? h2)
  have blk2 := blk1.kept k2 fun he => rown.ne_block blk1 (by decide) he
  have er := rows_set hnd f hf r' hy
  refine ⟨⟨blk2, by rw [er]; exact all2⟩, k1.trans k2 (fun x hx => .inr ⟨r, hm, hx⟩) (fun x _ hx => .inr ⟨_, hmn, hx⟩), ?_⟩
  rintro x (rfl | ⟨a, ha, hx⟩)
  · exact .inl (.inl rfl)
  · rw [er] at ha
    rcases List.mem_or_eq_of_mem_set ha with ha | rfl
    · rcases List.mem_or_eq_of_mem_set ha with ha | rfl
      · exact .inl (.inr ⟨a, ha, hx⟩)
      · exact (hown x hx).imp (fun hh => .inr ⟨r, hm, hh⟩) id
    · exact .inl (.inr ⟨_, hmn, hx⟩)

/-- the cells of the world's own block. -/
theorem Ref.c0 {w : World} {b : Nat} {R : RefS} (h : Ref w b R) : w.cell? ⟨b, 0, none⟩ = some R.vp := h.blk.cell 0
theorem Ref.c1 {w : World} {b : Nat} {R : RefS} (h : Ref w b R) : w.cell? ⟨b, 1, none⟩ = some (.int .i64 R.clock) := h.blk.cell 1
theorem Ref.c2 {w : World} {b : Nat} {R : RefS} (h : Ref w b R) : w.cell? ⟨b, 2, none⟩ = some R.vr := h.blk.cell 2
theorem Ref.c3 {w : World} {b : Nat} {R : RefS} (h : Ref w b R) : w.cell? ⟨b, 3, none⟩ = some R.vn := h.blk.cell 3

theorem past_at (l : List PastE) (j : Nat) (hj : j < l.length) (f : Nat) (hf : f < 10) : (l.flatMap pastC)[j * 10 + f]? = (pastC l[j])[f]? := flat_at pastC 10 (fun _ => rfl) l j hj f hf
theorem rdr_at (l : List RdrE) (j : Nat) (hj : j < l.length) (f : Nat) (hf : f < 3) : (l.flatMap rdrC)[j * 3 + f]? = (rdrC l[j])[f]? := flat_at rdrC 3 (fun _ => rfl) l j hj f hf
theorem node_at (l : List NodeE) (j : Nat) (hj : j < l.length) (f : Nat) (hf : f < 7) : (l.flatMap nodeC)[j * 7 + f]? = (nodeC l[j])[f]? := flat_at nodeC 7 (fun _ => rfl) l j hj f hf

end Go.Proofs.YtkednbbjofeecaaGreat
