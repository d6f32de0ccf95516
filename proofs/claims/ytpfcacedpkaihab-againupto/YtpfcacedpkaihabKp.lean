/- What the keeping laws (package almanackeep) keep in memory. -/
import Derived.Test.YtpfcacedpkaihabIwSrDp
namespace Go.Proofs.Ytpfcacedpkaihab
open Go.RowKit

/-- a reader of the law's: the tick at which it began, its limit, what it was told; has it ended? -/
structure KrE where
  tick : Int
  limit : Int
  tv : Value
  told : List (ByteArray × Int)
  ended : Bool
def krC (r : KrE) : List Value := [.int .i64 r.tick, .int .i64 r.limit, r.tv, .bool r.ended]
def saidC (x : ByteArray × Int) : List Value := [.string x.1, .int .i32 x.2]
def stL (s : Nat → Int) : List Value := [.int .i32 (s 0), .int .i32 (s 1), .int .i32 (s 2), .int .i32 (s 3), .int .i32 (s 4), .int .i32 (s 5), .int .i32 (s 6), .int .i32 (s 7)]
def tickC (t : Int) : List Value := [.int .i64 t]
structure KS where
  xb : Nat
  nodes : Int
  room : Int
  states : List (Nat → Int)
  ticks : List Int
  clock : Int
  rds : List KrE
  open' : Int
  ok : Bool
  vs : Value
  vt : Value
  vr : Value
def KS.cells (K : KS) : Array Value := #[.pointer (some ⟨K.xb, 0, none⟩), .int .i64 K.nodes, .int .i64 K.room, K.vs, K.vt, .int .i64 K.clock, K.vr, .int .i64 K.open', .bool K.ok]
def rdD (r : KrE) : RowD := ⟨119, 2, r.tv, r.told.length, r.told.flatMap saidC⟩
def KS.rows (K : KS) : List RowD := ⟨64, 8, K.vs, K.states.length, K.states.flatMap stL⟩ :: ⟨3, 1, K.vt, K.ticks.length, K.ticks.flatMap tickC⟩ :: ⟨36, 4, K.vr, K.rds.length, K.rds.flatMap krC⟩ :: K.rds.map rdD
structure Keep (w : World) (pb : Nat) (K : KS) : Prop where
  blk : Blk w pb 30 K.cells
  all : Rows' w K.rows
def KS.fp (K : KS) (pb : Nat) (k : Nat) : Prop := k = pb ∨ ∃ r ∈ K.rows, r.v.ownBlock = some k

theorem krows_ne {K : KS} {r : RowD} (h : r ∈ K.rows) : r.T ≠ 30 := by
  simp only [KS.rows, List.mem_cons, List.mem_map, rdD] at h
  rcases h with rfl | rfl | rfl | ⟨x, _, rfl⟩ <;> (dsimp only; decide)
theorem Keep.states {w : World} {pb : Nat} {K : KS} (h : Keep w pb K) : Row w 64 8 K.vs K.states.length (K.states.flatMap stL) := h.all.row _ (List.mem_of_getElem? (i := 0) rfl)
theorem Keep.ticks {w : World} {pb : Nat} {K : KS} (h : Keep w pb K) : Row w 3 1 K.vt K.ticks.length (K.ticks.flatMap tickC) := h.all.row _ (List.mem_of_getElem? (i := 1) rfl)
theorem Keep.rds {w : World} {pb : Nat} {K : KS} (h : Keep w pb K) : Row w 36 4 K.vr K.rds.length (K.rds.flatMap krC) := h.all.row _ (List.mem_of_getElem? (i := 2) rfl)
theorem Keep.told {w : World} {pb j : Nat} {K : KS} {r : KrE} (h : Keep w pb K) (hr : K.rds[j]? = some r) : Row w 119 2 r.tv r.told.length (r.told.flatMap saidC) :=
  h.all.row (rdD r) (by show rdD r ∈ _ :: _ :: _ :: K.rds.map rdD; simp only [List.mem_cons]; exact .inr (.inr (.inr (List.mem_map_of_mem (List.mem_of_getElem? hr)))))
theorem Keep.lt {w : World} {pb : Nat} {K : KS} (h : Keep w pb K) : ∀ k, K.fp pb k → k < w.heap.size := by
  rintro k (rfl | ⟨r, hr, hk⟩)
  · exact h.blk.lt
  · exact (h.all.row r hr).lt k hk
theorem Keep.ne {w : World} {pb : Nat} {K : KS} (h : Keep w pb K) : ∀ r ∈ K.rows, r.v.ownBlock ≠ some pb := fun r hr => (h.all.row r hr).ne_block h.blk (krows_ne hr)
theorem Keep.kept {w w' : World} {F : Nat → Prop} {pb : Nat} {K : KS} (h : Keep w pb K) (k : Kept F w w') (hF : ∀ j, K.fp pb j → ¬ F j) : Keep w' pb K :=
  ⟨h.blk.kept k (hF _ (.inl rfl)), h.all.kept k fun j hj => hF j (.inr hj)⟩
theorem Keep.c0 {w : World} {pb : Nat} {K : KS} (h : Keep w pb K) : w.cell? ⟨pb, 0, none⟩ = some (.pointer (some ⟨K.xb, 0, none⟩)) := h.blk.cell 0
theorem Keep.c1 {w : World} {pb : Nat} {K : KS} (h : Keep w pb K) : w.cell? ⟨pb, 1, none⟩ = some (.int .i64 K.nodes) := h.blk.cell 1
theorem Keep.c2 {w : World} {pb : Nat} {K : KS} (h : Keep w pb K) : w.cell? ⟨pb, 2, none⟩ = some (.int .i64 K.room) := h.blk.cell 2
theorem Keep.c3 {w : World} {pb : Nat} {K : KS} (h : Keep w pb K) : w.cell? ⟨pb, 3, none⟩ = some K.vs := h.blk.cell 3
theorem Keep.c4 {w : World} {pb : Nat} {K : KS} (h : Keep w pb K) : w.cell? ⟨pb, 4, none⟩ = some K.vt := h.blk.cell 4
theorem Keep.c5 {w : World} {pb : Nat} {K : KS} (h : Keep w pb K) : w.cell? ⟨pb, 5, none⟩ = some (.int .i64 K.clock) := h.blk.cell 5
theorem Keep.c6 {w : World} {pb : Nat} {K : KS} (h : Keep w pb K) : w.cell? ⟨pb, 6, none⟩ = some K.vr := h.blk.cell 6
theorem Keep.c7 {w : World} {pb : Nat} {K : KS} (h : Keep w pb K) : w.cell? ⟨pb, 7, none⟩ = some (.int .i64 K.open') := h.blk.cell 7
theorem Keep.c8 {w : World} {pb : Nat} {K : KS} (h : Keep w pb K) : w.cell? ⟨pb, 8, none⟩ = some (.bool K.ok) := h.blk.cell 8

/-- what the law keeps has become other, nothing else has turned. -/
def KBecame (w : World) (pb : Nat) (K : KS) (w' : World) (K' : KS) : Prop := Keep w' pb K' ∧ Kept (K.fp pb) w w' ∧ ∀ x, K'.fp pb x → K.fp pb x ∨ w.heap.size ≤ x
theorem KBecame.trans {w w1 w2 : World} {pb : Nat} {K K1 K2 : KS} (h : KBecame w pb K w1 K1) (h2 : KBecame w1 pb K1 w2 K2) : KBecame w pb K w2 K2 := by
  have hs := h.2.1.size
  refine ⟨h2.1, h.2.1.trans h2.2.1 (fun _ => id) (fun k hk hf => ?_), fun x hx => ?_⟩
  · rcases h.2.2 k hf with h1 | h1
    · exact h1
    · omega
  · rcases h2.2.2 x hx with h1 | h1
    · exact h.2.2 x h1
    · exact .inr (by omega)
theorem KBecame.of_kept {w w1 : World} {pb : Nat} {K : KS} (h : Keep w pb K) (k : Kept (fun _ => False) w w1) : KBecame w pb K w1 K := ⟨h.kept k (fun _ _ => id), k.mono (fun _ => False.elim), fun _ hx => .inl hx⟩
/-- a plain cell has turned. -/
theorem Keep.setOwn {w : World} {pb : Nat} {K K' : KS} (h : Keep w pb K) (f : Nat) (v : Value) (hrows : K'.rows = K.rows) (hblk : K.cells.setIfInBounds f v = K'.cells) : KBecame w pb K (w.setCell ⟨pb, f, none⟩ v) K' := by
  refine ⟨⟨by rw [← hblk]; exact h.blk.set f v, by rw [hrows]; exact h.all.kept (Kept.setCell w ⟨pb, f, none⟩ v) (by rintro j ⟨r, hr, hj⟩ he; subst he; exact h.ne r hr hj)⟩, (Kept.setCell w ⟨pb, f, none⟩ v).mono fun k hk => .inl hk, ?_⟩
  rintro x (rfl | ⟨r, hr, hx⟩)
  · exact .inl (.inl rfl)
  · rw [hrows] at hr
    exact .inl (.inr ⟨r, hr, hx⟩)
/-- a row has turned, or lies in a new block, and the cell that holds it. -/
theorem Keep.put {w w' : World} {pb : Nat} {K K' : KS} (h : Keep w pb K) (i f : Nat) (r r' : RowD) (hi : K.rows[i]? = some r) (k : Kept (fun j => r.v.ownBlock = some j) w w') (hr : r'.Is w') (hown : ∀ x, r'.v.ownBlock = some x → r.v.ownBlock = some x ∨ w.heap.size ≤ x) (hrows : K'.rows = K.rows.set i r') (hT : r'.T ≠ 30)
    (hblk : K.cells.setIfInBounds f r'.v = K'.cells) : KBecame w pb K (w'.setCell ⟨pb, f, none⟩ r'.v) K' := by
  have hm : r ∈ K.rows := List.mem_of_getElem? hi
  have blk1 := h.blk.kept k fun he => h.ne r hm he
  have all1 := h.all.put i r r' hi k hr hown
  have k2 := Kept.setCell w' ⟨pb, f, none⟩ r'.v
  refine ⟨⟨?_, ?_⟩, k.trans k2 (fun x hx => .inr ⟨r, hm, hx⟩) (fun x _ hx => .inl hx), ?_⟩
  · rw [← hblk]; exact blk1.set f _
  · rw [hrows]
    refine all1.kept k2 ?_
    rintro j ⟨a, ha, hj⟩ he
    subst he
    rcases List.mem_or_eq_of_mem_set ha with ha' | rfl
    · exact (all1.row a ha).ne_block blk1 (krows_ne ha') hj
    · exact Row.ne_block hr blk1 hT hj
  · rintro x (rfl | ⟨a, ha, hx⟩)
    · exact .inl (.inl rfl)
    · rw [hrows] at ha
      rcases List.mem_or_eq_of_mem_set ha with ha | rfl
      · exact .inl (.inr ⟨a, ha, hx⟩)
      · exact (hown x hx).imp (fun hh => .inr ⟨r, hm, hh⟩) id
/-- behind an append to a row: the cells of the law's own block are as they were. -/
theorem Keep.appIn {W W1 w' : World} {pb : Nat} {K : KS} {T : TypeId} {size : Nat} {v v' : Value} {n m : Nat} {xs news : List Value} (h : Keep W pb K) (i : Nat) (r : RowD) (hi : K.rows[i]? = some r) (hv : r.v = v) (hk : Kept (fun _ => False) W W1) (hA : Appended W1 w' T size v v' n m xs news) :
    Blk w' pb 30 K.cells ∧ Appended W w' T size v v' n m xs news := by
  have hA' := Appended.from hk hA
  exact ⟨h.blk.kept hA'.kept fun he => h.ne r (List.mem_of_getElem? hi) (by rw [hv]; exact he), hA'⟩

theorem state_at (l : List (Nat → Int)) (j : Nat) (hj : j < l.length) (f : Nat) (hf : f < 8) : (l.flatMap stL)[j * 8 + f]? = (stL l[j])[f]? := flat_at stL 8 (fun _ => rfl) l j hj f hf
theorem kr_at (l : List KrE) (j : Nat) (hj : j < l.length) (f : Nat) (hf : f < 4) : (l.flatMap krC)[j * 4 + f]? = (krC l[j])[f]? := flat_at krC 4 (fun _ => rfl) l j hj f hf

end Go.Proofs.Ytpfcacedpkaihab
