/- The program's own world in memory (packages almanac, store, readers, puts): what its blocks hold. -/
import Derived.Test.YtkednbbjofeecaaGreatGb
namespace Go.Proofs.YtkednbbjofeecaaGreat
open Go.RowKit

structure SeatE where
  reads : Bool
  num : Int
  lo : Nat
  hi : Nat
structure DevS where
  clock : Int
  past : List PastE
  begun : Nat
  seats : Nat → SeatE
  puts : List EntE
  vc : Value
  vq : Value

def DevS.cells (D : DevS) : Array Value :=
  #[.int .i64 D.clock, D.vc, .int .i64 (D.begun : Int),
    .bool (D.seats 0).reads, .int .i64 (D.seats 0).num, .int .u64 ((D.seats 0).lo : Int), .int .u64 ((D.seats 0).hi : Int),
    .bool (D.seats 1).reads, .int .i64 (D.seats 1).num, .int .u64 ((D.seats 1).lo : Int), .int .u64 ((D.seats 1).hi : Int),
    .bool (D.seats 2).reads, .int .i64 (D.seats 2).num, .int .u64 ((D.seats 2).lo : Int), .int .u64 ((D.seats 2).hi : Int),
    .bool (D.seats 3).reads, .int .i64 (D.seats 3).num, .int .u64 ((D.seats 3).lo : Int), .int .u64 ((D.seats 3).hi : Int),
    .bool (D.seats 4).reads, .int .i64 (D.seats 4).num, .int .u64 ((D.seats 4).lo : Int), .int .u64 ((D.seats 4).hi : Int),
    .bool (D.seats 5).reads, .int .i64 (D.seats 5).num, .int .u64 ((D.seats 5).lo : Int), .int .u64 ((D.seats 5).hi : Int), D.vq]

def DevS.rows (D : DevS) : List RowD := [⟨186, 10, D.vc, D.past.length, D.past.flatMap pastC⟩, ⟨55, 6, D.vq, D.puts.length, D.puts.flatMap entC⟩]

structure Dev (w : World) (b : Nat) (D : DevS) : Prop where
  blk : Blk w b 128 D.cells
  all : Rows' w D.rows

theorem drows_ne_world {D : DevS} {r : RowD} (h : r ∈ D.rows) : r.T ≠ 128 := by
  simp only [DevS.rows, List.mem_cons, List.not_mem_nil, or_false] at h
  rcases h with rfl | rfl <;> (dsimp only; decide)

theorem Dev.past {w : World} {b : Nat} {D : DevS} (h : Dev w b D) : Row w 186 10 D.vc D.past.length (D.past.flatMap pastC) := h.all.row _ (List.mem_of_getElem? (i := 0) rfl)
theorem Dev.puts {w : World} {b : Nat} {D : DevS} (h : Dev w b D) : Row w 55 6 D.vq D.puts.length (D.puts.flatMap entC) := h.all.row _ (List.mem_of_getElem? (i := 1) rfl)

def DevS.fp (D : DevS) (b : Nat) (k : Nat) : Prop := k = b ∨ ∃ r ∈ D.rows, r.v.ownBlock = some k
theorem dfp_self (D : DevS) (b : Nat) : D.fp b b := .inl rfl
theorem dfp_vc {D : DevS} {b k : Nat} (h : D.vc.ownBlock = some k) : D.fp b k := .inr ⟨_, List.mem_of_getElem? (i := 0) rfl, h⟩
theorem dfp_vq {D : DevS} {b k : Nat} (h : D.vq.ownBlock = some k) : D.fp b k := .inr ⟨_, List.mem_of_getElem? (i := 1) rfl, h⟩

/-- the bounds that a world of the program's keeps. -/
structure DevS.Fit (D : DevS) : Prop where
  pmax : D.past.length ≤ 700
  clk0 : 0 ≤ D.clock
  clk1 : D.clock ≤ 100000
  bmax : D.begun ≤ 200
  qmax : D.puts.length ≤ 10

theorem Dev.lt {w : World} {b : Nat} {D : DevS} (h : Dev w b D) : ∀ k, D.fp b k → k < w.heap.size := by
  rintro k (rfl | ⟨r, hr, hk⟩)
  · exact h.blk.lt
  · exact (h.all.row r hr).lt k hk
theorem Dev.ne {w : World} {b : Nat} {D : DevS} (h : Dev w b D) : ∀ r ∈ D.rows, r.v.ownBlock ≠ some b := fun r hr => (h.all.row r hr).ne_block h.blk (drows_ne_world hr)
theorem Dev.same {w w' : World} {b : Nat} {D : DevS} (h : Dev w b D) (hs : ∀ k, D.fp b k → w'.heap[k]? = w.heap[k]?) : Dev w' b D :=
  ⟨h.blk.same (hs b (.inl rfl)), h.all.same fun k hk => hs k (.inr hk)⟩
theorem Dev.kept {w w' : World} {F : Nat → Prop} {b : Nat} {D : DevS} (h : Dev w b D) (k : Kept F w w') (hF : ∀ j, D.fp b j → ¬ F j) : Dev w' b D :=
  h.same fun j hj => k.block j (h.lt j hj) (hF j hj)

/-- one of a world's rows has turned, and the cell of the world that holds it: a world again. -/
theorem Dev.put {w w' : World} {b : Nat} {D D' : DevS} (h : Dev w b D) (i f : Nat) (r r' : RowD) (hi : D.rows[i]? = some r) (k : Kept (fun j => r.v.ownBlock = some j) w w') (hr : r'.Is w')
    (hown : ∀ x, r'.v.ownBlock = some x → r.v.ownBlock = some x ∨ w.heap.size ≤ x) (hrows : D'.rows = D.rows.set i r') (hT : r'.T ≠ 128)
    (hblk : D.cells.setIfInBounds f r'.v = D'.cells) :
    Dev (w'.setCell ⟨b, f, none⟩ r'.v) b D' ∧ Kept (D.fp b) w (w'.setCell ⟨b, f, none⟩ r'.v) ∧ (∀ x, D'.fp b x → D.fp b x ∨ w.heap.size ≤ x) := by
  have hm : r ∈ D.rows := List.mem_of_getElem? hi
  have blk1 := h.blk.kept k fun he => h.ne r hm he
  have all1 := h.all.put i r r' hi k hr hown
  have k2 := Kept.setCell w' ⟨b, f, none⟩ r'.v
  refine ⟨⟨?_, ?_⟩, k.trans k2 (fun x hx => .inr ⟨r, hm, hx⟩) (fun x _ hx => .inl hx), ?_⟩
  · rw [← hblk]; exact blk1.set f _
  · rw [hrows]
    refine all1.kept k2 ?_
    rintro j ⟨a, ha, hj⟩ he
    subst he
    rcases List.mem_or_eq_of_mem_set ha with ha' | rfl
    · exact (all1.row a ha).ne_block blk1 (drows_ne_world ha') hj
    · exact Row.ne_block hr blk1 hT hj
  · rintro x (rfl | ⟨a, ha, hx⟩)
    · exact .inl (.inl rfl)
    · rw [hrows] at ha
      rcases List.mem_or_eq_of_mem_set ha with ha | rfl
      · exact .inl (.inr ⟨a, ha, hx⟩)
      · exact (hown x hx).imp (fun hh => .inr ⟨r, hm, hh⟩) id

/-- a cell of the world's own block has turned, none that holds a row: a world again. -/
theorem Dev.setOwn {w : World} {b : Nat} {D D' : DevS} (h : Dev w b D) (f : Nat) (v : Value) (hrows : D'.rows = D.rows) (hblk : D.cells.setIfInBounds f v = D'.cells) : Dev (w.setCell ⟨b, f, none⟩ v) b D' :=
  ⟨by rw [← hblk]; exact h.blk.set f v, by rw [hrows]; exact h.all.kept (Kept.setCell w ⟨b, f, none⟩ v) (by rintro j ⟨r, hr, hj⟩ he; subst he; exact h.ne r hr hj)⟩

theorem Dev.drewN {w : World} {b : Nat} {D : DevS} (h : Dev w b D) (n : Nat) : Dev (w.drewN n) b D := h.same fun _ _ => rfl

end Go.Proofs.YtkednbbjofeecaaGreat
