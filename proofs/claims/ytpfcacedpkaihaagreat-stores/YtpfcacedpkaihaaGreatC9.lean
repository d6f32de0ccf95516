import Derived.Test.YtpfcacedpkaihaaGreatC8
namespace Go.Proofs.YtpfcacedpkaihaaGreat
open Go.RowKit
set_option maxRecDepth 100000
set_option maxHeartbeats 16000000
theorem rtouches (w : World) (b : Nat) (R : RefS) (t : Nat) (K : Int) (p : PastE) (h : Ref w b R) (hf : R.Fit) (hp : R.past[t]? = some p) :
 Calls Tryz.prog 141 #[.pointer (some ⟨b, 0, none⟩), .int .u64 t, .int .u8 K] w fun e w' => e = .returned (.bool (bits .and .u8 p.keys K != 0)) ∧ w = w' := by
 obtain ⟨hlt, hp'⟩ := List.getElem?_eq_some_iff.mp hp
 have hm := hf.pmax
 obtain ⟨g, cap, hv, ho, _⟩ := h.past.block (by omega)
 have c0 := h.c0
 rw [hv] at c0
 have hcell := h.past.cell ho (t * 10 + 8) _ (by rw [past_at R.past t hlt 8 (by omega), hp']; rfl)
 clear h hf hv ho hp hp'
 go_enter Tryz.func141, Tryz.ntmps141
 go_wp2
 go_ret
 exact ⟨rfl, rfl⟩
theorem rlast (w : World) (q : Value) (val : Int) (fr till kn hz : Nat) (op : Bool) (hq : ∃ s, q = .string s) (ht : op = false → 1 ≤ till) (hb : till ≤ 701 ∧ kn ≤ 700 ∧ hz ≤ 700) :
 Calls Tryz.prog 96 #[.agg #[q, .int .i32 val, .int .u64 fr, .int .u64 till, .bool op, .int .u64 kn], .int .u64 hz] w fun e w' => e = .returned (.int .u64 (((if op then max kn hz else till - 1) : Nat) : Int)) ∧ Below w.heap.size w w' := by
 obtain ⟨s, rfl⟩ := hq
 obtain ⟨hb1, hb2, hb3⟩ := hb
 cases op with
 | false =>
  have h1 : 1 ≤ till := ht rfl
  clear ht
  go_enter Tryz.func96, Tryz.ntmps96
  go_wp2
  go_ret
  exact ⟨rt_int (by omega), (Below.refl _ _).alloc (Nat.le_refl _) _⟩
 | true =>
  clear ht
  by_cases hc : hz < kn
  · go_enter Tryz.func96, Tryz.ntmps96
    go_wp2
    go_ret
    exact ⟨rt_int (by omega), (Below.refl _ _).alloc (Nat.le_refl _) _⟩
  · go_enter Tryz.func96, Tryz.ntmps96
    go_wp2
    go_ret
    exact ⟨rt_int (by omega), (Below.refl _ _).alloc (Nat.le_refl _) _⟩
def markA (q : ByteArray) (i : Nat) : Array Value := #[.string q, .int .i32 0, .int .u64 0, .int .u64 (i : Int), .bool false, .int .u64 0]
theorem below_drewN {n : Nat} {w w' : World} (h : Below n w w') (m : Nat) : Below n w (w'.drewN m) := ⟨h.os, h.tape, h.output, h.size, h.block⟩
theorem rmarked (w : World) (g n cap i : Nat) (q : ByteArray) (hn : n ≤ 1000000) (hc : ∀ j, j < n → w.cell? ⟨g, j * 6, none⟩ = some (.string q) ∧ w.cell? ⟨g, j * 6 + 1, none⟩ = some (.int .i32 0) ∧ w.cell? ⟨g, j * 6 + 2, none⟩ = some (.int .u64 0) ∧ w.cell? ⟨g, j * 6 + 3, none⟩ = some (.int .u64 (i : Int)) ∧ w.cell? ⟨g, j * 6 + 4, none⟩ = some (.bool false) ∧ w.cell? ⟨g, j * 6 + 5, none⟩ = some (.int .u64 0)) (hg : n = 0 ∨ g < w.heap.size) :
 Calls Tryz.prog 18 #[.slice (some ⟨g, 0, none⟩) n cap, .agg (markA q i)] w fun e w' => e = .returned (.bool true) ∧ Below w.heap.size w w' := by
 unfold markA
 have HC : Hid (∀ j, j < n → w.cell? ⟨g, j * 6, none⟩ = some (.string q) ∧ w.cell? ⟨g, j * 6 + 1, none⟩ = some (.int .i32 0) ∧ w.cell? ⟨g, j * 6 + 2, none⟩ = some (.int .u64 0) ∧ w.cell? ⟨g, j * 6 + 3, none⟩ = some (.int .u64 (i : Int)) ∧ w.cell? ⟨g, j * 6 + 4, none⟩ = some (.bool false) ∧ w.cell? ⟨g, j * 6 + 5, none⟩ = some (.int .u64 0)) := hc
 have HG : Hid (n = 0 ∨ g < w.heap.size) := hg
 clear hc hg
 go_enter Tryz.func18, Tryz.ntmps18
 go_wp2
 go_loopw [5] (fun k wr => ∃ j : Nat, j ≤ n ∧ k = .int .i64 j ∧ Hid (Below w.heap.size w wr ∧ Blk wr w.heap.size 55 (markA q i))) (fun k _ => n - (intOf k).toNat)
 case atStart => exact ⟨0, Nat.zero_le _, rfl, (Below.refl _ _).alloc (Nat.le_refl _) _, Blk.new _ _ _⟩
 case round =>
  obtain ⟨j, hj, rfl, HB⟩ := hrel
  have z0 : wr.cell? ⟨w.heap.size, 0, none⟩ = some (.string q) := HB.out.2.cell 0
  have z3 : wr.cell? ⟨w.heap.size, 3, none⟩ = some (.int .u64 (i : Int)) := HB.out.2.cell 3
  by_cases hlt : j < n
  · have hgz : g < w.heap.size := by have := HG.out; omega
    have hbb := HB.out.1.block g hgz
    obtain ⟨a0, a1, a2, a3, a4, a5⟩ := HC.out j hlt
    have c0 := (World.cell?_of_block (a := ⟨g, j * 6, none⟩) hbb).trans a0
    have c1 := (World.cell?_of_block (a := ⟨g, j * 6 + 1, none⟩) hbb).trans a1
    have c2 := (World.cell?_of_block (a := ⟨g, j * 6 + 2, none⟩) hbb).trans a2
    have c3 := (World.cell?_of_block (a := ⟨g, j * 6 + 3, none⟩) hbb).trans a3
    have c4 := (World.cell?_of_block (a := ⟨g, j * 6 + 4, none⟩) hbb).trans a4
    have c5 := (World.cell?_of_block (a := ⟨g, j * 6 + 5, none⟩) hbb).trans a5
    clear a0 a1 a2 a3 a4 a5 hbb
    have hj0 : (0 : Int) ≤ (j : Int) := by omega
    have hj1 : (j : Int) < (n : Int) := by omega
    go_wp2_with fail
    go_quiet (fail)
    go_wp2
    go_roundw
    case rel => exact ⟨j + 1, by omega, by go_num, below_drewN HB.out.1 _, HB.out.2.same rfl⟩
    case measure => simp [intOf]; omega
  · go_wp2
    go_ret
    exact ⟨rfl, HB.out.1⟩
structure SeatE where
 reads : Bool
 num : Int
 lo : Nat
 hi : Nat
structure HeldE where
 e : EntE
 used : Nat
def heldC (h : HeldE) : List Value := [.string h.e.q, .int .i32 h.e.val, .int .u64 (h.e.fr : Int), .int .u64 (h.e.till : Int), .bool h.e.op, .int .u64 (h.e.kn : Int), .int .u64 (h.used : Int)]
structure NodeP where
 up : Bool
 room : Int
 horizon : Nat
 hists : List (Nat × Int)
 waits : List (Nat × Int)
 ents : List HeldE
 uses : Nat
 flight : List (Nat × Int)
structure DNodeE where
 p : NodeP
 hs : Value
 wt : Value
 en : Value
 fl : Value
def dnodeC (n : DNodeE) : List Value := [.bool n.p.up, .int .i64 n.p.room, .int .u64 (n.p.horizon : Int), n.hs, n.wt, n.en, .int .u64 (n.p.uses : Int), n.fl]
def histC (h : Nat × Int) : List Value := [.int .u64 (h.1 : Int), .int .u8 h.2]
def dnodeR (n : DNodeE) : List RowD := [⟨244, 2, n.hs, n.p.hists.length, n.p.hists.flatMap histC⟩, ⟨244, 2, n.wt, n.p.waits.length, n.p.waits.flatMap histC⟩, ⟨227, 7, n.en, n.p.ents.length, n.p.ents.flatMap heldC⟩, ⟨192, 2, n.fl, n.p.flight.length, n.p.flight.flatMap histC⟩]
structure DevS where
 clock : Int
 past : List PastE
 begun : Nat
 seats : Nat → SeatE
 puts : List EntE
 vc : Value
 vq : Value
 nodes : List DNodeE
 vn : Value
def DevS.cells (D : DevS) : Array Value :=
 #[.int .i64 D.clock, D.vc, .int .i64 (D.begun : Int),
  .bool (D.seats 0).reads, .int .i64 (D.seats 0).num, .int .u64 ((D.seats 0).lo : Int), .int .u64 ((D.seats 0).hi : Int),
  .bool (D.seats 1).reads, .int .i64 (D.seats 1).num, .int .u64 ((D.seats 1).lo : Int), .int .u64 ((D.seats 1).hi : Int),
  .bool (D.seats 2).reads, .int .i64 (D.seats 2).num, .int .u64 ((D.seats 2).lo : Int), .int .u64 ((D.seats 2).hi : Int),
  .bool (D.seats 3).reads, .int .i64 (D.seats 3).num, .int .u64 ((D.seats 3).lo : Int), .int .u64 ((D.seats 3).hi : Int),
  .bool (D.seats 4).reads, .int .i64 (D.seats 4).num, .int .u64 ((D.seats 4).lo : Int), .int .u64 ((D.seats 4).hi : Int),
  .bool (D.seats 5).reads, .int .i64 (D.seats 5).num, .int .u64 ((D.seats 5).lo : Int), .int .u64 ((D.seats 5).hi : Int), D.vq, D.vn]
def DevS.rows (D : DevS) : List RowD := ⟨215, 10, D.vc, D.past.length, D.past.flatMap pastC⟩ :: ⟨55, 6, D.vq, D.puts.length, D.puts.flatMap entC⟩ :: ⟨139, 8, D.vn, D.nodes.length, D.nodes.flatMap dnodeC⟩ :: D.nodes.flatMap dnodeR
structure Dev (w : World) (b : Nat) (D : DevS) : Prop where
 blk : Blk w b 129 D.cells
 all : Rows' w D.rows
theorem drows_ne_world {D : DevS} {r : RowD} (h : r ∈ D.rows) : r.T ≠ 129 := by
 simp only [DevS.rows, List.mem_cons, List.mem_flatMap, dnodeR, List.not_mem_nil, or_false] at h
 rcases h with rfl | rfl | rfl | ⟨nd, _, rfl | rfl | rfl | rfl⟩ <;> (dsimp only; decide)
theorem Dev.past {w : World} {b : Nat} {D : DevS} (h : Dev w b D) : Row w 215 10 D.vc D.past.length (D.past.flatMap pastC) := h.all.row _ (List.mem_of_getElem? (i := 0) rfl)
theorem Dev.puts {w : World} {b : Nat} {D : DevS} (h : Dev w b D) : Row w 55 6 D.vq D.puts.length (D.puts.flatMap entC) := h.all.row _ (List.mem_of_getElem? (i := 1) rfl)
theorem Dev.nodes {w : World} {b : Nat} {D : DevS} (h : Dev w b D) : Row w 139 8 D.vn D.nodes.length (D.nodes.flatMap dnodeC) := h.all.row _ (List.mem_of_getElem? (i := 2) rfl)
theorem dnodeR_mem {D : DevS} {nd : DNodeE} {r : RowD} (hn : nd ∈ D.nodes) (hr : r ∈ dnodeR nd) : r ∈ D.rows := by
 simp only [DevS.rows, List.mem_cons, List.mem_flatMap]
 exact .inr (.inr (.inr ⟨nd, hn, hr⟩))
theorem Dev.hists {w : World} {b : Nat} {D : DevS} (h : Dev w b D) : ∀ nd ∈ D.nodes, Row w 244 2 nd.hs nd.p.hists.length (nd.p.hists.flatMap histC) := fun _ hn => h.all.row ⟨_, _, _, _, _⟩ (dnodeR_mem hn (List.mem_of_getElem? (i := 0) rfl))
theorem Dev.waits {w : World} {b : Nat} {D : DevS} (h : Dev w b D) : ∀ nd ∈ D.nodes, Row w 244 2 nd.wt nd.p.waits.length (nd.p.waits.flatMap histC) := fun _ hn => h.all.row ⟨_, _, _, _, _⟩ (dnodeR_mem hn (List.mem_of_getElem? (i := 1) rfl))
theorem Dev.ents {w : World} {b : Nat} {D : DevS} (h : Dev w b D) : ∀ nd ∈ D.nodes, Row w 227 7 nd.en nd.p.ents.length (nd.p.ents.flatMap heldC) := fun _ hn => h.all.row ⟨_, _, _, _, _⟩ (dnodeR_mem hn (List.mem_of_getElem? (i := 2) rfl))
theorem Dev.flight {w : World} {b : Nat} {D : DevS} (h : Dev w b D) : ∀ nd ∈ D.nodes, Row w 192 2 nd.fl nd.p.flight.length (nd.p.flight.flatMap histC) := fun _ hn => h.all.row ⟨_, _, _, _, _⟩ (dnodeR_mem hn (List.mem_of_getElem? (i := 3) rfl))
def DevS.fp (D : DevS) (b : Nat) (k : Nat) : Prop := k = b ∨ ∃ r ∈ D.rows, r.v.ownBlock = some k
structure DevS.Fit (D : DevS) : Prop where
 pmax : D.past.length ≤ 700
 clk0 : 0 ≤ D.clock
 clk1 : D.clock ≤ 100000
 bmax : D.begun ≤ 200
 qmax : D.puts.length ≤ 10
theorem Dev.lt {w : World} {b : Nat} {D : DevS} (h : Dev w b D) : ∀ k, D.fp b k → k < w.heap.size := by
 rintro k (rfl | ⟨r, hr, hk⟩)
 · exact h.blk.lt
 · exact (h.all.row r hr).lt k hk
theorem Dev.ne {w : World} {b : Nat} {D : DevS} (h : Dev w b D) : ∀ r ∈ D.rows, r.v.ownBlock ≠ some b := fun r hr => (h.all.row r hr).ne_block h.blk (drows_ne_world hr)
theorem Dev.same {w w' : World} {b : Nat} {D : DevS} (h : Dev w b D) (hs : ∀ k, D.fp b k → w'.heap[k]? = w.heap[k]?) : Dev w' b D :=
 ⟨h.blk.same (hs b (.inl rfl)), h.all.same fun k hk => hs k (.inr hk)⟩
theorem Dev.kept {w w' : World} {F : Nat → Prop} {b : Nat} {D : DevS} (h : Dev w b D) (k : Kept F w w') (hF : ∀ j, D.fp b j → ¬ F j) : Dev w' b D :=
 h.same fun j hj => k.block j (h.lt j hj) (hF j hj)
theorem Dev.put {w w' : World} {b : Nat} {D D' : DevS} (h : Dev w b D) (i f : Nat) (r r' : RowD) (hi : D.rows[i]? = some r) (k : Kept (fun j => r.v.ownBlock = some j) w w') (hr : r'.Is w')
 (hown : ∀ x, r'.v.ownBlock = some x → r.v.ownBlock = some x ∨ w.heap.size ≤ x) (hrows : D'.rows = D.rows.set i r') (hT : r'.T ≠ 129)
 (hblk : D.cells.setIfInBounds f r'.v = D'.cells) :
 Dev (w'.setCell ⟨b, f, none⟩ r'.v) b D' ∧ Kept (D.fp b) w (w'.setCell ⟨b, f, none⟩ r'.v) ∧ (∀ x, D'.fp b x → D.fp b x ∨ w.heap.size ≤ x) := by
 have hm : r ∈ D.rows := List.mem_of_getElem? hi
 have blk1 := h.blk.kept k fun he => h.ne r hm he
 have all1 := h.all.put i r r' hi k hr hown
 have k2 := Kept.setCell w' ⟨b, f, none⟩ r'.v
 refine ⟨⟨?_, ?_⟩, k.trans k2 (fun x hx => .inr ⟨r, hm, hx⟩) (fun x _ hx => .inl hx), ?_⟩
 · rw [← hblk]; exact blk1.set f _
 · rw [hrows]
   refine all1.kept k2 ?_
   rintro j ⟨a, ha, hj⟩ he
   subst he
   rcases List.mem_or_eq_of_mem_set ha with ha' | rfl
   · exact (all1.row a ha).ne_block blk1 (drows_ne_world ha') hj
   · exact Row.ne_block hr blk1 hT hj
 · rintro x (rfl | ⟨a, ha, hx⟩)
   · exact .inl (.inl rfl)
   · rw [hrows] at ha
     rcases List.mem_or_eq_of_mem_set ha with ha | rfl
     · exact .inl (.inr ⟨a, ha, hx⟩)
     · exact (hown x hx).imp (fun hh => .inr ⟨r, hm, hh⟩) id
theorem Dev.setOwn {w : World} {b : Nat} {D D' : DevS} (h : Dev w b D) (f : Nat) (v : Value) (hrows : D'.rows = D.rows) (hblk : D.cells.setIfInBounds f v = D'.cells) : Dev (w.setCell ⟨b, f, none⟩ v) b D' :=
 ⟨by rw [← hblk]; exact h.blk.set f v, by rw [hrows]; exact h.all.kept (Kept.setCell w ⟨b, f, none⟩ v) (by rintro j ⟨r, hr, hj⟩ he; subst he; exact h.ne r hr hj)⟩
def DevS.putN (D : DevS) (k : Nat) (nd : DNodeE) : DevS := { D with nodes := D.nodes.set k nd }
def DevS.nodeD (D : DevS) : RowD := ⟨139, 8, D.vn, D.nodes.length, D.nodes.flatMap dnodeC⟩
theorem drows_at {D : DevS} {k : Nat} {nd : DNodeE} (hnd : D.nodes[k]? = some nd) (f : Nat) (hf : f < 4) : D.rows[(k * 4 + f) + 3]? = (dnodeR nd)[f]? := by
 obtain ⟨hk, hnd'⟩ := List.getElem?_eq_some_iff.mp hnd
 show (D.nodes.flatMap dnodeR)[k * 4 + f]? = _
 rw [flat_at dnodeR 4 (fun _ => rfl) D.nodes k hk f hf, hnd']
theorem drows_set {D : DevS} {k : Nat} {nd y : DNodeE} (hnd : D.nodes[k]? = some nd) (f : Nat) (hf : f < 4) (r : RowD) (hy : dnodeR y = (dnodeR nd).set f r) :
 (D.putN k y).rows = (D.rows.set ((k * 4 + f) + 3) r).set 2 (D.putN k y).nodeD := by
 obtain ⟨hk, hnd'⟩ := List.getElem?_eq_some_iff.mp hnd
 have e := flat_set dnodeR 4 (fun _ => rfl) D.nodes k hk f hf r y (by rw [hnd']; exact hy)
 show _ :: _ :: _ :: (D.nodes.set k y).flatMap dnodeR = _ :: _ :: _ :: (D.nodes.flatMap dnodeR).set (k * 4 + f) r
 rw [e]; rfl
def DBecame (w : World) (b : Nat) (D : DevS) (w' : World) (D' : DevS) : Prop := Dev w' b D' ∧ Kept (D.fp b) w w' ∧ ∀ x, D'.fp b x → D.fp b x ∨ w.heap.size ≤ x
theorem DBecame.trans {w w1 w2 : World} {b : Nat} {D D1 D2 : DevS} (h : DBecame w b D w1 D1) (h2 : DBecame w1 b D1 w2 D2) : DBecame w b D w2 D2 := by
 have hs := h.2.1.size
 refine ⟨h2.1, h.2.1.trans h2.2.1 (fun _ => id) (fun k hk hf => ?_), fun x hx => ?_⟩
 · rcases h.2.2 k hf with h1 | h1
   · exact h1
   · omega
 · rcases h2.2.2 x hx with h1 | h1
   · exact h.2.2 x h1
   · exact .inr (by omega)
theorem DBecame.of_kept {w w1 : World} {b : Nat} {D : DevS} (h : Dev w b D) (k : Kept (fun _ => False) w w1) : DBecame w b D w1 D := ⟨h.kept k (fun _ _ => id), k.mono (fun _ => False.elim), fun _ hx => .inl hx⟩
theorem Dev.putF {w w1 w' : World} {b k f : Nat} {D : DevS} {nd y : DNodeE} {r r' : RowD} (h : Dev w b D) (hnd : D.nodes[k]? = some nd) (hf : f < 4) (hr : (dnodeR nd)[f]? = some r) (hy : dnodeR y = (dnodeR nd).set f r')
 (k1 : Kept (fun j => r.v.ownBlock = some j) w w1) (hr' : r'.Is w1) (hown : ∀ x, r'.v.ownBlock = some x → r.v.ownBlock = some x ∨ w.heap.size ≤ x)
 (k2 : Kept (fun j => D.vn.ownBlock = some j) w1 w') (hn : Row w' 139 8 D.vn (D.nodes.set k y).length ((D.nodes.set k y).flatMap dnodeC)) :
 DBecame w b D w' (D.putN k y) := by
 have hi : D.rows[(k * 4 + f) + 3]? = some r := (drows_at hnd f hf).trans hr
 have hm : r ∈ D.rows := List.mem_of_getElem? hi
 have hmn : D.nodeD ∈ D.rows := List.mem_of_getElem? (i := 2) rfl
 have all1 := h.all.put ((k * 4 + f) + 3) r r' hi k1 hr' hown
 have h2 : (D.rows.set ((k * 4 + f) + 3) r')[2]? = some D.nodeD := by rw [List.getElem?_set_ne (by omega)]; rfl
 have all2 := all1.put 2 D.nodeD (D.putN k y).nodeD h2 k2 hn (fun x hx => .inl hx)
 have blk1 := h.blk.kept k1 fun he => h.ne r hm he
 have rown : Row w1 139 8 D.vn D.nodes.length (D.nodes.flatMap dnodeC) := all1.row _ (List.mem_of_getElem? h2)
 have blk2 := blk1.kept k2 fun he => rown.ne_block blk1 (by decide) he
 have er := drows_set hnd f hf r' hy
 refine ⟨⟨blk2, by rw [er]; exact all2⟩, k1.trans k2 (fun x hx => .inr ⟨r, hm, hx⟩) (fun x _ hx => .inr ⟨_, hmn, hx⟩), ?_⟩
 rintro x (rfl | ⟨a, ha, hx⟩)
 · exact .inl (.inl rfl)
 · rw [er] at ha
   rcases List.mem_or_eq_of_mem_set ha with ha | rfl
   · rcases List.mem_or_eq_of_mem_set ha with ha | rfl
     · exact .inl (.inr ⟨a, ha, hx⟩)
     · exact (hown x hx).imp (fun hh => .inr ⟨r, hm, hh⟩) id
   · exact .inl (.inr ⟨_, hmn, hx⟩)
theorem dnode_at (l : List DNodeE) (j : Nat) (hj : j < l.length) (f : Nat) (hf : f < 8) : (l.flatMap dnodeC)[j * 8 + f]? = (dnodeC l[j])[f]? := flat_at dnodeC 8 (fun _ => rfl) l j hj f hf
theorem Dev.nodeC {w : World} {b k g : Nat} {D : DevS} {nd : DNodeE} (h : Dev w b D) (hnd : D.nodes[k]? = some nd) (ho : D.vn.ownBlock = some g) (f : Nat) (hf : f < 8) (u : Value) (hu : (dnodeC nd)[f]? = some u) : w.cell? ⟨g, k * 8 + f, none⟩ = some u := by
 obtain ⟨hk, hnd'⟩ := List.getElem?_eq_some_iff.mp hnd
 exact h.nodes.cell ho _ u (by rw [dnode_at D.nodes k hk f hf, hnd']; exact hu)
theorem dnodeR_mem' {D : DevS} {k f : Nat} {nd : DNodeE} {r : RowD} (hnd : D.nodes[k]? = some nd) (hr : (dnodeR nd)[f]? = some r) : r ∈ D.rows := dnodeR_mem (List.mem_of_getElem? hnd) (List.mem_of_getElem? hr)
theorem dnodeR_ne {nd : DNodeE} {r : RowD} (h : r ∈ dnodeR nd) : r.T ≠ 139 := by
 simp only [dnodeR, List.mem_cons, List.not_mem_nil, or_false] at h
 rcases h with rfl | rfl | rfl | rfl <;> (dsimp only; decide)
theorem Dev.rowN {w w1 : World} {b k g : Nat} {D : DevS} {nd y : DNodeE} (h : Dev w b D) (hnd : D.nodes[k]? = some nd) (ho : D.vn.ownBlock = some g) (f c : Nat) (hf : f < 4) (hcc : c < 8) (r r' : RowD) (v : Value) (hr : (dnodeR nd)[f]? = some r) (hy : dnodeR y = (dnodeR nd).set f r') (hc : dnodeC y = (dnodeC nd).set c v)
 (k1 : Kept (fun j => r.v.ownBlock = some j) w w1) (hr' : r'.Is w1) (hown : ∀ x, r'.v.ownBlock = some x → r.v.ownBlock = some x ∨ w.heap.size ≤ x) : DBecame w b D (w1.setCell ⟨g, k * 8 + c, none⟩ v) (D.putN k y) := by
 obtain ⟨hk, hnd'⟩ := List.getElem?_eq_some_iff.mp hnd
 have hm := dnodeR_mem' hnd hr
 have hrn : Row w1 139 8 D.vn D.nodes.length (D.nodes.flatMap dnodeC) := h.nodes.kept k1 fun j hj he => (h.all.row r hm).ne_row h.nodes (dnodeR_ne (List.mem_of_getElem? hr)) j he hj
 refine h.putF hnd hf hr hy k1 hr' hown ((Kept.setCell w1 _ _).mono fun j hj => by rw [ho, hj]) ?_
 have := hrn.set ho (k * 8 + c) v
 rw [flat_set dnodeC 8 (fun _ => rfl) D.nodes k hk c hcc v y (by rw [hnd']; exact hc)] at this
 rw [List.length_set]
 exact this
theorem Dev.cellN {w : World} {b k g : Nat} {D : DevS} {nd y : DNodeE} (h : Dev w b D) (hnd : D.nodes[k]? = some nd) (ho : D.vn.ownBlock = some g) (c : Nat) (hcc : c < 8) (v : Value) (hy : dnodeR y = dnodeR nd) (hc : dnodeC y = (dnodeC nd).set c v) : DBecame w b D (w.setCell ⟨g, k * 8 + c, none⟩ v) (D.putN k y) :=
 h.rowN hnd ho 0 c (by omega) hcc ⟨244, 2, nd.hs, nd.p.hists.length, nd.p.hists.flatMap histC⟩ ⟨244, 2, nd.hs, nd.p.hists.length, nd.p.hists.flatMap histC⟩ v rfl (by rw [hy]; rfl) hc (Kept.refl _ _) (h.hists nd (List.mem_of_getElem? hnd)) (fun x hx => .inl hx)
theorem flat_same {α β : Type} (C : α → List β) (l : List α) (k : Nat) (y : α) (h : ∀ x, l[k]? = some x → C y = C x) : (l.set k y).flatMap C = l.flatMap C := by
 induction l generalizing k with
 | nil => rfl
 | cons a r ih =>
  match k with
  | 0 => simp only [List.set_cons_zero, List.flatMap_cons]; rw [h a rfl]
  | k + 1 => simp only [List.set_cons_succ, List.flatMap_cons]; rw [ih k fun x hx => h x (by simpa using hx)]
theorem Dev.turnEnts {w w1 : World} {b k : Nat} {D : DevS} {nd : DNodeE} (h : Dev w b D) (hnd : D.nodes[k]? = some nd) (l : List HeldE) (k1 : Kept (fun j => nd.en.ownBlock = some j) w w1) (hr : Row w1 227 7 nd.en l.length (l.flatMap heldC)) : DBecame w b D w1 (D.putN k { nd with p := { nd.p with ents := l } }) := by
 have hrn : Row w1 139 8 D.vn D.nodes.length (D.nodes.flatMap dnodeC) := h.nodes.kept k1 fun j hj he => (h.ents nd (List.mem_of_getElem? hnd)).ne_row h.nodes (by decide) j he hj
 refine h.putF hnd (f := 2) (r := ⟨227, 7, nd.en, nd.p.ents.length, nd.p.ents.flatMap heldC⟩) (r' := ⟨227, 7, nd.en, l.length, l.flatMap heldC⟩) (by omega) rfl rfl k1 hr (fun x hx => .inl hx) (Kept.refl _ _) ?_
 rw [List.length_set, flat_same dnodeC D.nodes k _ fun x hx => by rw [hnd] at hx; injection hx with hx; subst hx; rfl]
 exact hrn
theorem held_at (l : List HeldE) (j : Nat) (hj : j < l.length) (f : Nat) (hf : f < 7) : (l.flatMap heldC)[j * 7 + f]? = (heldC l[j])[f]? := flat_at heldC 7 (fun _ => rfl) l j hj f hf
theorem Dev.heldC {w : World} {b k ge j : Nat} {D : DevS} {nd : DNodeE} {x : HeldE} (h : Dev w b D) (hnd : D.nodes[k]? = some nd) (he : nd.en.ownBlock = some ge) (hx : nd.p.ents[j]? = some x) (f : Nat) (hf : f < 7) (u : Value) (hu : (Go.Proofs.YtpfcacedpkaihaaGreat.heldC x)[f]? = some u) : w.cell? ⟨ge, j * 7 + f, none⟩ = some u := by
 obtain ⟨hj, hx'⟩ := List.getElem?_eq_some_iff.mp hx
 exact (h.ents nd (List.mem_of_getElem? hnd)).cell he _ u (by rw [held_at nd.p.ents j hj f hf, hx']; exact hu)
theorem Dev.heldF {w : World} {b k ge : Nat} {D : DevS} {nd : DNodeE} (h : Dev w b D) (hnd : D.nodes[k]? = some nd) (he : nd.en.ownBlock = some ge) (f : Nat) : w.frozen? ⟨ge, f, none⟩ = false := (h.ents nd (List.mem_of_getElem? hnd)).free he f
theorem Dev.nodeF {w : World} {b g : Nat} {D : DevS} (h : Dev w b D) (ho : D.vn.ownBlock = some g) (f : Nat) : w.frozen? ⟨g, f, none⟩ = false := h.nodes.free ho f
theorem Dev.c0 {w : World} {b : Nat} {D : DevS} (h : Dev w b D) : w.cell? ⟨b, 0, none⟩ = some (.int .i64 D.clock) := h.blk.cell 0
theorem Dev.c1 {w : World} {b : Nat} {D : DevS} (h : Dev w b D) : w.cell? ⟨b, 1, none⟩ = some D.vc := h.blk.cell 1
theorem Dev.c2 {w : World} {b : Nat} {D : DevS} (h : Dev w b D) : w.cell? ⟨b, 2, none⟩ = some (.int .i64 (D.begun : Int)) := h.blk.cell 2
theorem dnewest_c (w : World) (b : Nat) (ao : Option Addr) (n cap : Nat) (c1 : w.cell? ⟨b, 1, none⟩ = some (.slice ao n cap)) (hm : n ≤ 700) :
 Calls Tryz.prog 80 #[.pointer (some ⟨b, 0, none⟩)] w fun e w' => e = .returned (.int .u64 (n : Int)) ∧ w = w' := by
 go_enter Tryz.func80, Tryz.ntmps80
 go_wp2
 go_ret
 exact ⟨rt_int (by omega), rfl⟩
theorem dnewest (w : World) (b : Nat) (D : DevS) (h : Dev w b D) (hf : D.Fit) :
 Calls Tryz.prog 80 #[.pointer (some ⟨b, 0, none⟩)] w fun e w' => e = .returned (.int .u64 (D.past.length : Int)) ∧ w = w' := by
 obtain ⟨ao, cap, hv, _⟩ := h.past.form
 exact dnewest_c w b ao _ cap (by rw [h.c1, hv]) hf.pmax
theorem dclock_c (w : World) (b : Nat) (k : Int) (c0 : w.cell? ⟨b, 0, none⟩ = some (.int .i64 k)) :
 Calls Tryz.prog 81 #[.pointer (some ⟨b, 0, none⟩)] w fun e w' => e = .returned (.int .i64 k) ∧ w = w' := by
 go_enter Tryz.func81, Tryz.ntmps81
 go_wp2
 go_ret
 exact ⟨rfl, rfl⟩
def DTickPost (w : World) (b : Nat) (D : DevS) (e : Ending) (w' : World) : Prop :=
 (D.clock = 100000 ∧ e = .returned (.int .i64 6) ∧ w = w') ∨ (D.clock < 100000 ∧ e = .returned (.int .i64 0) ∧ Dev w' b { D with clock := D.clock + 1 } ∧ Kept (D.fp b) w w')
theorem dtick0 (w : World) (b : Nat) (D : DevS) (h : Dev w b D) (hf : D.Fit) :
 Calls Tryz.prog 79 #[.pointer (some ⟨b, 0, none⟩)] w fun e w' => DTickPost w b D e w' := by
 have c0 := h.c0
 have f0 := h.blk.free 0
 have hm0 := hf.clk0
 have hm1 := hf.clk1
 by_cases hc : D.clock < 100000
 · have HR : Hid (Dev w b D) := h
   clear h hf
   go_enter Tryz.func79, Tryz.ntmps79
   go_wp2
   go_ret
   exact .inr ⟨hc, rfl, HR.out.setOwn 0 _ rfl (by simp [DevS.cells]), (Kept.setCell _ _ _).mono fun k hk => .inl hk⟩
 · clear h hf
   go_enter Tryz.func79, Tryz.ntmps79
   go_wp2
   go_ret
   exact .inl ⟨by omega, rfl, rfl⟩
def stAt (l : List PastE) (t : Nat) : Nat → Int := if t = 0 then fun _ => 0 else (l[t - 1]?.map PastE.st).getD fun _ => 0
def stC (s : Nat → Int) : Array Value := #[.int .i32 (s 0), .int .i32 (s 1), .int .i32 (s 2), .int .i32 (s 3), .int .i32 (s 4), .int .i32 (s 5), .int .i32 (s 6), .int .i32 (s 7)]
theorem dat (w : World) (b : Nat) (D : DevS) (t : Nat) (h : Dev w b D) (hf : D.Fit) (ht : t ≤ D.past.length) :
 Calls Tryz.prog 128 #[.pointer (some ⟨b, 0, none⟩), .int .u64 t] w fun e w' => e = .returned (.agg (stC (stAt D.past t))) ∧ Kept (fun _ => False) w w' := by
 have hm := hf.pmax
 by_cases h0 : t = 0
 · subst h0
   go_enter Tryz.func128, Tryz.ntmps128
   go_wp2
   refine bodyPost_ret (v := .agg (stC (stAt D.past 0))) (by simp [results, Tryz.results128, go_sem, stC, stAt]) rfl ⟨rfl, ?_⟩
   trace_state
   exact (Kept.alloc _ _ _).trans (Kept.refl _ _) (fun _ => id) (fun _ _ => id)
 · obtain ⟨j, rfl⟩ : ∃ j, t = j + 1 := ⟨t - 1, by omega⟩
   have hlt : j < D.past.length := by omega
   obtain ⟨g, cap, hv, ho, hgl⟩ := h.past.block (by omega)
   have c1 := h.c1
   rw [hv] at c1
   have hbl := h.blk.lt
   have hb : (((j + 1 : Nat) : Int) == 0) = false := beq_eq_false_iff_ne.mpr (by omega)
   obtain ⟨p, hp⟩ : ∃ p, p = D.past[j] := ⟨_, rfl⟩
   have HS : ∀ f (hf : f < 10), w.cell? ⟨g, j * 10 + f, none⟩ = (pastC p)[f]? := by
    intro f hf
    have e := past_at D.past j hlt f hf
    rw [← hp] at e
    obtain ⟨u, hu⟩ : ∃ u, (pastC p)[f]? = some u := ⟨(pastC p)[f]'(by simpa [pastC] using hf), List.getElem?_eq_getElem _⟩
    rw [hu]
    exact h.past.cell ho _ u (e.trans hu)
   have s0 : w.cell? ⟨g, j * 10, none⟩ = some (.int .i32 (p.st 0)) := HS 0 (by omega)
   have s1 : w.cell? ⟨g, j * 10 + 1, none⟩ = some (.int .i32 (p.st 1)) := HS 1 (by omega)
   have s2 : w.cell? ⟨g, j * 10 + 2, none⟩ = some (.int .i32 (p.st 2)) := HS 2 (by omega)
   have s3 : w.cell? ⟨g, j * 10 + 3, none⟩ = some (.int .i32 (p.st 3)) := HS 3 (by omega)
   have s4 : w.cell? ⟨g, j * 10 + 4, none⟩ = some (.int .i32 (p.st 4)) := HS 4 (by omega)
   have s5 : w.cell? ⟨g, j * 10 + 5, none⟩ = some (.int .i32 (p.st 5)) := HS 5 (by omega)
   have s6 : w.cell? ⟨g, j * 10 + 6, none⟩ = some (.int .i32 (p.st 6)) := HS 6 (by omega)
   have s7 : w.cell? ⟨g, j * 10 + 7, none⟩ = some (.int .i32 (p.st 7)) := HS 7 (by omega)
   have HST : Hid (stAt D.past (j + 1) = p.st) := by simp [Hid, stAt, List.getElem?_eq_getElem hlt, hp]
   have HN : Hid (∀ W : World, W.cell? ⟨b, 1, none⟩ = some (.slice (some ⟨g, 0, none⟩) D.past.length cap) → Calls Tryz.prog 80 #[.pointer (some ⟨b, 0, none⟩)] W fun e w' => e = .returned (.int .u64 (D.past.length : Int)) ∧ W = w') := fun W hW => dnewest_c W b _ _ _ hW hm
   have n1 : ∀ o, (w.alloc o).cell? ⟨b, 1, none⟩ = some (.slice (some ⟨g, 0, none⟩) D.past.length cap) := fun o => (World.cell?_alloc_past o b 1 hbl).trans c1
   clear HS h hf hv ho hp
   go_enter Tryz.func128, Tryz.ntmps128
   go_wp2_with (go_at_call 80; refine (HN.out _ (n1 _)).mono ?_; rintro e w' ⟨rfl, rfl⟩)
   refine bodyPost_ret (v := .agg (stC p.st)) (by simp [results, Tryz.results128, go_sem, stC]) rfl ⟨by rw [HST.out], ?_⟩
   trace_state
   exact (Kept.alloc _ _ _).trans (Kept.refl _ _) (fun _ => id) (fun _ _ => id)
def First (l : List PastE) (tick : Int) (j : Nat) : Prop := j ≤ l.length ∧ (∀ i (h : i < l.length), i < j → l[i].tick < tick) ∧ ∀ (h : j < l.length), tick ≤ l[j].tick
def SincePost (w : World) (D : DevS) (tick : Int) (e : Ending) (w' : World) : Prop := ∃ j, First D.past tick j ∧ e = .returned (.int .u64 (j : Int)) ∧ Kept (fun _ => False) w w'
theorem dsince (w : World) (b : Nat) (D : DevS) (tick : Int) (h : Dev w b D) (hf : D.Fit) :
 Calls Tryz.prog 82 #[.pointer (some ⟨b, 0, none⟩), .int .i64 tick] w fun e w' => SincePost w D tick e w' := by
 have hm := hf.pmax
 obtain ⟨ao, cap, hv, hno⟩ := h.past.form
 have c1 := h.c1
 rw [hv] at c1
 have HC : Hid (w.cell? ⟨b, 1, none⟩ = some (.slice ao D.past.length cap)) := c1
 have HCELL : Hid (∀ k (hk : k < D.past.length), ∃ g, ao = some ⟨g, 0, none⟩ ∧ ∀ f, f < 10 → w.cell? ⟨g, k * 10 + f, none⟩ = (pastC D.past[k])[f]?) := by
  intro k hk
  obtain ⟨g, cap', hv', ho, _⟩ := h.past.block (by omega)
  rw [hv] at hv'
  injection hv' with e1 _ _
  refine ⟨g, e1, fun f hf => ?_⟩
  have e := past_at D.past k hk f hf
  obtain ⟨u, hu⟩ : ∃ u, (pastC D.past[k])[f]? = some u := ⟨(pastC D.past[k])[f]'(by simpa [pastC] using hf), List.getElem?_eq_getElem _⟩
  rw [hu]
  exact h.past.cell ho _ u (e.trans hu)
 clear h hf hv hno
 go_enter Tryz.func82, Tryz.ntmps82
 go_wp2
 go_loopw [12] (fun i wr => ∃ k : Nat, k ≤ D.past.length ∧ i = .int .i64 k ∧ Hid (∀ i (h : i < D.past.length), i < k → D.past[i].tick < tick) ∧ Hid (Kept (fun _ => False) w wr)) (fun i _ => D.past.length - (intOf i).toNat)
 case atStart => exact ⟨0, Nat.zero_le _, rfl, fun i _ hi => absurd hi (Nat.not_lt_zero _), Kept.refl _ _⟩
 case round =>
  obtain ⟨k, hk, rfl, HB, HK⟩ := hrel
  by_cases hlt : k < D.past.length
  · obtain ⟨g, hg, hcell⟩ := HCELL.out k hlt
    obtain ⟨p, hp⟩ : ∃ p, p = D.past[k] := ⟨_, rfl⟩
    rw [← hp] at hcell
    have s0 : wr.cell? ⟨g, k * 10, none⟩ = some (.int .i32 (p.st 0)) := HK.out.keep id (hcell 0 (by omega))
    have s1 : wr.cell? ⟨g, k * 10 + 1, none⟩ = some (.int .i32 (p.st 1)) := HK.out.keep id (hcell 1 (by omega))
    have s2 : wr.cell? ⟨g, k * 10 + 2, none⟩ = some (.int .i32 (p.st 2)) := HK.out.keep id (hcell 2 (by omega))
    have s3 : wr.cell? ⟨g, k * 10 + 3, none⟩ = some (.int .i32 (p.st 3)) := HK.out.keep id (hcell 3 (by omega))
    have s4 : wr.cell? ⟨g, k * 10 + 4, none⟩ = some (.int .i32 (p.st 4)) := HK.out.keep id (hcell 4 (by omega))
    have s5 : wr.cell? ⟨g, k * 10 + 5, none⟩ = some (.int .i32 (p.st 5)) := HK.out.keep id (hcell 5 (by omega))
    have s6 : wr.cell? ⟨g, k * 10 + 6, none⟩ = some (.int .i32 (p.st 6)) := HK.out.keep id (hcell 6 (by omega))
    have s7 : wr.cell? ⟨g, k * 10 + 7, none⟩ = some (.int .i32 (p.st 7)) := HK.out.keep id (hcell 7 (by omega))
    have s8 : wr.cell? ⟨g, k * 10 + 8, none⟩ = some (.int .u8 p.keys) := HK.out.keep id (hcell 8 (by omega))
    have s9 : wr.cell? ⟨g, k * 10 + 9, none⟩ = some (.int .i64 p.tick) := HK.out.keep id (hcell 9 (by omega))
    have HP : Hid (p = D.past[k]) := hp
    clear hcell hp c1
    subst hg
    by_cases ht : tick ≤ p.tick
    · go_wp2
      go_ret
      refine ⟨k, ⟨hk, HB.out, fun _ => by rw [← HP.out]; exact ht⟩, rt_int (by omega), ?_⟩
      exact HK.out.trans (Kept.alloc _ _ (fun _ => False)) (fun _ => id) (fun _ _ => id)
    · go_wp2
      go_roundw
      case rel =>
       refine ⟨k + 1, by omega, by go_num, fun i hi hik => ?_, HK.out.trans (Kept.alloc _ _ (fun _ => False)) (fun _ => id) (fun _ _ => id)⟩
       by_cases e : i = k
       · subst e; rw [← HP.out]; omega
       · exact HB.out i hi (by omega)
      case measure => simp [intOf]; omega
  · have hk' : k = D.past.length := by omega
    subst hk'
    have HC2 : Hid (wr.cell? ⟨b, 1, none⟩ = some (.slice ao D.past.length cap)) := HK.out.keep id HC.out
    go_wp2_with (go_at_call 80; refine (dnewest_c _ b _ _ _ HC2.out hm).mono ?_; rintro e w' ⟨rfl, rfl⟩)
    go_ret
    exact ⟨D.past.length, ⟨Nat.le_refl _, HB.out, fun h => absurd h (Nat.lt_irrefl _)⟩, rfl, HK.out⟩
theorem stC_set {q : PastE} {kk : Nat} {y : Int} (hk : kk ≤ 7) : (stC q.st).setIfInBounds kk (.int .i32 y) = stC (writeP q ((kk : Int), y)).st := by
 have hc : kk = 0 ∨ kk = 1 ∨ kk = 2 ∨ kk = 3 ∨ kk = 4 ∨ kk = 5 ∨ kk = 6 ∨ kk = 7 := by omega
 rcases hc with rfl | rfl | rfl | rfl | rfl | rfl | rfl | rfl <;> simp [stC, writeP]
theorem stC_at {q : PastE} {kk : Nat} (hk : kk ≤ 7) : (stC q.st)[kk]? = some (.int .i32 (q.st kk)) := by
 have hc : kk = 0 ∨ kk = 1 ∨ kk = 2 ∨ kk = 3 ∨ kk = 4 ∨ kk = 5 ∨ kk = 6 ∨ kk = 7 := by omega
 rcases hc with rfl | rfl | rfl | rfl | rfl | rfl | rfl | rfl <;> rfl
def WrittenPost (w : World) (p : PastE) (ws : List (Int × Int)) (e : Ending) (w' : World) : Prop :=
 Kept (fun _ => False) w w' ∧ ((ws.all keyOk = true ∧ e = .returned (.tuple #[.agg (stC (writesP p ws).st), .int .u8 (writesP p ws).keys, .bool true])) ∨
  (ws.all keyOk = false ∧ e = .returned (.tuple #[.agg (stC fun _ => 0), .int .u8 0, .bool false])))
theorem all_bad {ws : List (Int × Int)} {k : Nat} (h : k < ws.length) (hb : keyOk ws[k] = false) : ws.all keyOk = false := by
 cases hh : ws.all keyOk with
 | false => rfl
 | true => have := List.all_eq_true.mp hh _ (List.getElem_mem h); rw [hb] at this; cases this
theorem all_take {ws : List (Int × Int)} {k : Nat} (h : k < ws.length) (ha : (ws.take k).all keyOk = true) (hb : keyOk ws[k] = true) : (ws.take (k + 1)).all keyOk = true := by
 rw [List.take_succ_eq_append_getElem h, List.all_append, ha]; simp [hb]
theorem dwritten (w : World) (p : PastE) (hp0 : p.keys = 0) (ao : Option Addr) (n cap : Nat) (ws : List (Int × Int)) (hw : Wr w ao n ws) (hn : n ≤ 8) :
 Calls Tryz.prog 127 #[.agg (stC p.st), .slice ao n cap] w fun e w' => WrittenPost w p ws e w' := by
 have HW : Hid (Wr w ao n ws) := hw
 have hl := hw.len
 have HP0 : Hid (p.keys = 0) := hp0
 clear hw hp0
 unfold stC
 go_enter Tryz.func127, Tryz.ntmps127
 go_wp2
 go_loopw [7, 12] (fun ks i wr => ∃ k : Nat, k ≤ n ∧ i = .int .i64 k ∧ ks = .int .u8 (writesP p (ws.take k)).keys ∧ Hid ((ws.take k).all keyOk = true) ∧ Hid (Kept (fun _ => False) w wr ∧ Blk wr w.heap.size 141 (stC (writesP p (ws.take k)).st) ∧ Blk wr (w.heap.size + 1) 141 (stC fun _ => 0))) (fun _ i _ => n - (intOf i).toNat)
 case atStart =>
  refine ⟨0, Nat.zero_le _, rfl, ?_, rfl, ((Kept.alloc w _ (fun _ => False)).trans (Kept.alloc _ _ (fun _ => False)) (fun _ => id) (fun _ _ => id)), ?_, ?_⟩
  · show _ = Value.int .u8 p.keys
    rw [HP0.out]
  · exact (Blk.new w _ _).kept (Kept.alloc _ _ (fun _ => False)) id
  · have := Blk.new (w.alloc (.cells (stC p.st) 141)) 141 (stC fun _ => 0)
    simp only [World.size_alloc] at this
    exact this
 case round =>
  obtain ⟨k, hkn, rfl, rfl, HA, HB2⟩ := hrel
  obtain ⟨q, hq⟩ : ∃ q, q = writesP p (ws.take k) := ⟨_, rfl⟩
  rw [← hq] at HB2 ⊢
  have HQ : Hid (q = writesP p (ws.take k)) := hq
  clear hq
  have hsz : w.heap.size + 1 < wr.heap.size := HB2.out.2.2.lt
  have hsz0 : w.heap.size < wr.heap.size := by omega
  by_cases hlt : k < n
  · have hlt' : k < ws.length := by omega
    obtain ⟨bl, off, hao, z0, z1⟩ := HW.out.cell k hlt'
    have hbl : bl < w.heap.size := World.block_lt_of_cell? w _ z0
    have c0 := HB2.out.1.keep id z0
    have c1 := HB2.out.1.keep id z1
    clear z0 z1
    obtain ⟨x, hx⟩ : ∃ x, ws[k].1 = x := ⟨_, rfl⟩
    obtain ⟨y, hy⟩ : ∃ y, ws[k].2 = y := ⟨_, rfl⟩
    rw [hx] at c0
    rw [hy] at c1
    have hbw : bl < wr.heap.size := by omega
    have hkx : keyOk ws[k] = (decide (0 ≤ x) && decide (x < 8)) := by rw [keyOk, hx]
    by_cases hx0 : x < 0
    · have hd : decide (x < 0) = true := by simpa using hx0
      have HBAD : Hid (ws.all keyOk = false) := all_bad hlt' (by rw [hkx]; simp; omega)
      have b0 : wr.cell? ⟨w.heap.size + 1, 0, none⟩ = some (.int .i32 0) := HB2.out.2.2.cell 0
      have g0 := HB2.out.2.2.free 0
      have b1 : wr.cell? ⟨w.heap.size + 1, 1, none⟩ = some (.int .i32 0) := HB2.out.2.2.cell 1
      have g1 := HB2.out.2.2.free 1
      have b2 : wr.cell? ⟨w.heap.size + 1, 2, none⟩ = some (.int .i32 0) := HB2.out.2.2.cell 2
      have g2 := HB2.out.2.2.free 2
      have b3 : wr.cell? ⟨w.heap.size + 1, 3, none⟩ = some (.int .i32 0) := HB2.out.2.2.cell 3
      have g3 := HB2.out.2.2.free 3
      have b4 : wr.cell? ⟨w.heap.size + 1, 4, none⟩ = some (.int .i32 0) := HB2.out.2.2.cell 4
      have g4 := HB2.out.2.2.free 4
      have b5 : wr.cell? ⟨w.heap.size + 1, 5, none⟩ = some (.int .i32 0) := HB2.out.2.2.cell 5
      have g5 := HB2.out.2.2.free 5
      have b6 : wr.cell? ⟨w.heap.size + 1, 6, none⟩ = some (.int .i32 0) := HB2.out.2.2.cell 6
      have g6 := HB2.out.2.2.free 6
      have b7 : wr.cell? ⟨w.heap.size + 1, 7, none⟩ = some (.int .i32 0) := HB2.out.2.2.cell 7
      have g7 := HB2.out.2.2.free 7
      subst hao
      clear hkx hx hy
      go_wp2
      refine bodyPost_ret (v := .tuple #[.agg (stC fun _ => 0), .int .u8 0, .bool false]) (by simp [results, Tryz.results127, go_sem, stC, *]) rfl ⟨?_, .inr ⟨HBAD.out, rfl⟩⟩
      exact ((((((((HB2.out.1.setNew _ 0 _ (Nat.le_succ _)).setNew _ 1 _ (Nat.le_succ _)).setNew _ 2 _ (Nat.le_succ _)).setNew _ 3 _ (Nat.le_succ _)).setNew _ 4 _ (Nat.le_succ _)).setNew _ 5 _ (Nat.le_succ _)).setNew _ 6 _ (Nat.le_succ _)).setNew _ 7 _ (Nat.le_succ _)).allocNew _
    · by_cases hx8 : 8 ≤ x
      · have hd : decide (x < 0) = false := by simpa using hx0
        have HBAD : Hid (ws.all keyOk = false) := all_bad hlt' (by rw [hkx]; simp; omega)
        have b0 : wr.cell? ⟨w.heap.size + 1, 0, none⟩ = some (.int .i32 0) := HB2.out.2.2.cell 0
        have g0 := HB2.out.2.2.free 0
        have b1 : wr.cell? ⟨w.heap.size + 1, 1, none⟩ = some (.int .i32 0) := HB2.out.2.2.cell 1
        have g1 := HB2.out.2.2.free 1
        have b2 : wr.cell? ⟨w.heap.size + 1, 2, none⟩ = some (.int .i32 0) := HB2.out.2.2.cell 2
        have g2 := HB2.out.2.2.free 2
        have b3 : wr.cell? ⟨w.heap.size + 1, 3, none⟩ = some (.int .i32 0) := HB2.out.2.2.cell 3
        have g3 := HB2.out.2.2.free 3
        have b4 : wr.cell? ⟨w.heap.size + 1, 4, none⟩ = some (.int .i32 0) := HB2.out.2.2.cell 4
        have g4 := HB2.out.2.2.free 4
        have b5 : wr.cell? ⟨w.heap.size + 1, 5, none⟩ = some (.int .i32 0) := HB2.out.2.2.cell 5
        have g5 := HB2.out.2.2.free 5
        have b6 : wr.cell? ⟨w.heap.size + 1, 6, none⟩ = some (.int .i32 0) := HB2.out.2.2.cell 6
        have g6 := HB2.out.2.2.free 6
        have b7 : wr.cell? ⟨w.heap.size + 1, 7, none⟩ = some (.int .i32 0) := HB2.out.2.2.cell 7
        have g7 := HB2.out.2.2.free 7
        subst hao
        clear hkx hx hy
        go_wp2
        refine bodyPost_ret (v := .tuple #[.agg (stC fun _ => 0), .int .u8 0, .bool false]) (by simp [results, Tryz.results127, go_sem, stC, *]) rfl ⟨?_, .inr ⟨HBAD.out, rfl⟩⟩
        exact ((((((((HB2.out.1.setNew _ 0 _ (Nat.le_succ _)).setNew _ 1 _ (Nat.le_succ _)).setNew _ 2 _ (Nat.le_succ _)).setNew _ 3 _ (Nat.le_succ _)).setNew _ 4 _ (Nat.le_succ _)).setNew _ 5 _ (Nat.le_succ _)).setNew _ 6 _ (Nat.le_succ _)).setNew _ 7 _ (Nat.le_succ _)).allocNew _
      · have hd : decide (x < 0) = false := by simpa using hx0
        obtain ⟨kk, rfl⟩ : ∃ kk : Nat, x = kk := ⟨x.toNat, by omega⟩
        have HALL : Hid ((ws.take (k + 1)).all keyOk = true) := all_take hlt' HA.out (by rw [hkx]; simp; omega)
        have hk7 : kk ≤ 7 := by omega
        have HE : Hid (writesP p (ws.take (k + 1)) = writeP q ((kk : Int), y)) := by
         show _ = _
         rw [writesP_snoc _ ws k hlt', ← HQ.out, ← hx, ← hy]
        have d0 := HB2.out.2.1.cell kk
        rw [stC_at hk7] at d0
        have f0 := HB2.out.2.1.free kk
        subst hao
        clear hkx hx hy
        go_wp2
        go_roundw
        case rel =>
         refine ⟨k + 1, by omega, by go_num, ?_, HALL.out, ?_⟩
         · rw [HE.out]; rfl
         · rw [HE.out, ← stC_set hk7]
           refine ⟨(HB2.out.1.setNew _ _ _ (Nat.le_refl _)).allocNew _, (HB2.out.2.1.set kk _).kept (Kept.alloc _ _ (fun _ => False)) id, ?_⟩
           exact (HB2.out.2.2.kept (Kept.setCell wr ⟨w.heap.size, kk, none⟩ (.int .i32 y)) (by simp)).kept (Kept.alloc _ _ (fun _ => False)) id
        case measure => simp [intOf]; omega
  · have hk' : k = ws.length := by omega
    subst hk'
    rw [List.take_length] at HQ HA
    have b0 : wr.cell? ⟨w.heap.size + 1, 0, none⟩ = some (.int .i32 0) := HB2.out.2.2.cell 0
    have g0 := HB2.out.2.2.free 0
    have d0 : wr.cell? ⟨w.heap.size, 0, none⟩ = some (.int .i32 (q.st 0)) := HB2.out.2.1.cell 0
    have b1 : wr.cell? ⟨w.heap.size + 1, 1, none⟩ = some (.int .i32 0) := HB2.out.2.2.cell 1
    have g1 := HB2.out.2.2.free 1
    have d1 : wr.cell? ⟨w.heap.size, 1, none⟩ = some (.int .i32 (q.st 1)) := HB2.out.2.1.cell 1
    have b2 : wr.cell? ⟨w.heap.size + 1, 2, none⟩ = some (.int .i32 0) := HB2.out.2.2.cell 2
    have g2 := HB2.out.2.2.free 2
    have d2 : wr.cell? ⟨w.heap.size, 2, none⟩ = some (.int .i32 (q.st 2)) := HB2.out.2.1.cell 2
    have b3 : wr.cell? ⟨w.heap.size + 1, 3, none⟩ = some (.int .i32 0) := HB2.out.2.2.cell 3
    have g3 := HB2.out.2.2.free 3
    have d3 : wr.cell? ⟨w.heap.size, 3, none⟩ = some (.int .i32 (q.st 3)) := HB2.out.2.1.cell 3
    have b4 : wr.cell? ⟨w.heap.size + 1, 4, none⟩ = some (.int .i32 0) := HB2.out.2.2.cell 4
    have g4 := HB2.out.2.2.free 4
    have d4 : wr.cell? ⟨w.heap.size, 4, none⟩ = some (.int .i32 (q.st 4)) := HB2.out.2.1.cell 4
    have b5 : wr.cell? ⟨w.heap.size + 1, 5, none⟩ = some (.int .i32 0) := HB2.out.2.2.cell 5
    have g5 := HB2.out.2.2.free 5
    have d5 : wr.cell? ⟨w.heap.size, 5, none⟩ = some (.int .i32 (q.st 5)) := HB2.out.2.1.cell 5
    have b6 : wr.cell? ⟨w.heap.size + 1, 6, none⟩ = some (.int .i32 0) := HB2.out.2.2.cell 6
    have g6 := HB2.out.2.2.free 6
    have d6 : wr.cell? ⟨w.heap.size, 6, none⟩ = some (.int .i32 (q.st 6)) := HB2.out.2.1.cell 6
    have b7 : wr.cell? ⟨w.heap.size + 1, 7, none⟩ = some (.int .i32 0) := HB2.out.2.2.cell 7
    have g7 := HB2.out.2.2.free 7
    have d7 : wr.cell? ⟨w.heap.size, 7, none⟩ = some (.int .i32 (q.st 7)) := HB2.out.2.1.cell 7
    go_wp2
    refine bodyPost_ret (v := .tuple #[.agg (stC q.st), .int .u8 q.keys, .bool true]) (by simp [results, Tryz.results127, go_sem, stC, *]) rfl ⟨?_, .inl ⟨HA.out, by rw [HQ.out]⟩⟩
    exact ((((((((HB2.out.1.setNew _ 0 _ (Nat.le_succ _)).setNew _ 1 _ (Nat.le_succ _)).setNew _ 2 _ (Nat.le_succ _)).setNew _ 3 _ (Nat.le_succ _)).setNew _ 4 _ (Nat.le_succ _)).setNew _ 5 _ (Nat.le_succ _)).setNew _ 6 _ (Nat.le_succ _)).setNew _ 7 _ (Nat.le_succ _))
def RightPost (w : World) (l : List PastE) (K : Int) (t : Nat) (e : Ending) (w' : World) : Prop :=
 e = .returned (.tuple #[.int .u64 (fromN (zeroP :: l) K t : Int), .int .u64 (((tillN (zeroP :: l) K (l.length - t)).getD 0 : Nat) : Int)]) ∧ Kept (fun _ => False) w w'
theorem dright (w : World) (b : Nat) (D : DevS) (K : Int) (t : Nat) (h : Dev w b D) (hf : D.Fit) (ht : t ≤ D.past.length) :
 Calls Tryz.prog 139 #[.pointer (some ⟨b, 0, none⟩), .int .u8 K, .int .u64 t] w fun e w' => RightPost w D.past K t e w' := by
 have hm := hf.pmax
 obtain ⟨ao, cap, hv, hno⟩ := h.past.form
 have c1 := h.c1
 rw [hv] at c1
 have HCELL : Hid (∀ k (hk : k < D.past.length), ∃ g, ao = some ⟨g, 0, none⟩ ∧ ∀ f, f < 10 → w.cell? ⟨g, k * 10 + f, none⟩ = (pastC D.past[k])[f]?) := by
  intro k hk
  obtain ⟨g, cap', hv', ho, _⟩ := h.past.block (by omega)
  rw [hv] at hv'
  injection hv' with e1 _ _
  refine ⟨g, e1, fun f hf => ?_⟩
  have e := past_at D.past k hk f hf
  obtain ⟨u, hu⟩ : ∃ u, (pastC D.past[k])[f]? = some u := ⟨(pastC D.past[k])[f]'(by simpa [pastC] using hf), List.getElem?_eq_getElem _⟩
  rw [hu]
  exact h.past.cell ho _ u (e.trans hu)
 obtain ⟨L, hL⟩ : ∃ L, L = zeroP :: D.past := ⟨_, rfl⟩
 have hll : L.length = D.past.length + 1 := by rw [hL]; rfl
 have HT : Hid (∀ k (hk : k < D.past.length), touchB L K (k + 1) = (bits .and .u8 D.past[k].keys K != 0)) := fun k hk => touchB_some K (by rw [hL, List.getElem?_cons_succ]; exact List.getElem?_eq_getElem hk)
 have HPO : Hid (∀ (e : Ending) (w' : World), e = .returned (.tuple #[.int .u64 (fromN L K t : Int), .int .u64 (((tillN L K (D.past.length - t)).getD 0 : Nat) : Int)]) → Kept (fun _ => False) w w' → RightPost w D.past K t e w') := fun e w' h1 h2 => ⟨by rw [← hL]; exact h1, h2⟩
 clear h hf hv hno hL
 go_enter Tryz.func139, Tryz.ntmps139
 go_wp2
 go_loopw [8, 17] (fun fr i wr => ∃ k : Nat, k ≤ D.past.length ∧ i = .int .i64 k ∧ fr = .int .u64 (fromN L K (min k t) : Int) ∧ Hid (∀ s, t < s → s ≤ k → touchB L K s = false) ∧ Hid (Kept (fun _ => False) w wr)) (fun _ i _ => D.past.length - (intOf i).toNat)
 case atStart => exact ⟨0, Nat.zero_le _, rfl, by simp [fromN], fun s h1 h2 => by omega, Kept.refl _ _⟩
 case round =>
  obtain ⟨k, hk, rfl, rfl, HB, HK⟩ := hrel
  have hfl := fromN_le L K (min k t)
  by_cases hlt : k < D.past.length
  · obtain ⟨g, hg, hcell⟩ := HCELL.out k hlt
    have HTK := HT.out k hlt
    obtain ⟨p, hp⟩ : ∃ p, p = D.past[k] := ⟨_, rfl⟩
    rw [← hp] at hcell HTK
    have s0 : wr.cell? ⟨g, k * 10, none⟩ = some (.int .i32 (p.st 0)) := HK.out.keep id (hcell 0 (by omega))
    have s1 : wr.cell? ⟨g, k * 10 + 1, none⟩ = some (.int .i32 (p.st 1)) := HK.out.keep id (hcell 1 (by omega))
    have s2 : wr.cell? ⟨g, k * 10 + 2, none⟩ = some (.int .i32 (p.st 2)) := HK.out.keep id (hcell 2 (by omega))
    have s3 : wr.cell? ⟨g, k * 10 + 3, none⟩ = some (.int .i32 (p.st 3)) := HK.out.keep id (hcell 3 (by omega))
    have s4 : wr.cell? ⟨g, k * 10 + 4, none⟩ = some (.int .i32 (p.st 4)) := HK.out.keep id (hcell 4 (by omega))
    have s5 : wr.cell? ⟨g, k * 10 + 5, none⟩ = some (.int .i32 (p.st 5)) := HK.out.keep id (hcell 5 (by omega))
    have s6 : wr.cell? ⟨g, k * 10 + 6, none⟩ = some (.int .i32 (p.st 6)) := HK.out.keep id (hcell 6 (by omega))
    have s7 : wr.cell? ⟨g, k * 10 + 7, none⟩ = some (.int .i32 (p.st 7)) := HK.out.keep id (hcell 7 (by omega))
    have s8 : wr.cell? ⟨g, k * 10 + 8, none⟩ = some (.int .u8 p.keys) := HK.out.keep id (hcell 8 (by omega))
    have s9 : wr.cell? ⟨g, k * 10 + 9, none⟩ = some (.int .i64 p.tick) := HK.out.keep id (hcell 9 (by omega))
    clear hcell hp c1
    subst hg
    obtain ⟨fr, hfr⟩ : ∃ fr, fr = fromN L K (min k t) := ⟨_, rfl⟩
    rw [← hfr] at hfl ⊢
    have HFR : Hid (fr = fromN L K (min k t)) := hfr
    clear hfr
    cases hbz : (bits .and .u8 p.keys K == 0) with
    | true =>
     have HTB : Hid (touchB L K (k + 1) = false) := by show _ = _; rw [HTK]; simp [bne, hbz]
     have HNX : Hid (fromN L K (min (k + 1) t) = fr) := by
      show _ = _
      by_cases hkt : k + 1 ≤ t
      · rw [fromN_step hkt, HTB.out, HFR.out]; rfl
      · rw [fromN_past (by omega), HFR.out]
     clear HTK
     go_wp2
     go_roundw
     case rel =>
      refine ⟨k + 1, by omega, by go_num, by rw [HNX.out], fun s h1 h2 => ?_, HK.out.allocNew _⟩
      by_cases e : s = k + 1
      · subst e; exact HTB.out
      · exact HB.out s h1 (by omega)
     case measure => simp [intOf]; omega
    | false =>
     have HTB : Hid (touchB L K (k + 1) = true) := by show _ = _; rw [HTK]; simp [bne, hbz]
     clear HTK
     by_cases hkt : k + 1 ≤ t
     · have HNX : Hid (fromN L K (min (k + 1) t) = k + 1) := by show _ = _; rw [fromN_step hkt, HTB.out]; rfl
       go_wp2
       go_roundw
       case rel => exact ⟨k + 1, by omega, by go_num, by rw [HNX.out]; go_num, fun s h1 h2 => by omega, HK.out.allocNew _⟩
       case measure => simp [intOf]; omega
     · have HNX : Hid (fromN L K t = fr ∧ tillN L K (D.past.length - t) = some (k + 1)) := by
        refine ⟨by rw [HFR.out]; congr 1; omega, ?_⟩
        exact till_some _ (by omega) (by omega) (by omega) HTB.out fun r h1 h2 => HB.out r (by omega) (by omega)
       go_wp2
       go_ret2
       refine HPO.out _ _ ?_ (HK.out.allocNew _)
       rw [HNX.out.1, HNX.out.2]
       rfl
  · have hkk : k = D.past.length := by omega
    subst hkk
    have HNX : Hid (fromN L K (min D.past.length t) = fromN L K t ∧ tillN L K (D.past.length - t) = none) := by
     refine ⟨by congr 1; omega, till_none _ (by omega) fun s h1 h2 => HB.out s (by omega) (by omega)⟩
    go_wp2
    go_ret2
    refine HPO.out _ _ ?_ HK.out
    rw [HNX.out.2, ← HNX.out.1]
    rfl
end Go.Proofs.YtpfcacedpkaihaaGreat
