import Derived.Test.YtpfcacedpkaihaaGreatC53
import Derived.Test.YtpfcacedpkaihaaGreatC50
import Derived.Test.YtpfcacedpkaihaaGreatC44
import Derived.Test.YtpfcacedpkaihaaGreatC45
namespace Go.Proofs.YtpfcacedpkaihaaGreat
open Go.RowKit
set_option maxRecDepth 100000
set_option maxHeartbeats 16000000
theorem LookPost.from {w W w' : World} {pb : Nat} {vps bv b1 b2 : Value} {commits most : Int} {bn : Nat} {vals : List Value} {cn : Nat} {cvals : List Value} (h : LookPost W pb vps bv b1 b2 commits most bn vals cn cvals w') (k : Kept (fun _ => False) w W) : LookPost w pb vps bv b1 b2 commits most bn vals cn cvals w' := by
 obtain ⟨w4, w5, v, u, lE, lC, m, n, xs, ys, hm, hn, k4, hl, hf, hp, hl2, hf2, hq⟩ := h
 have s := k.size
 exact ⟨w4, w5, v, u, lE, lC, m, n, xs, ys, hm, hn, k.trans k4 (fun _ => id) (fun _ _ => id), hl, fun j hj => Nat.le_trans s (hf j hj), hp, hl2, fun j hj => Nat.le_trans s (hf2 j hj), hq⟩
def bX (bv b1 b2 : Value) (nA nB nC : List NoteE) (k : Nat) : Prop := bookX bv nA k ∨ bookX b1 nB k ∨ bookX b2 nC k
structure AState (w0 W : World) (most : Int) (k : Nat) (ps : List PairE) (vps bv b1 b2 : Value) (commits : Int) (nA nB nC : List NoteE) : Prop where
 inv : Inv w0.heap.size (bX bv b1 b2 nA nB nC) w0 W w0.heap.size ps vps bv b1 b2 commits most
 a : BookG shE W bv nA
 b : BookG shM W b1 nB
 c : BookG shC W b2 nC
 low : ∀ j, bX bv b1 b2 nA nB nC j → w0.heap.size ≤ j
 r1 : ps.length ≤ k
 r2 : 0 ≤ commits
 r3 : commits ≤ (k : Int)
 ra : nA.length ≤ k
 rb : nB.length ≤ k
 rc : nC.length ≤ k
 ru : ∀ p ∈ ps, p.R.uses.length ≤ k
def AInv (w0 : World) (most : Int) (k : Nat) (W : World) : Prop := ∃ ps vps bv b2 commits nA nC, AState w0 W most k ps vps bv nilV b2 commits nA [] nC
section
variable {w0 W W' : World} {most : Int} {k : Nat} {ps : List PairE} {vps bv b2 : Value} {commits : Int} {nA nC : List NoteE}
theorem AState.kept (h : AState w0 W most k ps vps bv nilV b2 commits nA [] nC) (hk : Kept (fun _ => False) W W') : AState w0 W' most k ps vps bv nilV b2 commits nA [] nC :=
 ⟨h.inv.kept hk, h.a.kept hk fun _ _ => id, h.b.kept hk fun _ _ => id, h.c.kept hk fun _ _ => id, h.low, h.r1, h.r2, h.r3, h.ra, h.rb, h.rc, h.ru⟩
theorem AState.more (h : AState w0 W most k ps vps bv nilV b2 commits nA [] nC) : AState w0 W most (k + 1) ps vps bv nilV b2 commits nA [] nC :=
 ⟨h.inv, h.a, h.b, h.c, h.low, by have := h.r1; omega, h.r2, by have := h.r3; omega, by have := h.ra; omega, by have := h.rb; omega, by have := h.rc; omega, fun p hp => Nat.le_succ_of_le (h.ru p hp)⟩
theorem AState.spost {e : Ending} (h : AState w0 W most k ps vps bv nilV b2 commits nA [] nC) (hp : SPost w0.heap.size (bX bv nilV b2 nA [] nC) w0 W w0.heap.size ps bv nilV b2 commits most e W') : e = .returned (.bool true) ∧ AInv w0 most (k + 1) W' := by
 obtain ⟨e1, hk, ps', vps', commits', hi', l1, l2, l3⟩ := hp
 have r1 := h.r1
 have r2 := h.r2
 have r3 := h.r3
 exact ⟨e1, ps', vps', bv, b2, commits', nA, nC, hi', h.a.kept hk (fun b hb hn => hn (.inl hb)), h.b.kept hk (fun b hb hn => hn (.inr (.inl hb))), h.c.kept hk (fun b hb hn => hn (.inr (.inr hb))), h.low, by omega, by omega, by omega, Nat.le_succ_of_le h.ra, Nat.le_succ_of_le h.rb, Nat.le_succ_of_le h.rc, l3 k h.ru⟩
theorem AState.books {v u2 : Value} {mA mC : List NoteE} (h : AState w0 W most k ps vps bv nilV b2 commits nA [] nC) (ha : BookG shE W' v mA) (hb : BookG shM W' nilV []) (hc : BookG shC W' u2 mC) (hp : Blk W' w0.heap.size 34 (playC vps v nilV u2 commits most))
 (hk : Kept (fun j => j = w0.heap.size ∨ bX bv nilV b2 nA [] nC j) W W') (hX : ∀ j, bX v nilV u2 mA [] mC j → bX bv nilV b2 nA [] nC j ∨ W.heap.size ≤ j) (la : mA.length ≤ k + 1) (lc : mC.length ≤ k + 1) : AInv w0 most (k + 1) W' := by
 obtain ⟨z1, z2⟩ := h.inv.book (X' := bX v nilV u2 mA [] mC) hk h.low hp hX (by
  rintro j (hj | hj | hj)
  · exact ha.lt j hj
  · exact hb.lt j hj
  · exact hc.lt j hj)
 have r1 := h.r1
 have r3 := h.r3
 exact ⟨ps, vps, v, u2, commits, mA, mC, z1, ha, hb, hc, z2, by omega, h.r2, by omega, la, by simp, lc, fun p hp => Nat.le_succ_of_le (h.ru p hp)⟩
theorem AState.puts {v : Value} {m : Nat} (h : AState w0 W most k ps vps bv nilV b2 commits nA [] nC) (hm : m ≤ 1000) (hp : GPost shE (fun v => playC vps v nilV b2 commits most) W w0.heap.size bv nA.length (nA.map noteV) nilV m v W') : AInv w0 most (k + 1) W' := by
 have hno : ∀ j, nilV.ownBlock ≠ some j := fun j => by simp [nilV, Value.ownBlock]
 obtain ⟨mA, z1, z2, z3⟩ := h.a.note shE_ok (B := W.heap.size) h.a.lt (Nat.le_refl _) (fun j hj => absurd hj (hno j)) h.inv.blk hm hp
 have hn : Row W shE.te 6 nilV 0 [] := Row.nil _ _ _
 refine h.books z1 (h.b.other shM_ok far_EM h.a.row hn h.inv.blk hp.kept) (h.c.other shC_ok far_EC h.a.row hn h.inv.blk hp.kept) hp.blk (hp.kept.mono ?_) ?_ (by rw [z2]; have := h.ra; omega) (Nat.le_succ_of_le h.rc)
 · rintro j (hj | hj | hj)
   · exact .inl hj
   · exact .inr (.inl (.inl hj))
   · exact absurd hj (hno j)
 · rintro j (hj | hj | hj)
   · exact (z3 j hj).imp .inl id
   · exact .inl (.inr (.inl hj))
   · exact .inl (.inr (.inr hj))
theorem AState.look (h : AState w0 W most k ps vps bv nilV b2 commits nA [] nC) (hp : LookPost W w0.heap.size vps bv nilV b2 commits most nA.length (nA.map noteV) nC.length (nC.map noteV) W') : AInv w0 most (k + 1) W' := by
 obtain ⟨w4, w5, v, u, lE, lC, m, n, xs, ys, hm, hn, k4, hl, hf, hp, hl2, hf2, hq⟩ := hp
 have h4 := h.kept k4
 have s4 := k4.size
 have s5 := hp.kept.size
 obtain ⟨mA, z1, z2, z3⟩ := h4.a.note shE_ok (B := W.heap.size) h.a.lt s4 hf h4.inv.blk hm hp
 have b5 := h4.b.other shM_ok far_EM h4.a.row hl h4.inv.blk hp.kept
 have c5 := h4.c.other shC_ok far_EC h4.a.row hl h4.inv.blk hp.kept
 obtain ⟨mC, y1, y2, y3⟩ := c5.note shC_ok (B := W.heap.size) h.c.lt (Nat.le_trans s4 s5) hf2 hp.blk hn hq
 refine h.books (z1.other shE_ok far_CE c5.row hl2 hp.blk hq.kept) (b5.other shM_ok far_CM c5.row hl2 hp.blk hq.kept) y1 hq.blk ((k4.trans hp.kept (H := fun j => j = w0.heap.size ∨ bX bv nilV b2 nA [] nC j) (fun _ => False.elim) ?_).trans hq.kept (fun _ => id) ?_) ?_ (by rw [z2]; have := h.ra; omega) (by rw [y2]; have := h.rc; omega)
 · rintro j hj (hj' | hj' | hj')
   · exact .inl hj'
   · exact .inr (.inl (.inl hj'))
   · have := hf j hj'; omega
 · rintro j hj (hj' | hj' | hj')
   · exact .inl hj'
   · exact .inr (.inr (.inr (.inl hj')))
   · have := hf2 j hj'; omega
 · rintro j (hj | hj | hj)
   · exact (z3 j hj).imp .inl id
   · exact .inl (.inr (.inl hj))
   · exact (y3 j hj).imp (fun x => .inr (.inr x)) id
theorem AState.whole {e : Ending} (h : AState w0 W most k ps vps bv nilV b2 commits nA [] nC) (hp : WholePost W b2 nC e W') : e = .returned (.bool true) ∧ AState w0 W' most k ps vps bv nilV b2 commits nA [] nC := by
 obtain ⟨e1, hc, hk⟩ := hp
 have hx : ∀ j, (∃ x ∈ nC, noteB x j) → bookX b2 nC j := fun j ⟨x, hx, hj⟩ => .inr ⟨x, hx, .inr hj⟩
 have ht : ∀ j, (∃ x ∈ nC, noteB x j) → ∃ c, Blk W j 5 c := by
  rintro j ⟨x, hx, hj⟩
  obtain ⟨i, hi, rfl⟩ := List.getElem_of_mem hx
  exact (h.c.each i hi).elem hj
 have oth : ∀ {T : Shelf} {b : Value} {ns : List NoteE}, BookG T W b ns → T.te ≠ 5 → T.tl ≠ 5 → T.tn ≠ 5 → BookG T W' b ns := by
  intro T b ns hb h1 h2 h3
  refine hb.kept hk fun j hj hcj => ?_
  obtain ⟨U, c, hU, hU'⟩ := hb.type hj
  obtain ⟨c', hc'⟩ := ht j hcj
  have := (hU.type hc').1
  rcases hU' with rfl | rfl | rfl
  · exact h1 this
  · exact h2 this
  · exact h3 this
 have hpb : ¬ (∃ x ∈ nC, noteB x w0.heap.size) := fun hj => by
  obtain ⟨c', hc'⟩ := ht _ hj
  exact absurd (h.inv.blk.type hc').1 (by decide)
 have ha := oth h.a (by decide) (by decide) (by decide)
 have hb := oth h.b (by decide) (by decide) (by decide)
 obtain ⟨z1, z2⟩ := h.inv.book (X' := bX bv nilV b2 nA [] nC) (hk.mono fun j hj => .inr (.inr (.inr (hx j hj)))) h.low (h.inv.blk.kept hk hpb) (fun j hj => .inl hj) (by
  rintro j (hj | hj | hj)
  · exact ha.lt j hj
  · exact hb.lt j hj
  · exact hc.lt j hj)
 exact ⟨e1, z1, ha, hb, hc, z2, h.r1, h.r2, h.r3, h.ra, h.rb, h.rc, h.ru⟩
end
theorem lstep_stores {w0 W : World} {most : Int} {k : Nat} (hI : AInv w0 most k W) (o : OpE) (ho : OpOk w0.heap.size w0 o) (hk0 : 1 ≤ o.kd) (hk1 : o.kd ≤ 12) (hkm : (k + 1) * 72 ≤ 140737488351232) :
 Calls Tryz.prog 9 #[.pointer (some ⟨w0.heap.size, 0, none⟩), .agg #[.int .i64 o.kd, .int .i64 o.a, .int .i64 o.b, .int .i64 o.c, .string o.s, .slice o.ao o.n o.cap]] W fun e w' => e = .returned (.bool true) ∧ AInv w0 most (k + 1) w' := by
 obtain ⟨ps, vps, bv, b2, commits, nA, nC, hS⟩ := hI
 have hi := hS.inv
 have r1 := hS.r1
 have r3 := hS.r3
 have ra := hS.ra
 have rc := hS.rc
 have ru := hS.ru
 by_cases h16 : o.kd = 1 ∨ o.kd = 2 ∨ o.kd = 3 ∨ o.kd = 4 ∨ o.kd = 5 ∨ o.kd = 6
 · exact (lstep_begins hi o ho h16 (by omega) hS.r2 (by omega) (fun p hp => by have := ru p hp; omega)).mono fun e w' hp => hS.spost hp
 by_cases hps : ps.length = 0
 · exact (lstep_none hi o.kd o.a o.b o.c o.s o.ao o.n o.cap hps (by omega) (by omega)).mono fun e w' hp => hS.spost hp
 have hp0 : 0 < ps.length := by omega
 have hpm : ps.length ≤ 4611686018427387904 := by omega
 have each : ∀ {W1 : World} {i : Nat} {p : PairE}, ps[i]? = some p → Kept (fun _ => False) W W1 → Pair W1 p.xb p.cb p.D p.R ∧ p.R.uses.length < 3000000000000 := fun {W1 i p} hget hk => ⟨(hi.each p (List.mem_of_getElem? hget)).kept hk fun _ _ => id, by have := ru p (List.mem_of_getElem? hget); omega⟩
 have turned : ∀ {W1 : World} {i : Nat} {p : PairE} {e : Ending} {w' : World}, ps[i]? = some p → Kept (fun _ => False) W W1 → StepPost W1 p.xb p.cb p.D p.R e w' → e = .returned (.bool true) ∧ Hid (SPost w0.heap.size (bX bv nilV b2 nA [] nC) w0 W w0.heap.size ps bv nilV b2 commits most (.returned (.bool true)) w') := fun {W1 i p e w'} hget hk hp => ⟨hp.1, (SPost.of_turned (hi.kept hk) hget hp.2).from hk⟩
 by_cases h7 : o.kd = 7
 · refine (lstep_reader hi o.kd o.a o.b o.c o.s o.ao o.n o.cap hp0 hpm (by omega) (by omega) ho.a0 ho.a1 fun W xb cb D R hR hp => ?_).mono fun e w' hp => hS.spost hp
   rw [h7]
   obtain ⟨p, hp', rfl⟩ := hR
   exact lreader_read W w0.heap.size xb cb _ _ _ _ _ _ _ D _ hp (by have := ru p hp'; omega) ho.str
 by_cases h8 : o.kd = 8
 · refine (lstep_memory hi o.kd o.a o.b o.c o.s o.ao o.n o.cap hp0 hpm (by omega) (by omega) ho.a0 ho.a1 (fun w' => ∃ m, m ≤ 1000 ∧ PutsPost W w0.heap.size vps bv nilV b2 commits most nA.length (nA.map noteV) m w') fun W1 i p hget hk => ?_).mono fun e w' hp => ?_
   · rw [h8]
     obtain ⟨hpp, _⟩ := each hget hk
     refine (lmem_puts W1 w0.heap.size p.xb p.cb _ _ _ _ _ _ _ p.D p.R vps bv nilV b2 commits most nA.length (nA.map noteV) hpp (hi.kept hk).blk (hS.kept hk).a.row (by omega)).mono fun e w' hp => ?_
     have := hpp.dfit.qmax
     exact ⟨hp.1, p.D.puts.length, by omega, hp.2.out.from hk⟩
   · obtain ⟨e1, m, hm, hpp⟩ := hp
     obtain ⟨v, hg⟩ := gpost_puts hpp
     exact ⟨e1, hS.puts hm hg⟩
 by_cases h12 : o.kd = 12
 · refine (lstep_memory hi o.kd o.a o.b o.c o.s o.ao o.n o.cap hp0 hpm (by omega) (by omega) ho.a0 ho.a1 (fun w' => LookPost W w0.heap.size vps bv nilV b2 commits most nA.length (nA.map noteV) nC.length (nC.map noteV) w') fun W1 i p hget hk => ?_).mono fun e w' hp => ⟨hp.1, hS.look hp.2⟩
   rw [h12]
   obtain ⟨hpp, hu⟩ := each hget hk
   have hSk := hS.kept hk
   exact (lmem_look W1 w0.heap.size p.xb p.cb _ _ _ _ _ _ _ p.D p.R vps bv nilV b2 commits most nA.length (nA.map noteV) nC.length (nC.map noteV) hpp hu (hi.kept hk).blk hSk.a.row hSk.c.row (by omega) (by omega)).mono fun e w' hp => ⟨hp.1, hp.2.out.from hk⟩
 refine (lstep_memory hi o.kd o.a o.b o.c o.s o.ao o.n o.cap hp0 hpm (by omega) (by omega) ho.a0 ho.a1 (fun w' => SPost w0.heap.size (bX bv nilV b2 nA [] nC) w0 W w0.heap.size ps bv nilV b2 commits most (.returned (.bool true)) w') fun W1 i p hget hk => ?_).mono fun e w' hp => ⟨hp.1, (hS.spost hp.2).2⟩
 obtain ⟨hpp, hu⟩ := each hget hk
 have hc : o.kd = 9 ∨ o.kd = 10 ∨ o.kd = 11 := by omega
 rcases hc with e | e | e
 · rw [e]; exact (lmem_drop W1 w0.heap.size p.xb p.cb _ _ _ _ _ _ _ p.D p.R hpp).mono fun e w' hp => turned hget hk hp
 · rw [e]; exact (lmem_store W1 w0.heap.size p.xb p.cb _ _ _ _ _ _ _ p.D p.R hpp hu).mono fun e w' hp => turned hget hk hp
 · rw [e]; exact (lmem_evict W1 w0.heap.size p.xb p.cb _ _ _ _ _ _ _ p.D p.R hpp hu).mono fun e w' hp => turned hget hk hp
theorem ks_alloc (w : World) (ks : List Int) (t : TypeId) : Ks (w.alloc (.cells (ks.map fun x => Value.int .i64 x).toArray t)) w.heap.size ks :=
 ⟨by simp, fun j h => by rw [World.cell?_alloc_at _ _ _ _ rfl]; simp [h]⟩
theorem bX_nil (k : Nat) : ¬ bX nilV nilV nilV [] [] [] k := by
 rintro (h | h | h) <;> exact bookX_nil k h
theorem stores_plays (w0 : World) (ao : Option Addr) (n cap kb kcap : Nat) (ks : List Int) (most : Int) (os : List OpE) (hsc : Sc w0 ao n os) (hks : Ks w0 kb ks) (hkn : ks.length ≤ 100) (hkk : ∀ x ∈ ks, 1 ≤ x ∧ x ≤ 12) (hn : n * 72 ≤ 140737488351232) (hok : ∀ o ∈ os, OpOk w0.heap.size w0 o) :
 Calls Tryz.prog 8 #[.slice ao n cap, .slice (some ⟨kb, 0, none⟩) ks.length kcap, .int .i64 most] w0 fun e w' => PlaysPost n (AInv w0 most) e w' := by
 have hl := hsc.len
 refine lplays w0 ao n cap kb kcap os ks most (AInv w0 most) (fun k W => AInv w0 most (k + 1) W) hsc hks (by omega) hkn ?_ ?_ ?_ ?_ ?_ ?_
 · rintro k W ⟨ps, vps, bv, b2, commits, nA, nC, hS⟩
   exact hS.inv.below
 · exact ⟨[], nilV, nilV, nilV, 0, [], [], inv_start w0 _ _ bX_nil, BookG.nil _ _, BookG.nil _ _, BookG.nil _ _, fun j hj => absurd hj (bX_nil j), by simp, by omega, by simp, by simp, by simp, by simp, fun p hp => (by cases hp)⟩
 · rintro k W W' ⟨ps, vps, bv, b2, commits, nA, nC, hS⟩ hk
   exact ⟨ps, vps, bv, b2, commits, nA, nC, hS.kept hk⟩
 · rintro k W ⟨ps, vps, bv, b2, commits, nA, nC, hS⟩
   exact ⟨ps, vps, bv, b2, commits, nA, nC, hS.more⟩
 · intro k W hk hI hany
   obtain ⟨x, hx, he⟩ := List.any_eq_true.mp hany
   have he' : os[k].kd = x := by simpa using he
   have := hkk x hx
   exact lstep_stores hI os[k] (hok _ (List.getElem_mem hk)) (by omega) (by omega) (by omega)
 · rintro k W hk ⟨ps, vps, bv, b2, commits, nA, nC, hS⟩
   have ra := hS.ra
   have rc := hS.rc
   refine (lwhole2 W w0.heap.size vps bv b2 commits most nA nC hS.inv.blk hS.a hS.c (by omega) (by omega)).mono fun e w' hp => ?_
   obtain ⟨e1, hS'⟩ := hS.whole hp
   exact ⟨e1, ps, vps, bv, b2, commits, nA, nC, hS'⟩
theorem stores_any (w : World) (ao : Option Addr) (n cap : Nat) (os : List OpE) (hsc : Sc w ao n os) (hn : n * 72 ≤ 140737488351232) (hok : ∀ o ∈ os, OpOk w.heap.size w o) :
 Calls Tryz.prog 5 #[.slice ao n cap] w fun e w' => LawPost w e w' := by
 have HPL : Hid (Calls Tryz.prog 8 #[.slice ao n cap, .slice (some ⟨w.heap.size, 0, none⟩) 11 11, .int .i64 30] (w.alloc (.cells #[.int .i64 1, .int .i64 2, .int .i64 3, .int .i64 5, .int .i64 6, .int .i64 7, .int .i64 8, .int .i64 9, .int .i64 10, .int .i64 11, .int .i64 12] 3)) fun e w' => e = .returned (.bool true) ∧ Hid (Below w.heap.size w w')) := by
  refine (stores_plays _ ao n cap w.heap.size 11 [1, 2, 3, 5, 6, 7, 8, 9, 10, 11, 12] 30 os (hsc.alloc _) (ks_alloc w [1, 2, 3, 5, 6, 7, 8, 9, 10, 11, 12] 3) (by decide) (by decide) hn (fun o ho => (hok o ho).alloc _)).mono fun e w' hp => ?_
  obtain ⟨e1, ps, vps, bv, b2, commits, nA, nC, hS⟩ := hp
  exact ⟨e1, below_alloc hS.inv.below⟩
 clear hsc hok
 go_enter Tryz.func5, Tryz.ntmps5
 go_wp2_with (go_at_call 8; refine HPL.out.mono ?_; rintro e w1 ⟨rfl, hb⟩)
 go_ret
 exact ⟨rfl, hb.out⟩
end Go.Proofs.YtpfcacedpkaihaaGreat
