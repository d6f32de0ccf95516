import Derived.Deep.RegionHeld3
import Derived.Test.YtpfcacedpkaihaaGreatC16
namespace Go.Proofs.YtpfcacedpkaihaaGreat
open Go.RowKit
set_option maxRecDepth 100000
set_option maxHeartbeats 16000000
def Z9 (s:Nat→Yb)(j:Nat)(x:Yb):Nat→Yb:=fun i=>if i=j then x else s i
def Ze.seatP (D:Ze)(j:Nat)(x:Yb)(n:Nat):Ze:={D with begun:=n,seats:=Z9 D.seats j x}
theorem Dev.own {w w':World}{b:Nat}{D D':Ze}(h:Dev w b D)(k:Za (fun k=>k=b) w w')(hrows:D'.rows=D.rows)(hb:Blk w' b 129 D'.cells):Dev w' b D':=
 ⟨hb,by rw[hrows];exact h.all.kept k (by rintro j ⟨r,hr,hj⟩ rfl;exact h.ne r hr hj)⟩
theorem Zgb (D:Ze)(j:Nat)(hj:j<6)(x:Yb)(n:Nat):
 (((((D.cells.setIfInBounds (3+j*4) (.bool x.reads)).setIfInBounds (3+j*4+1) (.int .i64 x.num)).setIfInBounds (3+j*4+2) (.int .u64 (x.lo:Int))).setIfInBounds (3+j*4+3) (.int .u64 (x.hi:Int))).setIfInBounds 2 (.int .i64 (n:Int)))=(D.seatP j x n).cells:=by
 rcases six hj with rfl|rfl|rfl|rfl|rfl|rfl<;>simp[Ze.cells,Ze.seatP,Z9]
theorem Dev.seat {w:World}{b:Nat}{D:Ze}(h:Dev w b D)(j:Nat)(hj:j<6):w.cell? ⟨b,3+j*4,none⟩=some (.bool (D.seats j).reads)∧w.cell? ⟨b,3+j*4+1,none⟩=some (.int .i64 (D.seats j).num)∧w.cell? ⟨b,3+j*4+2,none⟩=some (.int .u64 ((D.seats j).lo:Int))∧w.cell? ⟨b,3+j*4+3,none⟩=some (.int .u64 ((D.seats j).hi:Int)):=by
 rw[h.blk.cell,h.blk.cell,h.blk.cell,h.blk.cell];rcases six hj with rfl|rfl|rfl|rfl|rfl|rfl<;>exact⟨rfl,rfl,rfl,rfl⟩
theorem Dev.seatNew {w w1:World}{b:Nat}{D:Ze}(h:Dev w1 b D)(k:Za (fun _=>False) w w1)(j:Nat)(hj:j<6)(x:Yb)(n:Nat)(W:World)
 (hW:W.heap=(((((w1.setCell ⟨b,3+j*4,none⟩ (.bool x.reads)).setCell ⟨b,3+j*4+1,none⟩ (.int .i64 x.num)).setCell ⟨b,3+j*4+2,none⟩ (.int .u64 (x.lo:Int))).setCell ⟨b,3+j*4+3,none⟩ (.int .u64 (x.hi:Int))).setCell ⟨b,2,none⟩ (.int .i64 (n:Int))).heap)
 (h1:W.os=w1.os) (h2:W.tape=w1.tape) (h3:W.output=w1.output):
 Dev W b (D.seatP j x n)∧Za (D.fp b) w W:=by
 have kk:=((((Za.setCell w1 ⟨b,3+j*4,none⟩ (.bool x.reads)).trans (Za.setCell _ ⟨b,3+j*4+1,none⟩ (.int .i64 x.num)) (fun _=>id) (fun _ _=>id)).trans (Za.setCell _ ⟨b,3+j*4+2,none⟩ (.int .u64 (x.lo:Int))) (fun _=>id) (fun _ _=>id)).trans (Za.setCell _ ⟨b,3+j*4+3,none⟩ (.int .u64 (x.hi:Int))) (fun _=>id) (fun _ _=>id)).trans (Za.setCell _ ⟨b,2,none⟩ (.int .i64 (n:Int))) (H:=fun k=>k=b) (fun _=>id) (fun _ _=>id);have kW:Za (fun k=>k=b) w1 W:=⟨h1,h2,h3,by rw[hW];exact kk.size,fun i hi hn=>by rw[hW];exact kk.block i hi hn⟩;have bb:=((((h.blk.set (3+j*4) (.bool x.reads)).set (3+j*4+1) (.int .i64 x.num)).set (3+j*4+2) (.int .u64 (x.lo:Int))).set (3+j*4+3) (.int .u64 (x.hi:Int))).set 2 (.int .i64 (n:Int));rw[Zgb D j hj x n]at bb;refine⟨h.own kW rfl (bb.same (by rw[hW])),k.trans kW (fun _=>False.elim) (fun i _ he=>.inl he)⟩
def YN (w:World)(b:Nat)(D:Ze)(lo hi:Nat)(e:Ending)(w':World):Prop:=
 ((∀i,i<6→(D.seats i).reads=true)∧e=.returned (.tuple #[.int .i64 0,.int .i64 7])∧Za (fun _=>False) w w')∨
 (∃j,j<6∧(D.seats j).reads=false∧200≤D.begun∧e=.returned (.tuple #[.int .i64 0,.int .i64 6])∧Za (fun _=>False) w w')∨
 (∃j,j<6∧(D.seats j).reads=false∧D.begun<200∧e=.returned (.tuple #[.int .i64 (D.begun:Int),.int .i64 0])∧Dev w' b (D.seatP j ⟨true,D.begun,lo,hi⟩ (D.begun+1))∧Za (D.fp b) w w')
theorem ZjV (w:World)(b:Nat)(D:Ze)(lo hi:Nat)(h:Dev w b D)(hf:D.Fit):
 Calls Tryz.prog 83 #[.pointer (some ⟨b,2,none⟩),.agg #[.int .u64 (lo:Int),.int .u64 (hi:Int)]] w fun e w'=>YN w b D lo hi e w':=by
 have hbm:=hf.bmax;have HD:=hid h;have hbl:=h.blk.lt;have HD1:Hid (∀o,Dev (w.alloc o) b D):=fun o=>h.kept (Za.alloc w o (fun _=>False)) (fun _ _=>id);by_cases hall:∀i,i<6→(D.seats i).reads=true
 · have HALL:=hid hall;have HFR:Hid (∀o,Calls Tryz.prog 132 #[.pointer (some ⟨b,2,none⟩)] (w.alloc o) fun e w'=>e=.returned (.tuple #[.int .i64 0,.bool false])∧Za (fun _=>False) w w'):=
    fun o=>(dfree (w.alloc o) b D (HD1.out o)).mono fun e w' hp=>by
     obtain⟨k,⟨j,hj,hr,_⟩|⟨_,e2⟩⟩:=hp
     · rw[hall j hj]at hr;cases hr
     · exact⟨e2,(Za.alloc w o (fun _=>False)).trans k (fun _=>id) (fun _ _=>id)⟩
   clear h hf hall;go_enter Tryz.func83,Tryz.ntmps83
   go_wp2_with (go_at_call 132;refine(HFR.out _).mono ?_;rintro e w1 ⟨rfl,hk1⟩)
   go_ret2;exact .inl ⟨HALL.out,rfl,hk1⟩
 · have HFR:Hid (∀o,Calls Tryz.prog 132 #[.pointer (some ⟨b,2,none⟩)] (w.alloc o) fun e w'=>∃j,j<6∧Hid ((D.seats j).reads=false)∧e=.returned (.tuple #[.int .i64 (j:Int),.bool true])∧Za (fun _=>False) w w'∧w'.heap[w.heap.size]?=(w.alloc o).heap[w.heap.size]?):=
    fun o=>(dfree (w.alloc o) b D (HD1.out o)).mono fun e w' hp=>by
     obtain⟨k,⟨j,hj,hr,e2⟩|⟨ha,_⟩⟩:=hp
     · exact⟨j,hj,hr,e2,(Za.alloc w o (fun _=>False)).trans k (fun _=>id) (fun _ _=>id),k.block _ (by simp) id⟩
     · exact absurd ha hall
   by_cases h200:200≤D.begun
   · have HC:Hid (w.cell? ⟨b,2,none⟩=some (.int .i64 (D.begun:Int))):=h.c2;clear h hf hall;go_enter Tryz.func83,Tryz.ntmps83
     go_wp2_with (go_at_call 132;refine(HFR.out _).mono ?_;rintro e w1 ⟨j,hj,hr,rfl,hk1,_⟩;have c2:=hk1.keep id HC.out)
     go_ret2;exact .inr (.inl ⟨j,hj,hr.out,h200,rfl,hk1⟩)
   · have HC:Hid (w.cell? ⟨b,2,none⟩=some (.int .i64 (D.begun:Int))):=h.c2;clear h hf hall;go_enter Tryz.func83,Tryz.ntmps83
     go_wp2_with (go_at_call 132;refine(HFR.out _).mono ?_;rintro e w1 ⟨j,hj,hr,rfl,hk1,hb1⟩;have c2:=hk1.keep id HC.out)
     have hD1:Dev w1 b D:=HD.out.kept hk1 (fun _ _=>id);have hsz1:=hk1.size;obtain⟨s0,s1,s2,s3⟩:=hD1.seat j hj;have f0:=hD1.blk.free (3+j*4);have f1:=hD1.blk.free (3+j*4+1);have f2:=hD1.blk.free (3+j*4+2);have f3:=hD1.blk.free (3+j*4+3);have f4:=hD1.blk.free 2;have hbs:b≠w.heap.size:=by omega
     have p0:w1.cell? ⟨w.heap.size,0,none⟩=some (.int .u64 (lo:Int)):=(World.cell?_of_block (a:=⟨w.heap.size,0,none⟩) hb1).trans (by simp);have p1:w1.cell? ⟨w.heap.size,1,none⟩=some (.int .u64 (hi:Int)):=(World.cell?_of_block (a:=⟨w.heap.size,1,none⟩) hb1).trans (by simp);have HD1':Hid (Dev w1 b D):=hD1;clear hD1 hb1
     go_region
     all_goals
      go_wp2;go_ret2;refine .inr (.inr ⟨j,hj,hr.out,by omega,rfl,?_⟩);exact HD1'.out.seatNew hk1 j hj ⟨true,D.begun,lo,hi⟩ (D.begun+1) _ rfl rfl rfl rfl
theorem ZeQ (D:Ze)(j:Nat)(hj:j<6)(x:Yb):
 ((((D.cells.setIfInBounds (3+j*4) (.bool x.reads)).setIfInBounds (3+j*4+1) (.int .i64 x.num)).setIfInBounds (3+j*4+2) (.int .u64 (x.lo:Int))).setIfInBounds (3+j*4+3) (.int .u64 (x.hi:Int)))=(D.seatP j x D.begun).cells:=by
 rcases six hj with rfl|rfl|rfl|rfl|rfl|rfl<;>simp[Ze.cells,Ze.seatP,Z9]
theorem Dev.seatSet {w w1:World}{b:Nat}{D:Ze}(h:Dev w1 b D)(k:Za (fun _=>False) w w1)(j:Nat)(hj:j<6)(x:Yb)(W:World)
 (hW:W=((((w1.setCell ⟨b,3+j*4,none⟩ (.bool x.reads)).setCell ⟨b,3+j*4+1,none⟩ (.int .i64 x.num)).setCell ⟨b,3+j*4+2,none⟩ (.int .u64 (x.lo:Int))).setCell ⟨b,3+j*4+3,none⟩ (.int .u64 (x.hi:Int)))):
 Dev W b (D.seatP j x D.begun)∧Za (D.fp b) w W:=by
 have kW:=(((Za.setCell w1 ⟨b,3+j*4,none⟩ (.bool x.reads)).trans (Za.setCell _ ⟨b,3+j*4+1,none⟩ (.int .i64 x.num)) (fun _=>id) (fun _ _=>id)).trans (Za.setCell _ ⟨b,3+j*4+2,none⟩ (.int .u64 (x.lo:Int))) (fun _=>id) (fun _ _=>id)).trans (Za.setCell _ ⟨b,3+j*4+3,none⟩ (.int .u64 (x.hi:Int))) (H:=fun k=>k=b) (fun _=>id) (fun _ _=>id);have bb:=(((h.blk.set (3+j*4) (.bool x.reads)).set (3+j*4+1) (.int .i64 x.num)).set (3+j*4+2) (.int .u64 (x.lo:Int))).set (3+j*4+3) (.int .u64 (x.hi:Int));rw[ZeQ D j hj x]at bb;subst hW;refine⟨h.own kW rfl bb,k.trans kW (fun _=>False.elim) (fun i _ he=>.inl he)⟩
theorem Dev.besides {w W W':World}{b:Nat}{D D':Ze}{F:Nat→Prop}(h:Dev W b D'∧Za (D.fp b) w W)(k:Za F W W')(hF:∀i,F i→w.heap.size≤i)(hD:∀i,D'.fp b i→i<w.heap.size):Dev W' b D'∧Za (D.fp b) w W':=
 ⟨h.1.kept k fun i hi hf=>by have:=hF i hf;have:=hD i hi;omega,h.2.trans k (fun _=>id) (fun i hi hf=>by have:=hF i hf;omega)⟩
def XD (w:World)(b:Nat)(D:Ze)(m:Int)(e:Ending)(w':World):Prop:=
 ((∀i,i<6→(D.seats i).reads=true→(D.seats i).num≠m)∧e=.returned (.tuple #[.agg #[.int .u64 0,.int .u64 0],.int .i64 8])∧Za (fun _=>False) w w')∨
 (∃j,j<6∧(D.seats j).reads=true∧(D.seats j).num=m∧e=.returned (.tuple #[.agg #[.int .u64 ((D.seats j).lo:Int),.int .u64 ((D.seats j).hi:Int)],.int .i64 0])∧Dev w' b (D.seatP j ⟨false,0,0,0⟩ D.begun)∧Za (D.fp b) w w')
theorem dend0 (w:World)(b:Nat)(D:Ze)(m:Int)(h:Dev w b D):
 Calls Tryz.prog 85 #[.pointer (some ⟨b,2,none⟩),.int .i64 m] w fun e w'=>XD w b D m e w':=by
 have HD:=hid h;have hbl:=h.blk.lt;have HD1:Hid (∀o,Dev (w.alloc o) b D):=fun o=>h.kept (Za.alloc w o (fun _=>False)) (fun _ _=>id);by_cases hall:∀i,i<6→(D.seats i).reads=true→(D.seats i).num≠m
 · have HALL:=hid hall;have HFR:Hid (∀o,Calls Tryz.prog 133 #[.pointer (some ⟨b,2,none⟩),.int .i64 m] (w.alloc o) fun e w'=>e=.returned (.tuple #[.int .i64 0,.bool false])∧Za (fun _=>False) w w'∧w'.heap[w.heap.size]?=(w.alloc o).heap[w.heap.size]?):=
    fun o=>(Zej (w.alloc o) b D m (HD1.out o)).mono fun e w' hp=>by
     obtain⟨k,⟨j,hj,hr,hn,_⟩|⟨_,e2⟩⟩:=hp
     · exact absurd hn (hall j hj hr)
     · exact⟨e2,(Za.alloc w o (fun _=>False)).trans k (fun _=>id) (fun _ _=>id),k.block _ (by simp) id⟩
   clear h hall;go_enter Tryz.func85,Tryz.ntmps85
   go_wp2_with (go_at_call 133;refine(HFR.out _).mono ?_;rintro e w1 ⟨rfl,hk1,hb1⟩;have p0:w1.cell? ⟨w.heap.size,0,none⟩=some (.int .u64 0):=(World.cell?_of_block (a:=⟨w.heap.size,0,none⟩) hb1).trans (by simp);have p1:w1.cell? ⟨w.heap.size,1,none⟩=some (.int .u64 0):=(World.cell?_of_block (a:=⟨w.heap.size,1,none⟩) hb1).trans (by simp);have g0:w1.frozen? ⟨w.heap.size,0,none⟩=false:=(World.frozen?_of_block (a:=⟨w.heap.size,0,none⟩) hb1).trans (by simp);have g1:w1.frozen? ⟨w.heap.size,1,none⟩=false:=(World.frozen?_of_block (a:=⟨w.heap.size,1,none⟩) hb1).trans (by simp))
   refine bodyPost_ret (v:=.tuple #[.agg #[.int .u64 0,.int .u64 0],.int .i64 8]) (by simp[results,Tryz.results85,go_sem, *]) rfl (.inl ⟨HALL.out,rfl,?_⟩);exact(hk1.setNew _ 0 _ (Nat.le_refl _)).setNew _ 1 _ (Nat.le_refl _)
 · have HFR:Hid (∀o,Calls Tryz.prog 133 #[.pointer (some ⟨b,2,none⟩),.int .i64 m] (w.alloc o) fun e w'=>∃j,j<6∧Hid ((D.seats j).reads=true∧(D.seats j).num=m)∧e=.returned (.tuple #[.int .i64 (j:Int),.bool true])∧Za (fun _=>False) w w'∧w'.heap[w.heap.size]?=(w.alloc o).heap[w.heap.size]? ∧w.heap.size<w'.heap.size):=
    fun o=>(Zej (w.alloc o) b D m (HD1.out o)).mono fun e w' hp=>by
     obtain⟨k,⟨j,hj,hr,hn,e2⟩|⟨ha,_⟩⟩:=hp
     · exact⟨j,hj,⟨hr,hn⟩,e2,(Za.alloc w o (fun _=>False)).trans k (fun _=>id) (fun _ _=>id),k.block _ (by simp) id,by have:=k.size;simp at this;omega⟩
     · exact absurd ha hall
   have HC:Hid (w.cell? ⟨b,2,none⟩=some (.int .i64 (D.begun:Int))):=h.c2;clear h hall;go_enter Tryz.func85,Tryz.ntmps85
   go_wp2_with (go_at_call 133;refine(HFR.out _).mono ?_;rintro e w1 ⟨j,hj,hr,rfl,hk1,hb1,hsz1⟩;have p0:w1.cell? ⟨w.heap.size,0,none⟩=some (.int .u64 0):=(World.cell?_of_block (a:=⟨w.heap.size,0,none⟩) hb1).trans (by simp);have p1:w1.cell? ⟨w.heap.size,1,none⟩=some (.int .u64 0):=(World.cell?_of_block (a:=⟨w.heap.size,1,none⟩) hb1).trans (by simp);have g0:w1.frozen? ⟨w.heap.size,0,none⟩=false:=(World.frozen?_of_block (a:=⟨w.heap.size,0,none⟩) hb1).trans (by simp);have g1:w1.frozen? ⟨w.heap.size,1,none⟩=false:=(World.frozen?_of_block (a:=⟨w.heap.size,1,none⟩) hb1).trans (by simp);have hD1:Dev w1 b D:=HD.out.kept hk1 (fun _ _=>id);obtain⟨s0,s1,s2,s3⟩:=hD1.seat j hj;have f0:=hD1.blk.free (3+j*4);have f1:=hD1.blk.free (3+j*4+1);have f2:=hD1.blk.free (3+j*4+2);have f3:=hD1.blk.free (3+j*4+3);have HD1':Hid (Dev w1 b D):=hD1;clear hD1 hb1;have hbs:b≠w.heap.size:=Nat.ne_of_lt hbl;have hbw:b<w1.heap.size:=Nat.lt_trans hbl hsz1)
   refine bodyPost_ret (v:=.tuple #[.agg #[.int .u64 ((D.seats j).lo:Int),.int .u64 ((D.seats j).hi:Int)],.int .i64 0]) (by simp[results,Tryz.results85,go_sem, *]) rfl (.inr ⟨j,hj,hr.out.1,hr.out.2,rfl,?_⟩);have z:=HD1'.out.seatSet hk1 j hj ⟨false,0,0,0⟩ _ rfl;exact Dev.besides z (((Za.setCell _ ⟨w.heap.size,0,none⟩ (.int .u64 ((D.seats j).lo:Int))).trans (Za.setCell _ ⟨w.heap.size,1,none⟩ (.int .u64 ((D.seats j).hi:Int))) (H:=fun k=>k=w.heap.size) (fun _=>id) (fun _ _=>id)).allocNew _) (fun i hi=>Nat.le_of_eq hi.symm) (fun i hi=>HD.out.lt i hi)
end Go.Proofs.YtpfcacedpkaihaaGreat
