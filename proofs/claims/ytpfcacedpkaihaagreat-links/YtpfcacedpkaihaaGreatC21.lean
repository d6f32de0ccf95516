import Derived.Deep.DeepCutAuto
import Derived.Deep.RegionHeld3
import Derived.Deep.DrawnRows
import Derived.Test.YtpfcacedpkaihaaGreatC11
namespace Go.Proofs.YtpfcacedpkaihaaGreat
open Go.RowKit
set_option maxRecDepth 100000
set_option maxHeartbeats 16000000
theorem Tryz.infoCommit :(Tryz.prog.info? 215).map (fun i=>(i.zero,i.size,i.bytes))=some (some (.agg #[.int .i32 0,.int .i32 0,.int .i32 0,.int .i32 0,.int .i32 0,.int .i32 0,.int .i32 0,.int .i32 0,.int .u8 0,.int .i64 0]),10,48):=by kernel_rfl
theorem Zd7 (p:Zj)(ws:List (Int×Int)):(Yd p ws).tick=p.tick:=by
 induction ws generalizing p with
 |nil=>rfl
 |cons x r ih=>exact ih (Vx p x)
def Ze.pushP (D:Ze)(q:Zj)(v:Value):Ze:={D with past:=D.past++[q],vc:=v}
theorem Dev.pushP {w w':World}{b:Nat}{D:Ze}(h:Dev w b D)(q:Zj)(v:Value)(hA:Zc w w' 215 10 D.vc v D.past.length 1 (D.past.flatMap Zx) (Zx q)):
 Dev (w'.setCell ⟨b,1,none⟩ v) b (D.pushP q v)∧Za (D.fp b) w (w'.setCell ⟨b,1,none⟩ v)∧(∀k,(D.pushP q v).fp b k→D.fp b k∨w.heap.size≤k):=by
 refine h.put 0 1 ⟨215,10,D.vc,D.past.length,D.past.flatMap Zx⟩ ⟨215,10,v,(D.past++[q]).length,(D.past++[q]).flatMap Zx⟩ rfl hA.kept ?_ (fun x hx=>hA.own.imp (fun e=>by show D.vc.ownBlock=some x;rw[←e];exact hx) (fun e=>e x hx)) rfl (by dsimp only;decide) rfl;show Row _ _ 10 v (D.past++[q]).length ((D.past++[q]).flatMap Zx);rw[List.length_append,List.flatMap_append];simpa using hA.row
theorem ZiC {W w':World}{b:Nat}{D:Ze}{v v':Value}{news xs:List Value}{n:Nat}{o:Obj}(h:Dev W b D)(hv:D.vc=v)(hA:Zc ((W.alloc o).drew) w' 215 10 v v' n 1 xs news):
 w'.cell? ⟨b,1,none⟩=some v∧w'.frozen? ⟨b,1,none⟩=false∧Zc W w' 215 10 v v' n 1 xs news:=by
 have hk:Za (fun x=>v.ownBlock=some x) W w':=(((Za.alloc W o (fun _=>False)).drew).trans hA.kept (fun _=>False.elim) (fun _ _=>id));have blk1:=h.blk.kept hk fun e=>h.past.ne_block h.blk (by decide) (by rw[hv,e]);refine⟨by rw[blk1.cell 1,←hv];rfl,blk1.free 1,hA.row,hk,?_⟩;rcases hA.own with e|e
 · exact .inl e
 · refine .inr fun x hx=> ?_;have h1:=e x hx;have h2:W.heap.size+1≤x:=by simpa using h1
   omega
theorem ZdF (q:Zj):∀u∈Zx q,u.oneCell'=true:=by
 intro u hu;simp[Zx]at hu;rcases hu with rfl|rfl|rfl|rfl|rfl|rfl|rfl|rfl|rfl|rfl<;>rfl
theorem ZhQ (w:World)(q:Zj)(t:TypeId):∀j u,(Zx q)[j]?=some u→(w.alloc (.cells #[.int .i32 (q.st 0),.int .i32 (q.st 1),.int .i32 (q.st 2),.int .i32 (q.st 3),.int .i32 (q.st 4),.int .i32 (q.st 5),.int .i32 (q.st 6),.int .i32 (q.st 7),.int .u8 q.keys,.int .i64 q.tick] t)).cell? ((⟨w.heap.size,0,none⟩:Addr).add j)=some u:=by
 intro j u hj;have e:(⟨w.heap.size,0,none⟩:Addr).add j=⟨w.heap.size,j,none⟩:=by cases j<;>simp[Addr.add]
 rw[e,World.cell?_alloc_at _ _ _ _ rfl];simpa[Zx]using hj
theorem ZdB (w:World)(b:Nat)(ao:Option Addr)(n cap:Nat)(hn:8<n)(hm:n≤maxLen):
 Calls Tryz.prog 74 #[.pointer (some ⟨b,0,none⟩),.slice ao n cap] w fun e w'=>e=.returned (.tuple #[.int .u64 0,.int .i64 3])∧w=w':=by
 unfold maxLen at hm;go_enter Tryz.func74,Tryz.ntmps74;go_wp2;go_ret2;exact⟨rfl,rfl⟩
def Ze.nextP (D:Ze)(ws:List (Int×Int)):Zj:=Yd ⟨VU D.past D.past.length,0,D.clock⟩ ws
def Ze9 (w:World)(b:Nat)(D:Ze)(ws:List (Int×Int))(e:Ending)(w':World):Prop:=
 (ws.all Yl=false∧e=.returned (.tuple #[.int .u64 0,.int .i64 5])∧Za (fun _=>False) w w')∨
 (ws.all Yl=true∧700≤D.past.length∧e=.returned (.tuple #[.int .u64 0,.int .i64 6])∧Za (fun _=>False) w w')∨
 (ws.all Yl=true∧D.past.length<700∧e=.returned (.tuple #[.int .u64 ((D.past.length+1:Nat):Int),.int .i64 0])∧∃v,Dev w' b (D.pushP (D.nextP ws) v)∧Za (D.fp b) w w'∧(∀k,(D.pushP (D.nextP ws) v).fp b k→D.fp b k∨w.heap.size≤k))
theorem Zcn (w:World)(b:Nat)(D:Ze)(ao:Option Addr)(n cap:Nat)(ws:List (Int×Int))(h:Dev w b D)(hf:D.Fit)(hw:Wr w ao n ws)(hn:n≤8):
 Calls Tryz.prog 74 #[.pointer (some ⟨b,0,none⟩),.slice ao n cap] w fun e w'=>Ze9 w b D ws e w':=by
 have hm:=hf.pmax;obtain⟨q,hq⟩:∃q,q=D.nextP ws:=⟨_,rfl⟩;have hqt:q.tick=D.clock:=by rw[hq];exact Zd7 _ ws
 have HQ:=hid hq;obtain⟨av,cv,hv,_⟩:=h.past.form;have HV:=hid hv;have HD:=hid h;have HNE:Hid (Calls Tryz.prog 80 #[.pointer (some ⟨b,0,none⟩)] w fun e w'=>e=.returned (.int .u64 (D.past.length:Int))∧w=w'):=Zah w b D h hf;have HAT:Hid (Calls Tryz.prog 128 #[.pointer (some ⟨b,0,none⟩),.int .u64 D.past.length] w fun e w'=>e=.returned (.agg (stC (VU D.past D.past.length)))∧Za (fun _=>False) w w'):=dat w b D D.past.length h hf (Nat.le_refl _);have HWR:Hid (∀w1,Za (fun _=>False) w w1→Calls Tryz.prog 127 #[.agg (stC (VU D.past D.past.length)),.slice ao n cap] w1 fun e w'=>ZbE w1 ⟨VU D.past D.past.length,0,D.clock⟩ ws e w'):=
  fun w1 hk=>Zjq w1 ⟨VU D.past D.past.length,0,D.clock⟩ rfl ao n cap ws (hw.kept hk fun _ _=>id) hn
 cases hk:ws.all Yl with
 |false=>
  have HK:=hid hk;have HW2:Hid (∀w1,Za (fun _=>False) w w1→Calls Tryz.prog 127 #[.agg (stC (VU D.past D.past.length)),.slice ao n cap] w1 fun e w'=>e=.returned (.tuple #[.agg #[.int .i32 0,.int .i32 0,.int .i32 0,.int .i32 0,.int .i32 0,.int .i32 0,.int .i32 0,.int .i32 0],.int .u8 0,.bool false])∧Za (fun _=>False) w w'):=
   fun w1 hk1=>(HWR.out w1 hk1).mono fun e w' hp=>by
    obtain⟨k2,⟨a,_⟩|⟨_,e2⟩⟩:=hp
    · rw[hk]at a;cases a
    · exact⟨e2,hk1.trans k2 (fun _=>id) (fun _ _=>id)⟩
  clear HWR hk h hf hw hv hq hqt;go_enter Tryz.func74,Tryz.ntmps74
  go_wp2_with first
   |(go_at_call 80;refine HNE.out.mono ?_;rintro e w' ⟨rfl,rfl⟩)
   |(go_at_call 128;refine HAT.out.mono ?_;rintro e w1 ⟨rfl,hk1⟩)
   |(go_at_call 127;refine(HW2.out _ hk1).mono ?_;rintro e w2 ⟨rfl,hk2⟩)
  go_ret2;exact .inl ⟨HK.out,rfl,hk2.allocNew _⟩
 |true=>
  have HK:=hid hk;have HW2:Hid (∀w1,Za (fun _=>False) w w1→Calls Tryz.prog 127 #[.agg (stC (VU D.past D.past.length)),.slice ao n cap] w1 fun e w'=>e=.returned (.tuple #[.agg #[.int .i32 (q.st 0),.int .i32 (q.st 1),.int .i32 (q.st 2),.int .i32 (q.st 3),.int .i32 (q.st 4),.int .i32 (q.st 5),.int .i32 (q.st 6),.int .i32 (q.st 7)],.int .u8 q.keys,.bool true])∧Za (fun _=>False) w w'):=
   fun w1 hk1=>(HWR.out w1 hk1).mono fun e w' hp=>by
    obtain⟨k2,⟨_,e2⟩|⟨a,_⟩⟩:=hp
    · exact⟨by rw[e2,HQ.out];rfl,hk1.trans k2 (fun _=>id) (fun _ _=>id)⟩
    · rw[hk]at a;cases a
  by_cases h7:700≤D.past.length
  · clear HWR hk h hf hw hv hq hqt;go_enter Tryz.func74,Tryz.ntmps74
    go_wp2_with first
     |(go_at_call 80;refine HNE.out.mono ?_;rintro e w' ⟨rfl,rfl⟩)
     |(go_at_call 128;refine HAT.out.mono ?_;rintro e w1 ⟨rfl,hk1⟩)
     |(go_at_call 127;refine(HW2.out _ hk1).mono ?_;rintro e w2 ⟨rfl,hk2⟩)
    go_ret2;exact .inr (.inl ⟨HK.out,h7,rfl,hk2.allocNew _⟩)
  · have c0:=h.c0;rw[←hqt]at c0;have c1:=h.c1;rw[hv]at c1;have HC:Hid (w.cell? ⟨b,0,none⟩=some (.int .i64 q.tick)∧w.cell? ⟨b,1,none⟩=some (.slice av D.past.length cv)):=⟨c0,c1⟩;clear HWR hk h hf hw hv hq hqt c0 c1;go_enter Tryz.func74,Tryz.ntmps74
    go_wp2_with first
     |(go_at_call 80;refine HNE.out.mono ?_;rintro e w' ⟨rfl,rfl⟩)
     |(go_at_call 128;refine HAT.out.mono ?_;rintro e w1 ⟨rfl,hk1⟩)
     |(go_at_call 127;refine(HW2.out _ hk1).mono ?_;rintro e w2 ⟨rfl,hk2⟩)
    have hS:∀f u,(stC q.st)[f]?=some u→(w2.alloc (.cells (stC q.st) 141)).cell? ⟨w2.heap.size,f,none⟩=some u:=fun f u hu=>by rw[(Blk.new w2 _ _).cell f];exact hu
    have hKw:Za (fun _=>False) w (w2.alloc (.cells (stC q.st) 141)):=hk2.allocNew _;have c0:=hKw.keep id HC.out.1;have c1:=hKw.keep id HC.out.2;have hst:stC q.st=#[.int .i32 (q.st 0),.int .i32 (q.st 1),.int .i32 (q.st 2),.int .i32 (q.st 3),.int .i32 (q.st 4),.int .i32 (q.st 5),.int .i32 (q.st 6),.int .i32 (q.st 7)]:=rfl;rw[←hst];generalize hW:w2.alloc (.cells (stC q.st) 141)=wr at hS hKw c0 c1⊢;have hsz:w2.heap.size<wr.heap.size:=by rw[←hW];simp
    have t0:wr.cell? ⟨w2.heap.size,0,none⟩=some (.int .i32 (q.st 0)):=hS 0 _ rfl;have t1:wr.cell? ⟨w2.heap.size,1,none⟩=some (.int .i32 (q.st 1)):=hS 1 _ rfl;have t2:wr.cell? ⟨w2.heap.size,2,none⟩=some (.int .i32 (q.st 2)):=hS 2 _ rfl;have t3:wr.cell? ⟨w2.heap.size,3,none⟩=some (.int .i32 (q.st 3)):=hS 3 _ rfl;have t4:wr.cell? ⟨w2.heap.size,4,none⟩=some (.int .i32 (q.st 4)):=hS 4 _ rfl;have t5:wr.cell? ⟨w2.heap.size,5,none⟩=some (.int .i32 (q.st 5)):=hS 5 _ rfl;have t6:wr.cell? ⟨w2.heap.size,6,none⟩=some (.int .i32 (q.st 6)):=hS 6 _ rfl;have t7:wr.cell? ⟨w2.heap.size,7,none⟩=some (.int .i32 (q.st 7)):=hS 7 _ rfl;have hDr:Dev wr b D:=HD.out.kept hKw (fun _ _=>id);have HDR:=hid hDr;have HKW:=hid hKw;have hbr:b<wr.heap.size:=hDr.blk.lt;clear hS hKw hDr hW hst;obtain⟨i0,hi,hz0,hz1,hz2⟩:=info_parts Tryz.infoCommit;have HI:Hid (Tryz.prog.info? 215=some i0∧i0.zero=some (.agg #[.int .i32 0,.int .i32 0,.int .i32 0,.int .i32 0,.int .i32 0,.int .i32 0,.int .i32 0,.int .i32 0,.int .u8 0,.int .i64 0])∧i0.size=10∧i0.bytes=48):=⟨hi,hz0,hz1,hz2⟩;clear hi hz0 hz1 hz2;have qb:∀o:Obj,(wr.alloc o).cell? ⟨b,1,none⟩=some (.slice av D.past.length cv):=fun o=>(World.cell?_alloc_past _ _ _ hbr).trans c1;have HROW:Hid (∀o:Obj,Row ((wr.alloc o).drew) 215 10 (.slice av D.past.length cv) D.past.length (D.past.flatMap Zx)):=fun o=>by rw[←HV.out];exact HDR.out.past.kept ((Za.alloc wr o (fun _=>False)).drew) (fun _ _=>id)
    have HAP:Hid (∀(o:Obj)(w':World)(v':Value)(news:List Value),Zc ((wr.alloc o).drew) w' 215 10 (.slice av D.past.length cv) v' D.past.length 1 (D.past.flatMap Zx) news→w'.cell? ⟨b,1,none⟩=some (.slice av D.past.length cv)∧w'.frozen? ⟨b,1,none⟩=false∧Zc wr w' 215 10 (.slice av D.past.length cv) v' D.past.length 1 (D.past.flatMap Zx) news):=fun o w' v' news hA=>ZiC HDR.out HV.out hA;have b1:D.past.length+1≤maxLen:=by unfold maxLen;omega
    have b2:(D.past.length+1)*48≤140737488355328:=by omega
    go_region_law (refine Zw rfl (.tmp 32) (.tmp 40) 117 rfl 215 i0 (.agg #[.int .i32 0,.int .i32 0,.int .i32 0,.int .i32 0,.int .i32 0,.int .i32 0,.int .i32 0,.int .i32 0,.int .u8 0,.int .i64 0]) 10 48 Tryz.underlying117 HI.out.1 HI.out.2.1 HI.out.2.2.1 HI.out.2.2.2 rfl (Nat.succ_pos 9) (.slice av D.past.length cv) D.past.length (D.past.flatMap Zx) rfl (HROW.out _) ⟨wr.heap.size,0,none⟩ 1 1 (Zx q) rfl rfl (fun j u hj=>ZhQ wr q _ j u hj) (ZdF q) b1 b2 ?_;intro v' w' hA;obtain⟨p1,p2,p4⟩:=HAP.out _ _ _ _ hA;clear hA;obtain⟨ao',cap',hv',_⟩:=p4.row.form;subst hv')
    all_goals
     have hz:=Dev.pushP HDR.out q _ (by rw[HV.out];exact p4);have HZ:Hid (∃v,Dev (w'.setCell ⟨b,1,none⟩ (.slice ao' (D.past.length+1) cap')) b (D.pushP q v)∧Za (D.fp b) w (w'.setCell ⟨b,1,none⟩ (.slice ao' (D.past.length+1) cap'))∧(∀k,(D.pushP q v).fp b k→D.fp b k∨w.heap.size≤k)):=
      ⟨_,hz.1,HKW.out.trans hz.2.1 (fun _=>False.elim) (fun _ _=>id),fun k hk=>(hz.2.2 k hk).imp id fun hh=>Nat.le_trans HKW.out.size hh⟩
     clear hz p4 p1 p2 qb;go_wp2;go_ret2;rw[HQ.out]at HZ;exact .inr (.inr ⟨HK.out,by omega,rfl,HZ.out⟩)
end Go.Proofs.YtpfcacedpkaihaaGreat
