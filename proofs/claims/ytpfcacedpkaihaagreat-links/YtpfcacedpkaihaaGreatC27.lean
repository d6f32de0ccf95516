import Derived.Test.YtpfcacedpkaihaaGreatC24
import Derived.Test.YtpfcacedpkaihaaGreatC18
namespace Go.Proofs.YtpfcacedpkaihaaGreat
open Go.RowKit
set_option maxRecDepth 100000
set_option maxHeartbeats 16000000
theorem Dev.c28 {w:World}{b:Nat}{D:Ze}(h:Dev w b D):w.cell? ⟨b,28,none⟩=some D.vn:=h.blk.cell 28
def Zl (w:World)(b:Nat)(D:Ze)(k:Nat)(p:Zb)(w':World):Prop:=∃nd:Zn,nd.p=p∧Zv w b D w' (D.putN k nd)
def Zav (w:World)(b:Nat)(D:Ze)(k:Nat)(p:Zb)(v:Value)(w':World):Prop:=∃nd:Zn,nd.p=p∧nd.en=v∧Zv w b D w' (D.putN k nd)
theorem Zav.turns {w w':World}{b k:Nat}{D:Ze}{p:Zb}{v:Value}(h:Zav w b D k p v w'):Zl w b D k p w':=by
 obtain⟨nd,e,_,hb⟩:=h;exact⟨nd,e,hb⟩
theorem ZJ (D:Ze)(k:Nat)(a c:Zn):(D.putN k a).putN k c=D.putN k c:=by simp[Ze.putN]
theorem ZY {D:Ze}{k:Nat}{nd:Zn}(a:Zn)(h:D.nodes[k]?=some nd):(D.putN k a).nodes[k]?=some a:=List.getElem?_set_self (List.getElem?_eq_some_iff.mp h).1
theorem ZhY {D:Ze}{k:Nat}{nd:Zn}(h:D.nodes[k]?=some nd):D.putN k nd=D:=by
 have:D.nodes.set k nd=D.nodes:=XT h;simp[Ze.putN,this]
theorem Zl.of_kept {w w':World}{b k:Nat}{D:Ze}{nd:Zn}(h:Dev w b D)(hnd:D.nodes[k]?=some nd)(hk:Za (fun _=>False) w w'):Zl w b D k nd.p w':=⟨nd,rfl,by rw[ZhY hnd];exact Zv.of_kept h hk⟩
theorem Zl.from {w w1 w2:World}{b k:Nat}{D:Ze}{p:Zb}(hk:Za (fun _=>False) w w1)(h:Zl w1 b D k p w2):Zl w b D k p w2:=by
 obtain⟨nd,e,hb⟩:=h;exact⟨nd,e,hb.1,hk.trans hb.2.1 (fun _=>False.elim) (fun _ _=>id),fun x hx=>(hb.2.2 x hx).imp id fun hh=>Nat.le_trans hk.size hh⟩
theorem Zl.then {w w1 w2:World}{b k:Nat}{D:Ze}{p:Zb}(h:Zl w b D k p w1)(hk:Za (fun _=>False) w1 w2):Zl w b D k p w2:=by
 obtain⟨nd,e,hb⟩:=h;exact⟨nd,e,hb.1.kept hk (fun _ _=>id),hb.2.1.trans hk (fun _=>id) (fun _ _=>False.elim),hb.2.2⟩
theorem Zl.late {w W W1 W2:World}{b k r:Nat}{D:Ze}{p:Zb}(hW:Za (fun _=>False) w W)(h:Zl W b D k p W1)(hD:∀j,D.fp b j→j<w.heap.size)(hr1:w.heap.size≤r)(hr2:r<W.heap.size)(hk:Za (fun j=>j=r) W1 W2):Zl w b D k p W2:=by
 obtain⟨nd,e,hb⟩:=h;refine⟨nd,e,hb.1.kept hk (fun j hj he=> ?_),(hW.trans hb.2.1 (fun _=>False.elim) (fun _ _=>id)).trans hk (fun _=>id) (fun i hi he=>by omega),fun x hx=>(hb.2.2 x hx).imp id fun hh=>Nat.le_trans hW.size hh⟩;rcases hb.2.2 j hj with h1|h1
 · have:=hD j h1;omega
 · omega
theorem Zix (w:World)(g o:Nat)(x:Zh)(hz:Nat)(hx:x.Fit)(hc:w.cell? ⟨g,o+2,none⟩=some (.int .u64 (hz:Int))):
 Calls Tryz.prog 137 #[.pointer (some ⟨g,o,none⟩),.agg (Z8 x)] w fun e w'=>e=.returned (.agg #[.int .u64 (x.fr:Int),.int .u64 (lastE x hz:Int)])∧Za (fun _=>False) w w':=by
 obtain⟨L,hL⟩:∃L,L=lastE x hz:=⟨_,rfl⟩;rw[←hL];obtain⟨h1,h2,h3⟩:=hx;obtain⟨q,val,fr,till,op,kn⟩:=x;unfold Z8;dsimp only at*
 have hgl:=World.block_lt_of_cell? w _ hc;have hg0:g≠w.heap.size:=Nat.ne_of_lt hgl;have hg1:g≠w.heap.size+1:=by have:g<w.heap.size:=hgl;omega
 have kk:∀(a c:Obj),Za (fun _=>False) w ((w.alloc a).alloc c):=fun a c=>(Za.alloc w a (fun _=>False)).trans (Za.alloc _ c (fun _=>False)) (fun _=>id) (fun _ _=>id);cases op with
 |false=>
  have h4:=h1 rfl;have hLL:L=till-1:=by rw[hL];rfl
  clear hL;go_enter Tryz.func137,Tryz.ntmps137;go_wp2;refine bodyPost_ret (v:=.agg #[.int .u64 (fr:Int),.int .u64 (L:Int)]) ?_ rfl ⟨by rw[hLL],kk _ _⟩;simp[results,Tryz.results137,go_sem,hLL]
  go_num
 |true=>
  by_cases hlt:kn<hz
  · have hLL:L=hz:=by rw[hL];show max kn hz=hz;omega
    clear hL;have hd:decide ((kn:Int)<(hz:Int))=true:=by simpa using hlt
    go_enter Tryz.func137,Tryz.ntmps137;go_wp2
    go_region
    all_goals
     go_wp2
     go_region
     all_goals
      go_wp2;refine bodyPost_ret (v:=.agg #[.int .u64 (fr:Int),.int .u64 (L:Int)]) (by simp[results,Tryz.results137,go_sem,hLL]) rfl ⟨rfl,(kk _ _).drew.drew⟩
  · have hLL:L=kn:=by rw[hL];show max kn hz=kn;omega
    clear hL;have hd:decide ((kn:Int)<(hz:Int))=false:=by simpa using hlt
    go_enter Tryz.func137,Tryz.ntmps137;go_wp2
    go_region
    all_goals
     go_wp2;refine bodyPost_ret (v:=.agg #[.int .u64 (fr:Int),.int .u64 (L:Int)]) (by simp[results,Tryz.results137,go_sem,hLL]) rfl ⟨rfl,(kk _ _).drew⟩
theorem dahead (w:World)(x y:Zu):
 Calls Tryz.prog 168 #[.agg (heldC x).toArray,.agg (heldC y).toArray] w fun e w'=>e=.returned (.bool (Xx x y))∧Za (fun _=>False) w w':=by
 obtain⟨⟨q,val,fr,till,op,kn⟩,us⟩:=x;obtain⟨⟨q2,val2,fr2,till2,op2,kn2⟩,us2⟩:=y;unfold Go.Proofs.YtpfcacedpkaihaaGreat.heldC Xx;dsimp only;have kk:∀(a c:Obj),Za (fun _=>False) w ((w.alloc a).alloc c):=fun a c=>(Za.alloc w a (fun _=>False)).trans (Za.alloc _ c (fun _=>False)) (fun _=>id) (fun _ _=>id);cases op<;>cases op2<;>
 · go_enter Tryz.func168,Tryz.ntmps168;go_wp2;go_ret;exact⟨rfl,kk _ _⟩
theorem duse (w:World)(b k g ge j:Nat)(D:Ze)(nd:Zn)(x:Zu)(h:Dev w b D)(hnd:D.nodes[k]?=some nd)(ho:D.vn.ownBlock=some g)(he:nd.en.ownBlock=some ge)(hx:nd.p.ents[j]?=some x)(hu:nd.p.uses<9223372036854775808):
 Calls Tryz.prog 136 #[.pointer (some ⟨g,k*8,none⟩),.pointer (some ⟨ge,j*7,none⟩)] w fun e w'=>e=.returned (.tuple #[])∧Hid (Zav w b D k (nd.p.use j x) nd.en w'):=by
 have c5:w.cell? ⟨g,k*8+6,none⟩=some (.int .u64 (nd.p.uses:Int)):=h.nodeC hnd ho 6 (by omega) _ rfl;have f5:w.frozen? ⟨g,k*8+6,none⟩=false:=h.nodes.free ho _;have e6:w.cell? ⟨ge,j*7+6,none⟩=some (.int .u64 (x.used:Int)):=h.heldC hnd he hx 6 (by omega) _ rfl;have ef:=h.heldF hnd he (j*7+6);have hne:g≠ge:=fun e=>(h.ents nd (List.mem_of_getElem? hnd)).ne_row h.nodes (by decide) ge he (by rw[ho,e]);have hne2:=Ne.symm hne;have HP:Hid (Zav w b D k (nd.p.use j x) nd.en ((w.setCell ⟨g,k*8+6,none⟩ (.int .u64 ((nd.p.uses+1:Nat):Int))).setCell ⟨ge,j*7+6,none⟩ (.int .u64 ((nd.p.uses+1:Nat):Int)))):=by
  obtain⟨hj,hx'⟩:=List.getElem?_eq_some_iff.mp hx;have s1:=h.cellN hnd ho 6 (by omega) (.int .u64 ((nd.p.uses+1:Nat):Int)) (y:={nd with p:={nd.p with uses:=nd.p.uses+1}}) rfl rfl;have hnd1:=ZY {nd with p:={nd.p with uses:=nd.p.uses+1}} hnd;have r1:=(s1.1.ents _ (List.mem_of_getElem? hnd1)).set (g:=ge) he (j*7+6) (.int .u64 ((nd.p.uses+1:Nat):Int));rw[Zt Go.Proofs.YtpfcacedpkaihaaGreat.heldC 7 (fun _=>rfl) nd.p.ents j hj 6 (by omega) _ {x with used:=nd.p.uses+1} (by rw[hx'];rfl)]at r1;have s2:=s1.1.turnEnts hnd1 (nd.p.ents.set j {x with used:=nd.p.uses+1}) ((Za.setCell _ ⟨ge,j*7+6,none⟩ _).mono fun i hi=>by rw[hi];exact he) (by rw[List.length_set];exact r1);have s3:=s1.trans s2;rw[ZJ]at s3;exact⟨{nd with p:=nd.p.use j x},rfl,rfl,s3⟩
 clear h hnd ho he hx;go_enter Tryz.func136,Tryz.ntmps136;go_wp2
 go_end0
 refine⟨rfl,?_⟩;have:=HP.out;show Zav _ _ _ _ _ _ _;simpa using this
theorem Row.held {W:World}{v:Value}{ge n j f:Nat}{l:List Zu}{x y:Zu}{u:Value}(h:Row W 227 7 v n (l.flatMap Go.Proofs.YtpfcacedpkaihaaGreat.heldC))(hg:v.ownBlock=some ge)(hx:l[j]?=some x)(hf:f<7)(hy:Go.Proofs.YtpfcacedpkaihaaGreat.heldC y=(Go.Proofs.YtpfcacedpkaihaaGreat.heldC x).set f u):
 Row (W.setCell ⟨ge,j*7+f,none⟩ u) 227 7 v n ((l.set j y).flatMap Go.Proofs.YtpfcacedpkaihaaGreat.heldC):=by
 obtain⟨hj,hx'⟩:=List.getElem?_eq_some_iff.mp hx;have:=h.set hg (j*7+f) u;rw[Zt Go.Proofs.YtpfcacedpkaihaaGreat.heldC 7 (fun _=>rfl) l j hj f hf u y (by rw[hx'];exact hy)]at this;exact this
theorem dmerge (w:World)(b k ge j:Nat)(D:Ze)(nd:Zn)(x:Zu)(p:Zh)(h:Dev w b D)(hnd:D.nodes[k]?=some nd)(he:nd.en.ownBlock=some ge)(hx:nd.p.ents[j]?=some x):
 Calls Tryz.prog 144 #[.pointer (some ⟨ge,j*7,none⟩),.agg #[.string p.q,.int .i32 p.val,.int .u64 (p.fr:Int),.int .u64 (p.till:Int),.bool p.op,.int .u64 (p.kn:Int)]] w fun e w'=>e=.returned (.tuple #[])∧Hid (Zav w b D k (nd.p.merge j x p) nd.en w'):=by
 have hgl:ge<w.heap.size:=(h.ents nd (List.mem_of_getElem? hnd)).lt ge he;have hg0:ge≠w.heap.size:=Nat.ne_of_lt hgl;have hg1:=Ne.symm hg0;have hj:=(List.getElem?_eq_some_iff.mp hx).1;have HT:Hid (∀(W:World)(y:Zu),Za (fun i=>i=ge) w W→Row W 227 7 nd.en nd.p.ents.length ((nd.p.ents.set j y).flatMap Go.Proofs.YtpfcacedpkaihaaGreat.heldC)→y=⟨ZT x.e p,x.used⟩→Zav w b D k (nd.p.merge j x p) nd.en W):=fun W y hk hr hy=>by
  subst hy;exact⟨{nd with p:=nd.p.merge j x p},rfl,rfl,h.turnEnts hnd _ (hk.mono fun i hi=>by rw[hi];exact he) (by rw[List.length_set];exact hr)⟩
 have HR0:Hid (∀o,Row (w.alloc o) 227 7 nd.en nd.p.ents.length (nd.p.ents.flatMap Go.Proofs.YtpfcacedpkaihaaGreat.heldC)):=fun o=>(h.ents nd (List.mem_of_getElem? hnd)).kept (Za.alloc w o (fun _=>False)) (fun _ _=>id);have HRW:Hid (Row w 227 7 nd.en nd.p.ents.length (nd.p.ents.flatMap Go.Proofs.YtpfcacedpkaihaaGreat.heldC)):=h.ents nd (List.mem_of_getElem? hnd);have HK0:Hid (∀o,Za (fun i=>i=ge) w (w.alloc o)):=fun o=>Za.alloc w o _;have HX:Hid (nd.p.ents[j]?=some x∧nd.en.ownBlock=some ge∧j<nd.p.ents.length):=⟨hx,he,hj⟩;have e3:w.cell? ⟨ge,j*7+3,none⟩=some (.int .u64 (x.e.till:Int)):=h.heldC hnd he hx 3 (by omega) _ rfl;have e4:w.cell? ⟨ge,j*7+4,none⟩=some (.bool x.e.op):=h.heldC hnd he hx 4 (by omega) _ rfl;have e5:w.cell? ⟨ge,j*7+5,none⟩=some (.int .u64 (x.e.kn:Int)):=h.heldC hnd he hx 5 (by omega) _ rfl;have ef:∀f,w.frozen? ⟨ge,f,none⟩=false:=fun f=>h.heldF hnd he f;have st:∀{W:World}(f:Nat)(u:Value),Za (fun i=>i=ge) w W→Za (fun i=>i=ge) w (W.setCell ⟨ge,f,none⟩ u):=fun f u hk=>hk.trans (Za.setCell _ ⟨ge,f,none⟩ u) (fun _=>id) (fun _ _ hk=>hk);have HST:Hid (∀{W:World}(f:Nat)(u:Value),Za (fun i=>i=ge) w W→Za (fun i=>i=ge) w (W.setCell ⟨ge,f,none⟩ u)):=st;clear h hnd he hx st hj;obtain⟨⟨xq,xv,xf,xt,xo,xk⟩,us⟩:=x;obtain⟨pq,pv,pf,pt,po,pk⟩:=p;dsimp only at*
 by_cases hk:xk<pk
 · have hd:decide ((xk:Int)<(pk:Int))=true:=by simpa using hk
   have hmx:max xk pk=pk:=by omega
   have hcase:(xo=true∧po=false)∨¬(xo=true∧po=false):=Classical.em _;rcases hcase with⟨rfl,rfl⟩|hno
   · go_enter Tryz.func144,Tryz.ntmps144
     go_wp2_with fail
     go_quiet (fail)
     go_wp2
     go_end0
     refine⟨rfl,HT.out _ ⟨⟨xq,xv,xf,pt,false,pk⟩,us⟩ ?_ ?_ ?_⟩
     · exact HST.out _ _ (((HST.out _ _ (HST.out _ _ (Za.refl _ _))).allocNew _).drewN _)
     · have r1:=HRW.out.held (y:=⟨⟨xq,xv,xf,xt,false,xk⟩,us⟩) (u:=.bool false) HX.out.2.1 HX.out.1 (f:=4) (by omega) rfl;have r2:=r1.held (y:=⟨⟨xq,xv,xf,pt,false,xk⟩,us⟩) (u:=.int .u64 (pt:Int)) HX.out.2.1 (List.getElem?_set_self HX.out.2.2) (f:=3) (by omega) rfl;rw[List.set_set]at r2;have r4:∀(o:Obj)(n:Nat),Row ((((((w.setCell ⟨ge,j*7+4,none⟩ (.bool false)).setCell ⟨ge,j*7+3,none⟩ (.int .u64 (pt:Int))).alloc o).drewN n)).setCell ⟨ge,j*7+5,none⟩ (.int .u64 (pk:Int))) 227 7 nd.en nd.p.ents.length ((nd.p.ents.set j ⟨⟨xq,xv,xf,pt,false,pk⟩,us⟩).flatMap Go.Proofs.YtpfcacedpkaihaaGreat.heldC):=fun o n=>by
        have q1:=r2.kept (Za.alloc _ o (fun _=>False)) (fun _ _=>id);have q2:Row ((((w.setCell ⟨ge,j*7+4,none⟩ (.bool false)).setCell ⟨ge,j*7+3,none⟩ (.int .u64 (pt:Int))).alloc o).drewN n) 227 7 nd.en nd.p.ents.length ((nd.p.ents.set j ⟨⟨xq,xv,xf,pt,false,xk⟩,us⟩).flatMap Go.Proofs.YtpfcacedpkaihaaGreat.heldC):=q1.same (fun _ _=>rfl);have q3:=q2.held (x:=⟨⟨xq,xv,xf,pt,false,xk⟩,us⟩) (y:=⟨⟨xq,xv,xf,pt,false,pk⟩,us⟩) (u:=.int .u64 (pk:Int)) HX.out.2.1 (List.getElem?_set_self HX.out.2.2) (f:=5) (by omega) rfl;rw[List.set_set]at q3;exact q3
       exact r4 _ _
     · simp[ZT,hmx]
   · have hmm:ZT ⟨xq,xv,xf,xt,xo,xk⟩ ⟨pq,pv,pf,pt,po,pk⟩=⟨xq,xv,xf,xt,xo,pk⟩:=by
      cases xo<;>cases po<;>simp_all [ZT]
     have HM:=hid hmm;have hB:xo=false∨(xo=true∧po=true):=by cases xo<;>cases po<;>simp_all
     clear hmm hno;rcases hB with rfl|⟨rfl,rfl⟩<;>
     · go_enter Tryz.func144,Tryz.ntmps144
       go_wp2_with fail
       go_quiet (fail)
       go_wp2
       go_end0
       refine⟨rfl,HT.out _ _ ?_ ?_ (by rw[HM.out])⟩
       · exact HST.out _ _ ((HK0.out _).drewN _)
       · exact((HR0.out _).same (w':=World.drewN _ _) (fun _ _=>rfl)).held (u:=.int .u64 (pk:Int)) HX.out.2.1 HX.out.1 (f:=5) (by omega) rfl
 · have hd:decide ((xk:Int)<(pk:Int))=false:=by simpa using hk
   have hmx:max xk pk=xk:=by omega
   have hcase:(xo=true∧po=false)∨¬(xo=true∧po=false):=Classical.em _;rcases hcase with⟨rfl,rfl⟩|hno
   · go_enter Tryz.func144,Tryz.ntmps144
     go_wp2_with fail
     go_quiet (fail)
     go_wp2
     go_end0
     refine⟨rfl,HT.out _ ⟨⟨xq,xv,xf,pt,false,xk⟩,us⟩ ?_ ?_ ?_⟩
     · exact((HST.out _ _ (HST.out _ _ (Za.refl _ _))).allocNew _).drewN _
     · have r1:=HRW.out.held (y:=⟨⟨xq,xv,xf,xt,false,xk⟩,us⟩) (u:=.bool false) HX.out.2.1 HX.out.1 (f:=4) (by omega) rfl;have r2:=r1.held (y:=⟨⟨xq,xv,xf,pt,false,xk⟩,us⟩) (u:=.int .u64 (pt:Int)) HX.out.2.1 (List.getElem?_set_self HX.out.2.2) (f:=3) (by omega) rfl;rw[List.set_set]at r2;exact(r2.kept (Za.alloc _ _ (fun _=>False)) (fun _ _=>id)).same (fun _ _=>rfl)
     · simp[ZT,hmx]
   · have hmm:ZT ⟨xq,xv,xf,xt,xo,xk⟩ ⟨pq,pv,pf,pt,po,pk⟩=⟨xq,xv,xf,xt,xo,xk⟩:=by
      cases xo<;>cases po<;>simp_all [ZT]
     have HM:=hid hmm;have hB:xo=false∨(xo=true∧po=true):=by cases xo<;>cases po<;>simp_all
     clear hmm hno;rcases hB with rfl|⟨rfl,rfl⟩<;>
     · go_enter Tryz.func144,Tryz.ntmps144
       go_wp2_with fail
       go_quiet (fail)
       go_wp2
       go_end0
       refine⟨rfl,HT.out _ _ ?_ ?_ (by rw[HM.out])⟩
       · exact(HK0.out _).drewN _
       · rw[XT HX.out.1];exact(HR0.out _).same (fun _ _=>rfl)
theorem Dev.block_of {w:World}{b k j:Nat}{D:Ze}{nd:Zn}(h:Dev w b D)(hnd:D.nodes[k]?=some nd)(hj:j<nd.p.ents.length):∃ge cap,nd.en=.slice (some ⟨ge,0,none⟩) nd.p.ents.length cap∧nd.en.ownBlock=some ge:=by
 obtain⟨ge,cap,e1,e2,_⟩:=(h.ents nd (List.mem_of_getElem? hnd)).block (by omega);exact⟨ge,cap,e1,e2⟩
theorem ZC {w:World}{a:Addr}{v:Value}(h:w.cell? a=some v):w.drew.cell? a=some v:=h
theorem ZfD {W w:World}(h:Za (fun _=>False) W.drew w):Za (fun _=>False) W w:=((Za.refl (fun _=>False) W).drew).trans h (fun _=>id) (fun _ _=>id)
theorem Za.hold' {w w':World}(h:Za (fun _=>False) w w'){a:Addr}{l:List Value}{f:Nat}(hc:w.cell? a=l[f]?)(hf:f<l.length):w'.cell? a=l[f]? :=by
 rw[List.getElem?_eq_getElem hf]at hc⊢;exact h.hold hc
def Zdp (w:World)(nd:Zn)(p:Zh)(e:Ending)(w':World):Prop:=Za (fun _=>False) w w'∧
 (((∀(t:Nat)(y:Zu),nd.p.ents[t]?=some y→¬Z0 y.e p)∧e=.returned (.pointer none))∨
  (∃(j:Nat)(x:Zu)(ge:Nat),nd.p.ents[j]?=some x∧nd.en.ownBlock=some ge∧Z0 x.e p∧(∀(t:Nat)(y:Zu),t<j→nd.p.ents[t]?=some y→¬Z0 y.e p)∧e=.returned (.pointer (some ⟨ge,j*7,none⟩))))
theorem ZcW {l:List Zu}{p:Zh}{x:Zu}{j:Nat}(h:∀(t:Nat)(y:Zu),t<j→l[t]?=some y→¬Z0 y.e p)(hx:l[j]?=some x)(hn:¬Z0 x.e p):∀(t:Nat)(y:Zu),t<j+1→l[t]?=some y→¬Z0 y.e p:=by
 intro t y ht hy;by_cases e:t=j
 · subst e;rw[hx]at hy;injection hy with hy;subst hy;exact hn
 · exact h t y (by omega) hy
theorem dsame (w:World)(b k g:Nat)(D:Ze)(nd:Zn)(p:Zh)(h:Dev w b D)(hnd:D.nodes[k]?=some nd)(ho:D.vn.ownBlock=some g)(hn:nd.p.ents.length≤1000):
 Calls Tryz.prog 143 #[.pointer (some ⟨g,k*8,none⟩),.agg #[.string p.q,.int .i32 p.val,.int .u64 (p.fr:Int),.int .u64 (p.till:Int),.bool p.op,.int .u64 (p.kn:Int)]] w fun e w'=>Zdp w nd p e w':=by
 obtain⟨ae,ce,hve,_⟩:=(h.ents nd (List.mem_of_getElem? hnd)).form;have c4:w.cell? ⟨g,k*8+5,none⟩=some nd.en:=h.nodeC hnd ho 5 (by omega) _ rfl;rw[hve]at c4;have HE:Hid (∀j (hj:j<nd.p.ents.length),∃ge,ae=some ⟨ge,0,none⟩∧nd.en.ownBlock=some ge∧w.cell? ⟨ge,j*7,none⟩=some (.string nd.p.ents[j].e.q)∧w.cell? ⟨ge,j*7+2,none⟩=some (.int .u64 (nd.p.ents[j].e.fr:Int))):=fun j hj=>by
  obtain⟨ge,cap,e1,e2⟩:=h.block_of hnd hj;rw[hve]at e1;injection e1 with e1 e1b e1c;have hx:nd.p.ents[j]?=some nd.p.ents[j]:=List.getElem?_eq_getElem hj;exact⟨ge,e1,e2,h.heldC hnd e2 hx 0 (by omega) _ rfl,h.heldC hnd e2 hx 2 (by omega) _ rfl⟩
 have c4a:∀o:Obj,(w.alloc o).cell? ⟨g,k*8+5,none⟩=some (.slice ae nd.p.ents.length ce):=fun o=>Zg c4;clear h hnd ho hve;go_enter Tryz.func143,Tryz.ntmps143;go_wp2
 go_loopw [12] (fun jv wr=>∃j:Nat,j≤nd.p.ents.length∧jv=.int .i64 j∧Hid ((∀(t:Nat)(y:Zu),t<j→nd.p.ents[t]?=some y→¬Z0 y.e p)∧Za (fun _=>False) w wr∧Blk wr w.heap.size 55 (Z8 p))) (fun jv _=>nd.p.ents.length-(intOf jv).toNat)
 case atStart=>exact⟨0,Nat.zero_le _,rfl,fun t y ht=>absurd ht (Nat.not_lt_zero _),Za.alloc _ _ _,Blk.new _ _ _⟩
 case round=>
  obtain⟨j,hj,rfl,HL⟩:=hrel;have d4:=HL.out.2.1.hold c4;have y0:wr.cell? ⟨w.heap.size,0,none⟩=some (.string p.q):=HL.out.2.2.cell 0;have y2:wr.cell? ⟨w.heap.size,2,none⟩=some (.int .u64 (p.fr:Int)):=HL.out.2.2.cell 2;by_cases hlt:j<nd.p.ents.length
  · obtain⟨ge,hae,hown,z0,z2⟩:=HE.out j hlt;obtain⟨x,hx⟩:∃x,x=nd.p.ents[j]:=⟨_,rfl⟩;rw[←hx]at z0 z2;have HX:Hid (nd.p.ents[j]?=some x∧nd.en.ownBlock=some ge):=⟨by rw[hx];exact List.getElem?_eq_getElem hlt,hown⟩;have x0:=HL.out.2.1.hold z0;have x2:=HL.out.2.1.hold z2;have hj0:(0:Int)≤(j:Int):=by omega
    have hj1:(j:Int)<(nd.p.ents.length:Int):=by omega
    clear hx z0 z2 hown;subst hae;by_cases hq1:x.e.q=p.q
    · have hqb:(x.e.q.toList==p.q.toList)=true:=by rw[hq1];exact beq_self_eq_true _
      by_cases hfr:x.e.fr=p.fr
      · have HSM:Hid (Z0 x.e p):=⟨hq1,hfr⟩;have hfb:((x.e.fr:Int)==(p.fr:Int))=true:=by rw[hfr];exact beq_self_eq_true _
        clear hq1 hfr
        go_wp2_with fail
        go_quiet (fail)
        go_wp2;go_ret;exact⟨HL.out.2.1.drewN _,.inr ⟨j,x,ge,HX.out.1,HX.out.2,HSM.out,HL.out.1,rfl⟩⟩
      · have hfb:((x.e.fr:Int)==(p.fr:Int))=false:=beq_eq_false_iff_ne.mpr fun e=>hfr (by omega);have HNS:Hid (¬Z0 x.e p):=fun h=>hfr h.2;clear hq1 hfr
        go_wp2_with fail
        go_quiet (fail)
        go_wp2
        go_roundw
        case rel=>exact⟨j+1,by omega,by go_num,ZcW HL.out.1 HX.out.1 HNS.out,HL.out.2.1.drewN _,HL.out.2.2.same rfl⟩
        case measure=>simp[intOf];omega
    · have hqb:(x.e.q.toList==p.q.toList)=false:=beq_eq_false_iff_ne.mpr fun h=>hq1 (XU h);have HNS:Hid (¬Z0 x.e p):=fun h=>hq1 h.1;clear hq1
      go_wp2_with fail
      go_quiet (fail)
      go_wp2
      go_roundw
      case rel=>exact⟨j+1,by omega,by go_num,ZcW HL.out.1 HX.out.1 HNS.out,HL.out.2.1.drewN _,HL.out.2.2.same rfl⟩
      case measure=>simp[intOf];omega
  · have hjn:j=nd.p.ents.length:=by omega
    have HALL:Hid (∀(t:Nat)(y:Zu),nd.p.ents[t]?=some y→¬Z0 y.e p):=fun t y hy=>HL.out.1 t y (by have:=(List.getElem?_eq_some_iff.mp hy).1;omega) hy;subst hjn;go_wp2;go_ret;exact⟨HL.out.2.1,.inl ⟨HALL.out,rfl⟩⟩
theorem ZbM {w:World}{ge o:Nat}{x:Zu}(h:∀f,f<7→w.cell? ⟨ge,o+f,none⟩=(Go.Proofs.YtpfcacedpkaihaaGreat.heldC x)[f]?):w.cell? ⟨ge,o,none⟩=some (.string x.e.q)∧w.cell? ⟨ge,o+1,none⟩=some (.int .i32 x.e.val)∧w.cell? ⟨ge,o+2,none⟩=some (.int .u64 (x.e.fr:Int))∧w.cell? ⟨ge,o+3,none⟩=some (.int .u64 (x.e.till:Int))∧w.cell? ⟨ge,o+4,none⟩=some (.bool x.e.op)∧w.cell? ⟨ge,o+5,none⟩=some (.int .u64 (x.e.kn:Int))∧w.cell? ⟨ge,o+6,none⟩=some (.int .u64 (x.used:Int)):=
 ⟨h 0 (by omega),h 1 (by omega),h 2 (by omega),h 3 (by omega),h 4 (by omega),h 5 (by omega),h 6 (by omega)⟩
theorem dleast (w:World)(b k g:Nat)(D:Ze)(nd:Zn)(h:Dev w b D)(hnd:D.nodes[k]?=some nd)(ho:D.vn.ownBlock=some g)(hn:nd.p.ents.length≤1000)(h1:0<nd.p.ents.length):
 Calls Tryz.prog 162 #[.pointer (some ⟨g,k*8,none⟩)] w fun e w'=>e=.returned (.int .i64 (ZE nd.p.ents nd.p.ents.length:Int))∧Za (fun _=>False) w w':=by
 obtain⟨ge,ce,hve,hown⟩:=h.block_of hnd h1;have c4:w.cell? ⟨g,k*8+5,none⟩=some nd.en:=h.nodeC hnd ho 5 (by omega) _ rfl;rw[hve]at c4;have HE:Hid (∀j (hj:j<nd.p.ents.length),∀f,f<7→w.cell? ⟨ge,j*7+f,none⟩=(Go.Proofs.YtpfcacedpkaihaaGreat.heldC nd.p.ents[j])[f]?):=fun j hj f hf=>by
  have hx:nd.p.ents[j]?=some nd.p.ents[j]:=List.getElem?_eq_getElem hj;obtain⟨u,hu⟩:∃u,(Go.Proofs.YtpfcacedpkaihaaGreat.heldC nd.p.ents[j])[f]?=some u:=⟨_,List.getElem?_eq_getElem (show f<7 from hf)⟩;rw[hu];exact h.heldC hnd hown hx f hf u hu
 have HAH:Hid (∀(W:World)(x y:Zu),Calls Tryz.prog 168 #[.agg #[.string x.e.q,.int .i32 x.e.val,.int .u64 (x.e.fr:Int),.int .u64 (x.e.till:Int),.bool x.e.op,.int .u64 (x.e.kn:Int),.int .u64 (x.used:Int)],.agg #[.string y.e.q,.int .i32 y.e.val,.int .u64 (y.e.fr:Int),.int .u64 (y.e.till:Int),.bool y.e.op,.int .u64 (y.e.kn:Int),.int .u64 (y.used:Int)]] W fun e w'=>e=.returned (.bool (Xx x y))∧Za (fun _=>False) W w'):=fun W x y=>dahead W x y;obtain⟨A,hA⟩:∃A:Nat→Nat,∀i,A i=ZE nd.p.ents i:=⟨_,fun _=>rfl⟩;rw[←hA];have HA:=hid hA;clear h hnd ho hve hA hown;go_enter Tryz.func162,Tryz.ntmps162;go_wp2
 go_loopw [3,11] (fun bv jv wr=>∃j:Nat,j≤nd.p.ents.length∧jv=.int .i64 j∧bv=.int .i64 (A j:Int)∧Hid (Za (fun _=>False) w wr)) (fun _ jv _=>nd.p.ents.length-(intOf jv).toNat)
 case atStart=>exact⟨0,Nat.zero_le _,rfl,by rw[HA.out];rfl,Za.refl _ _⟩
 case round=>
  obtain⟨j,hj,rfl,rfl,HK⟩:=hrel;by_cases hlt:j<nd.p.ents.length
  · obtain⟨x,hx⟩:∃x,x=nd.p.ents[j]:=⟨_,rfl⟩;obtain⟨i,hi⟩:∃i,i=A j:=⟨_,rfl⟩;have hil:i<nd.p.ents.length:=by have:=VK nd.p.ents j;rw[←HA.out,←hi]at this;omega
    obtain⟨y,hy⟩:∃y,y=nd.p.ents[i]:=⟨_,rfl⟩;have HS:Hid (A (j+1)=if Xx x y then j else i):=by
     show _=_;rw[HA.out,ZE,List.getElem?_eq_getElem hlt,←HA.out j,←hi,List.getElem?_eq_getElem hil,←hx,←hy]
    obtain⟨x0,x1,x2,x3,x4,x5,x6⟩:=ZbM (w:=wr) (ge:=ge) (o:=j*7) (x:=x) fun f hf=>by rw[hx];exact HK.out.hold' (HE.out j hlt f hf) hf
    have HY:Hid (∀o,(wr.alloc o).cell? ⟨ge,i*7,none⟩=some (.string y.e.q)∧(wr.alloc o).cell? ⟨ge,i*7+1,none⟩=some (.int .i32 y.e.val)∧(wr.alloc o).cell? ⟨ge,i*7+2,none⟩=some (.int .u64 (y.e.fr:Int))∧(wr.alloc o).cell? ⟨ge,i*7+3,none⟩=some (.int .u64 (y.e.till:Int))∧(wr.alloc o).cell? ⟨ge,i*7+4,none⟩=some (.bool y.e.op)∧(wr.alloc o).cell? ⟨ge,i*7+5,none⟩=some (.int .u64 (y.e.kn:Int))∧(wr.alloc o).cell? ⟨ge,i*7+6,none⟩=some (.int .u64 (y.used:Int))):=fun o=>ZbM fun f hf=>by rw[hy];exact(HK.out.allocNew o).hold' (HE.out i hil f hf) hf
    have d4:=HK.out.hold c4;have hj0:(0:Int)≤(j:Int):=by omega
    have hj1:(j:Int)<(nd.p.ents.length:Int):=by omega
    have hi0:(0:Int)≤(i:Int):=by omega
    have hi1:(i:Int)<(nd.p.ents.length:Int):=by omega
    rw[←hi];obtain⟨ah,hah⟩:∃ah,ah=Xx x y:=⟨_,rfl⟩;rw[←hah]at HS;have HAH1:Hid (∀W,Calls Tryz.prog 168 #[.agg #[.string x.e.q,.int .i32 x.e.val,.int .u64 (x.e.fr:Int),.int .u64 (x.e.till:Int),.bool x.e.op,.int .u64 (x.e.kn:Int),.int .u64 (x.used:Int)],.agg #[.string y.e.q,.int .i32 y.e.val,.int .u64 (y.e.fr:Int),.int .u64 (y.e.till:Int),.bool y.e.op,.int .u64 (y.e.kn:Int),.int .u64 (y.used:Int)]] W fun e w'=>e=.returned (.bool ah)∧Za (fun _=>False) W w'):=fun W=>by rw[hah];exact HAH.out W x y
    clear hx hy hi hah
    go_wp2_with fail
    obtain⟨W,hW⟩:∃W,W=wr.alloc (.cells #[.string x.e.q,.int .i32 x.e.val,.int .u64 (x.e.fr:Int),.int .u64 (x.e.till:Int),.bool x.e.op,.int .u64 (x.e.kn:Int),.int .u64 (x.used:Int)] 227):=⟨_,rfl⟩;have HB:Hid (Za (fun _=>False) w W∧Blk W wr.heap.size 227 #[.string x.e.q,.int .i32 x.e.val,.int .u64 (x.e.fr:Int),.int .u64 (x.e.till:Int),.bool x.e.op,.int .u64 (x.e.kn:Int),.int .u64 (x.used:Int)]):=by rw[hW];exact⟨HK.out.allocNew _,Blk.new _ _ _⟩
    obtain⟨y0,y1,y2,y3,y4,y5,y6⟩:=HY.out (.cells #[.string x.e.q,.int .i32 x.e.val,.int .u64 (x.e.fr:Int),.int .u64 (x.e.till:Int),.bool x.e.op,.int .u64 (x.e.kn:Int),.int .u64 (x.used:Int)] 227);rw[←hW]at y0 y1 y2 y3 y4 y5 y6⊢;have z4:=HB.out.1.hold c4;have b0:W.cell? ⟨wr.heap.size,0,none⟩=some (.string x.e.q):=HB.out.2.cell 0;have b1:W.cell? ⟨wr.heap.size,1,none⟩=some (.int .i32 x.e.val):=HB.out.2.cell 1;have b2:W.cell? ⟨wr.heap.size,2,none⟩=some (.int .u64 (x.e.fr:Int)):=HB.out.2.cell 2;have b3:W.cell? ⟨wr.heap.size,3,none⟩=some (.int .u64 (x.e.till:Int)):=HB.out.2.cell 3;have b4:W.cell? ⟨wr.heap.size,4,none⟩=some (.bool x.e.op):=HB.out.2.cell 4;have b5:W.cell? ⟨wr.heap.size,5,none⟩=some (.int .u64 (x.e.kn:Int)):=HB.out.2.cell 5;have b6:W.cell? ⟨wr.heap.size,6,none⟩=some (.int .u64 (x.used:Int)):=HB.out.2.cell 6;clear hW x0 x1 x2 x3 x4 x5 x6 d4;have d0:=ZC z4;have d1:=ZC b0;have d2:=ZC b1;have d3:=ZC b2;have d4:=ZC b3;have d5:=ZC b4;have d6:=ZC b5;have d7:=ZC b6;have d8:=ZC y0;have d9:=ZC y1;have d10:=ZC y2;have d11:=ZC y3;have d12:=ZC y4;have d13:=ZC y5;have d14:=ZC y6;cases ah with
    |true=>
     go_region_held3 (fun w'=>w'.cell? ⟨g,k*8+5,none⟩=some (.slice (some ⟨ge,0,none⟩) nd.p.ents.length ce)∧w'.cell? ⟨wr.heap.size,0,none⟩=some (.string x.e.q)∧w'.cell? ⟨wr.heap.size,1,none⟩=some (.int .i32 x.e.val)∧w'.cell? ⟨wr.heap.size,2,none⟩=some (.int .u64 (x.e.fr:Int))∧w'.cell? ⟨wr.heap.size,3,none⟩=some (.int .u64 (x.e.till:Int))∧w'.cell? ⟨wr.heap.size,4,none⟩=some (.bool x.e.op)∧w'.cell? ⟨wr.heap.size,5,none⟩=some (.int .u64 (x.e.kn:Int))∧w'.cell? ⟨wr.heap.size,6,none⟩=some (.int .u64 (x.used:Int))∧w'.cell? ⟨ge,i*7,none⟩=some (.string y.e.q)∧w'.cell? ⟨ge,i*7+1,none⟩=some (.int .i32 y.e.val)∧w'.cell? ⟨ge,i*7+2,none⟩=some (.int .u64 (y.e.fr:Int))∧w'.cell? ⟨ge,i*7+3,none⟩=some (.int .u64 (y.e.till:Int))∧w'.cell? ⟨ge,i*7+4,none⟩=some (.bool y.e.op)∧w'.cell? ⟨ge,i*7+5,none⟩=some (.int .u64 (y.e.kn:Int))∧w'.cell? ⟨ge,i*7+6,none⟩=some (.int .u64 (y.used:Int))) (first|with_reducible exact⟨s0,s1,s2,s3,s4,s5,s6,s7,s8,s9,s10,s11,s12,s13,s14⟩|with_reducible exact⟨d0,d1,d2,d3,d4,d5,d6,d7,d8,d9,d10,d11,d12,d13,d14⟩|fail) ((go_at_call 168;refine(HAH1.out _).mono ?_;rintro e w4 ⟨rfl,hk4⟩;have HK4:Hid (Za (fun _=>False) w w4):=HB.out.1.trans (ZfD hk4) (fun _=>id) (fun _ _=>id);have s0:=hk4.hold d0;have s1:=hk4.hold d1;have s2:=hk4.hold d2;have s3:=hk4.hold d3;have s4:=hk4.hold d4;have s5:=hk4.hold d5;have s6:=hk4.hold d6;have s7:=hk4.hold d7;have s8:=hk4.hold d8;have s9:=hk4.hold d9;have s10:=hk4.hold d10;have s11:=hk4.hold d11;have s12:=hk4.hold d12;have s13:=hk4.hold d13;have s14:=hk4.hold d14))
     all_goals
      go_wp2
      go_roundw
      case rel=>exact⟨j+1,by omega,by go_num,by rw[HS.out];rfl,HK4.out⟩
      case measure=>simp[intOf];omega
    |false=>
     go_region_held3 (fun w'=>w'.cell? ⟨g,k*8+5,none⟩=some (.slice (some ⟨ge,0,none⟩) nd.p.ents.length ce)∧w'.cell? ⟨wr.heap.size,0,none⟩=some (.string x.e.q)∧w'.cell? ⟨wr.heap.size,1,none⟩=some (.int .i32 x.e.val)∧w'.cell? ⟨wr.heap.size,2,none⟩=some (.int .u64 (x.e.fr:Int))∧w'.cell? ⟨wr.heap.size,3,none⟩=some (.int .u64 (x.e.till:Int))∧w'.cell? ⟨wr.heap.size,4,none⟩=some (.bool x.e.op)∧w'.cell? ⟨wr.heap.size,5,none⟩=some (.int .u64 (x.e.kn:Int))∧w'.cell? ⟨wr.heap.size,6,none⟩=some (.int .u64 (x.used:Int))∧w'.cell? ⟨ge,i*7,none⟩=some (.string y.e.q)∧w'.cell? ⟨ge,i*7+1,none⟩=some (.int .i32 y.e.val)∧w'.cell? ⟨ge,i*7+2,none⟩=some (.int .u64 (y.e.fr:Int))∧w'.cell? ⟨ge,i*7+3,none⟩=some (.int .u64 (y.e.till:Int))∧w'.cell? ⟨ge,i*7+4,none⟩=some (.bool y.e.op)∧w'.cell? ⟨ge,i*7+5,none⟩=some (.int .u64 (y.e.kn:Int))∧w'.cell? ⟨ge,i*7+6,none⟩=some (.int .u64 (y.used:Int))) (first|with_reducible exact⟨s0,s1,s2,s3,s4,s5,s6,s7,s8,s9,s10,s11,s12,s13,s14⟩|with_reducible exact⟨d0,d1,d2,d3,d4,d5,d6,d7,d8,d9,d10,d11,d12,d13,d14⟩|fail) ((go_at_call 168;refine(HAH1.out _).mono ?_;rintro e w4 ⟨rfl,hk4⟩;have HK4:Hid (Za (fun _=>False) w w4):=HB.out.1.trans (ZfD hk4) (fun _=>id) (fun _ _=>id);have s0:=hk4.hold d0;have s1:=hk4.hold d1;have s2:=hk4.hold d2;have s3:=hk4.hold d3;have s4:=hk4.hold d4;have s5:=hk4.hold d5;have s6:=hk4.hold d6;have s7:=hk4.hold d7;have s8:=hk4.hold d8;have s9:=hk4.hold d9;have s10:=hk4.hold d10;have s11:=hk4.hold d11;have s12:=hk4.hold d12;have s13:=hk4.hold d13;have s14:=hk4.hold d14))
     all_goals
      go_wp2
      go_roundw
      case rel=>exact⟨j+1,by omega,by go_num,by rw[HS.out];rfl,HK4.out⟩
      case measure=>simp[intOf];omega
  · have hjn:j=nd.p.ents.length:=by omega
    subst hjn;go_wp2;go_ret;exact⟨rfl,HK.out⟩
theorem Row.pairs {w:World}{T:TypeId}{v:Value}{l:List (Nat×Int)}(h:Row w T 2 v l.length (l.flatMap Zp)):∃ao cap,v=.slice ao l.length cap∧∀j (hj:j<l.length),∃gw,ao=some ⟨gw,0,none⟩∧gw<w.heap.size∧w.cell? ⟨gw,j*2,none⟩=some (.int .u64 (l[j].1:Int))∧w.cell? ⟨gw,j*2+1,none⟩=some (.int .u8 l[j].2):=by
 obtain⟨ao,cap,hv,_⟩:=h.form;refine⟨ao,cap,hv,fun j hj=> ?_⟩;obtain⟨gw,cap',hv',ho,hl⟩:=h.block (by omega);rw[hv]at hv';injection hv' with e1 e2 e3;have hc:∀f,f<2→∀u,(Zp l[j])[f]?=some u→w.cell? ⟨gw,j*2+f,none⟩=some u:=fun f hf u hu=>h.cell ho _ u (by rw[ZO Zp 2 (fun _=>rfl) l j hj f hf];exact hu);exact⟨gw,e1,hl,hc 0 (by omega) _ rfl,hc 1 (by omega) _ rfl⟩
theorem dup (w:World)(g o:Nat)(u:Bool)(hc:w.cell? ⟨g,o,none⟩=some (.bool u)):
 Calls Tryz.prog 118 #[.pointer (some ⟨g,o,none⟩)] w fun e w'=>e=.returned (.bool u)∧w=w':=by
 go_enter Tryz.func118,Tryz.ntmps118;go_wp2;go_ret;exact⟨rfl,rfl⟩
theorem ZiV (w:World)(g o:Nat)(z:Nat)(hc:w.cell? ⟨g,o+2,none⟩=some (.int .u64 (z:Int))):
 Calls Tryz.prog 120 #[.pointer (some ⟨g,o,none⟩)] w fun e w'=>e=.returned (.int .u64 (z:Int))∧w=w':=by
 go_enter Tryz.func120,Tryz.ntmps120;go_wp2;go_ret;exact⟨rfl,rfl⟩
theorem dlags (w:World)(g o:Nat)(p:Zb)(t:Nat)(c0:w.cell? ⟨g,o,none⟩=some (.bool p.up))(c2:w.cell? ⟨g,o+2,none⟩=some (.int .u64 (p.horizon:Int)))(hz:p.horizon≤1000000):
 Calls Tryz.prog 130 #[.pointer (some ⟨g,o,none⟩),.int .u64 t] w fun e w'=>e=.returned (.bool (p.lags t))∧w=w':=by
 have HL:Hid (∀u z,p.up=u→p.horizon=z→p.lags t=(u&&decide ((z:Int)+40<(t:Int)))):=fun u z hu hz=>by
  unfold Zb.lags;rw[hu,hz];congr 1;by_cases h:z+40<t
  · rw[decide_eq_true h,decide_eq_true (by omega)]
  · rw[decide_eq_false h,decide_eq_false (by omega)]
 obtain⟨u,hu⟩:∃u,p.up=u:=⟨_,rfl⟩;obtain⟨z,hz'⟩:∃z,p.horizon=z:=⟨_,rfl⟩;have HE:Hid (p.lags t=(u&&decide ((z:Int)+40<(t:Int)))):=HL.out u z hu hz';rw[hu]at c0;rw[hz']at c2 hz;clear HL hu hz';cases u with
 |false=>
  go_enter Tryz.func130,Tryz.ntmps130;go_wp2;go_ret;exact⟨Z6 (by rw[HE.out];rfl),rfl⟩
 |true=>
  go_enter Tryz.func130,Tryz.ntmps130;go_wp2;go_ret;exact⟨Z6 (by rw[HE.out];rfl),rfl⟩
def Zn.bare (nd:Zn)(u:Bool)(hz:Nat):Zn:=⟨⟨u,nd.p.room,hz,[],[],[],0,nd.p.flight⟩,ZH,ZH,ZH,nd.fl⟩
def set7 (w:World)(g o:Nat)(u:Bool)(r:Int)(hz:Nat):World:=
 (((((((w.setCell ⟨g,o,none⟩ (.bool u)).setCell ⟨g,o+1,none⟩ (.int .i64 r)).setCell ⟨g,o+2,none⟩ (.int .u64 (hz:Int))).setCell ⟨g,o+3,none⟩ (.slice none 0 0)).setCell ⟨g,o+4,none⟩ (.slice none 0 0)).setCell ⟨g,o+5,none⟩ (.slice none 0 0)).setCell ⟨g,o+6,none⟩ (.int .u64 0))
theorem XN {x:Nat}{P:Prop}(h:Value.ownBlock (.slice none 0 0)=some x):P:=by simp[Value.ownBlock]at h
theorem Dev.reset {w:World}{b k g:Nat}{D:Ze}{nd:Zn}(h:Dev w b D)(hnd:D.nodes[k]?=some nd)(ho:D.vn.ownBlock=some g)(u:Bool)(hz:Nat):Zv w b D (set7 w g (k*8) u nd.p.room hz) (D.putN k (nd.bare u hz)):=by
 have s1:=h.cellN hnd ho 0 (by omega) (.bool u) (y:={nd with p:={nd.p with up:=u}}) rfl rfl;have s2:=s1.1.cellN (ZY _ hnd) ho 1 (by omega) (.int .i64 nd.p.room) (y:={nd with p:={nd.p with up:=u}}) rfl rfl;rw[ZJ]at s2;have s3:=s2.1.cellN (ZY _ hnd) ho 2 (by omega) (.int .u64 (hz:Int)) (y:={nd with p:={nd.p with up:=u,horizon:=hz}}) rfl rfl;rw[ZJ]at s3;have s4:=s3.1.rowN (ZY _ hnd) ho 0 3 (by omega) (by omega) ⟨244,2,nd.hs,nd.p.hists.length,nd.p.hists.flatMap Zp⟩ ⟨244,2,ZH,0,[]⟩ ZH rfl (y:={nd with p:={nd.p with up:=u,horizon:=hz,hists:=[]},hs:=ZH}) rfl rfl (Za.refl _ _) (Row.nil _ _ _) (fun x hx=>XN hx);rw[ZJ]at s4;have s5:=s4.1.rowN (ZY _ hnd) ho 1 4 (by omega) (by omega) ⟨244,2,nd.wt,nd.p.waits.length,nd.p.waits.flatMap Zp⟩ ⟨244,2,ZH,0,[]⟩ ZH rfl (y:={nd with p:={nd.p with up:=u,horizon:=hz,hists:=[],waits:=[]},hs:=ZH,wt:=ZH}) rfl rfl (Za.refl _ _) (Row.nil _ _ _) (fun x hx=>XN hx);rw[ZJ]at s5;have s6:=s5.1.rowN (ZY _ hnd) ho 2 5 (by omega) (by omega) ⟨227,7,nd.en,nd.p.ents.length,nd.p.ents.flatMap Go.Proofs.YtpfcacedpkaihaaGreat.heldC⟩ ⟨227,7,ZH,0,[]⟩ ZH rfl (y:={nd with p:={nd.p with up:=u,horizon:=hz,hists:=[],waits:=[],ents:=[]},hs:=ZH,wt:=ZH,en:=ZH}) rfl rfl (Za.refl _ _) (Row.nil _ _ _) (fun x hx=>XN hx);rw[ZJ]at s6;have s7:=s6.1.cellN (ZY _ hnd) ho 6 (by omega) (.int .u64 0) (y:=nd.bare u hz) rfl rfl;rw[ZJ]at s7;exact(((((s1.trans s2).trans s3).trans s4).trans s5).trans s6).trans s7
theorem drise (w:World)(b k g:Nat)(D:Ze)(nd:Zn)(z:Nat)(h:Dev w b D)(hnd:D.nodes[k]?=some nd)(ho:D.vn.ownBlock=some g):
 Calls Tryz.prog 119 #[.pointer (some ⟨g,k*8,none⟩),.int .u64 z] w fun e w'=>e=.returned (.tuple #[])∧Hid (Zl w b D k (nd.p.rise z) w'):=by
 have HP:Hid (Zl w b D k (nd.p.rise z) (set7 w g (k*8) true nd.p.room z)):=⟨nd.bare true z,rfl,h.reset hnd ho true z⟩;have c0:w.cell? ⟨g,k*8,none⟩=some (.bool nd.p.up):=h.nodeC hnd ho 0 (by omega) _ rfl;have c1:w.cell? ⟨g,k*8+1,none⟩=some (.int .i64 nd.p.room):=h.nodeC hnd ho 1 (by omega) _ rfl;have c2:w.cell? ⟨g,k*8+2,none⟩=some (.int .u64 (nd.p.horizon:Int)):=h.nodeC hnd ho 2 (by omega) _ rfl;have c3:w.cell? ⟨g,k*8+3,none⟩=some nd.hs:=h.nodeC hnd ho 3 (by omega) _ rfl;have c4:w.cell? ⟨g,k*8+4,none⟩=some nd.wt:=h.nodeC hnd ho 4 (by omega) _ rfl;have c5:w.cell? ⟨g,k*8+5,none⟩=some nd.en:=h.nodeC hnd ho 5 (by omega) _ rfl;have c6:w.cell? ⟨g,k*8+6,none⟩=some (.int .u64 (nd.p.uses:Int)):=h.nodeC hnd ho 6 (by omega) _ rfl;have fr:∀i,w.frozen? ⟨g,i,none⟩=false:=fun i=>h.nodeF ho i;obtain⟨a3,q3,e3,_⟩:=(h.hists nd (List.mem_of_getElem? hnd)).form;obtain⟨a4,q4,e4,_⟩:=(h.waits nd (List.mem_of_getElem? hnd)).form;obtain⟨a5,q5,e5,_⟩:=(h.ents nd (List.mem_of_getElem? hnd)).form;rw[e3]at c3;rw[e4]at c4;rw[e5]at c5;clear h hnd ho e3 e4 e5;go_enter Tryz.func119,Tryz.ntmps119;go_wp2
 go_end0
 exact⟨rfl,HP.out⟩
theorem dfall (w:World)(b k g:Nat)(D:Ze)(nd:Zn)(h:Dev w b D)(hnd:D.nodes[k]?=some nd)(ho:D.vn.ownBlock=some g):
 Calls Tryz.prog 155 #[.pointer (some ⟨g,k*8,none⟩)] w fun e w'=>e=.returned (.tuple #[])∧Hid (Zl w b D k nd.p.fall w'):=by
 have HP:Hid (Zl w b D k nd.p.fall (set7 w g (k*8) false nd.p.room 0)):=⟨nd.bare false 0,rfl,h.reset hnd ho false 0⟩;have c0:w.cell? ⟨g,k*8,none⟩=some (.bool nd.p.up):=h.nodeC hnd ho 0 (by omega) _ rfl;have c1:w.cell? ⟨g,k*8+1,none⟩=some (.int .i64 nd.p.room):=h.nodeC hnd ho 1 (by omega) _ rfl;have c2:w.cell? ⟨g,k*8+2,none⟩=some (.int .u64 (nd.p.horizon:Int)):=h.nodeC hnd ho 2 (by omega) _ rfl;have c3:w.cell? ⟨g,k*8+3,none⟩=some nd.hs:=h.nodeC hnd ho 3 (by omega) _ rfl;have c4:w.cell? ⟨g,k*8+4,none⟩=some nd.wt:=h.nodeC hnd ho 4 (by omega) _ rfl;have c5:w.cell? ⟨g,k*8+5,none⟩=some nd.en:=h.nodeC hnd ho 5 (by omega) _ rfl;have c6:w.cell? ⟨g,k*8+6,none⟩=some (.int .u64 (nd.p.uses:Int)):=h.nodeC hnd ho 6 (by omega) _ rfl;have fr:∀i,w.frozen? ⟨g,i,none⟩=false:=fun i=>h.nodeF ho i;obtain⟨a3,q3,e3,_⟩:=(h.hists nd (List.mem_of_getElem? hnd)).form;obtain⟨a4,q4,e4,_⟩:=(h.waits nd (List.mem_of_getElem? hnd)).form;obtain⟨a5,q5,e5,_⟩:=(h.ents nd (List.mem_of_getElem? hnd)).form;rw[e3]at c3;rw[e4]at c4;rw[e5]at c5;clear h hnd ho e3 e4 e5;go_enter Tryz.func155,Tryz.ntmps155;go_wp2
 go_end0
 exact⟨rfl,HP.out⟩
theorem dclear (w:World)(b k g:Nat)(D:Ze)(nd:Zn)(h:Dev w b D)(hnd:D.nodes[k]?=some nd)(ho:D.vn.ownBlock=some g):
 Calls Tryz.prog 156 #[.pointer (some ⟨g,k*8+7,none⟩)] w fun e w'=>e=.returned (.tuple #[])∧Hid (Zl w b D k nd.p.clear w'):=by
 have c7:w.cell? ⟨g,k*8+7,none⟩=some nd.fl:=h.nodeC hnd ho 7 (by omega) _ rfl;have f7:w.frozen? ⟨g,k*8+7,none⟩=false:=h.nodeF ho _;have HP:Hid (Zl w b D k nd.p.clear (w.setCell ⟨g,k*8+7,none⟩ (.slice none 0 0))):=
  ⟨{nd with p:=nd.p.clear,fl:=ZH},rfl,h.rowN hnd ho 3 7 (by omega) (by omega) ⟨192,2,nd.fl,nd.p.flight.length,nd.p.flight.flatMap Zp⟩ ⟨192,2,ZH,0,[]⟩ ZH rfl rfl rfl (Za.refl _ _) (Row.nil _ _ _) (fun x hx=>XN hx)⟩
 obtain⟨a7,q7,e7,_⟩:=(h.flight nd (List.mem_of_getElem? hnd)).form;rw[e7]at c7;clear h hnd ho e7;go_enter Tryz.func156,Tryz.ntmps156;go_wp2
 go_end0
 exact⟨rfl,HP.out⟩
theorem Zgy (w:World)(g o:Nat)(ao:Option Addr)(n cap:Nat)(hc:w.cell? ⟨g,o,none⟩=some (.slice ao n cap)):
 Calls Tryz.prog 152 #[.pointer (some ⟨g,o,none⟩)] w fun e w'=>e=.returned (.bool (decide ((12:Int)≤(n:Int))))∧w=w':=by
 go_enter Tryz.func152,Tryz.ntmps152;go_wp2;go_ret;exact⟨rfl,rfl⟩
theorem Zbu {l:List (Nat×Int)}{t j:Nat}(hj:j<l.length):ZB (l.take (j+1)) t=(ZB (l.take j) t||decide (l[j].1=t)):=by
 unfold ZB;rw[List.take_succ_eq_append_getElem hj,List.any_append];simp
theorem ZfW {l:List (Nat×Int)}{t j:Nat}(hj:j<l.length)(h:l[j].1=t):ZB l t=true:=by
 unfold ZB;rw[List.any_eq_true];exact⟨l[j],List.getElem_mem hj,by simpa using h⟩
theorem Ziy (w:World)(g o:Nat)(v:Value)(l:List (Nat×Int))(t:Nat)(hc:w.cell? ⟨g,o+4,none⟩=some v)(hr:Row w 244 2 v l.length (l.flatMap Zp))(hl:l.length≤1000):
 Calls Tryz.prog 151 #[.pointer (some ⟨g,o,none⟩),.int .u64 t] w fun e w'=>e=.returned (.bool (ZB l t))∧Za (fun _=>False) w w':=by
 obtain⟨ao,cap,hv,hp⟩:=hr.pairs;have HP:=hid hp;subst hv;clear hp hr;go_enter Tryz.func151,Tryz.ntmps151;go_wp2
 go_loopw [12] (fun iv wr=>∃j:Nat,j≤l.length∧iv=.int .i64 j∧Hid (ZB (l.take j) t=false∧Za (fun _=>False) w wr)) (fun iv _=>l.length-(intOf iv).toNat)
 case atStart=>exact⟨0,Nat.zero_le _,rfl,rfl,Za.refl _ _⟩
 case round=>
  obtain⟨j,hj,rfl,HK⟩:=hrel;by_cases hlt:j<l.length
  · obtain⟨gw,hao,hgl,p0,p1⟩:=HP.out j hlt;obtain⟨x,hx⟩:∃x,x=l[j]:=⟨_,rfl⟩;rw[←hx]at p0 p1;have d0:=HK.out.2.hold p0;have d1:=HK.out.2.hold p1;have HX:Hid (l[j].1=x.1):=by rw[hx];rfl
    have hj0:(0:Int)≤(j:Int):=by omega
    have hj1:(j:Int)<(l.length:Int):=by omega
    clear hx p0 p1 hgl;subst hao;by_cases he:x.1=t
    · have hb:((x.1:Int)==(t:Int))=true:=by rw[he];exact beq_self_eq_true _
      have HW:Hid (ZB l t=true):=ZfW hlt (HX.out.trans he);clear he;go_wp2;go_ret;exact⟨Z6 HW.out.symm,HK.out.2.allocNew _⟩
    · have hb:((x.1:Int)==(t:Int))=false:=beq_eq_false_iff_ne.mpr (by omega);have HW:Hid (ZB (l.take (j+1)) t=false):=by
       show _=_;rw[Zbu hlt,HK.out.1,HX.out];simpa using he
      clear he;go_wp2
      go_roundw
      case rel=>exact⟨j+1,by omega,by go_num,HW.out,HK.out.2.allocNew _⟩
      case measure=>simp[intOf];omega
  · have hjn:j=l.length:=by omega
    subst hjn;have HW:Hid (ZB l t=false):=by have:=HK.out.1;rwa [List.take_length]at this
    go_wp2;go_ret;exact⟨Z6 HW.out.symm,HK.out.2⟩
theorem Zby {l:List (Nat×Int)}{t j:Nat}(hj:j<l.length)(h:Yu (l.take j) t=none):Yu (l.take (j+1)) t=if l[j].1=t then some l[j].2 else none:=by
 unfold Yu at h⊢;rw[List.take_succ_eq_append_getElem hj,List.find?_append];have:(l.take j).find? (fun c=>decide (c.1=t))=none:=by simpa using h
 rw[this];by_cases he:l[j].1=t<;>simp[he]
theorem Zgl {l:List (Nat×Int)}{t j:Nat}(hj:j<l.length)(h:Yu (l.take j) t=none)(he:l[j].1=t):Yu l t=some l[j].2:=by
 have h1:=Zby hj h;rw[if_pos he]at h1;have e:l=l.take (j+1)++l.drop (j+1):=(List.take_append_drop _ _).symm;obtain⟨y0,hy0⟩:∃y,y=l[j].2:=⟨_,rfl⟩;rw[←hy0]at h1⊢;clear hy0 he h;unfold Yu at h1⊢;rw[e,List.find?_append];cases hh:(l.take (j+1)).find? (fun c=>decide (c.1=t))with
 |none=>rw[hh]at h1;simp at h1
 |some y=>rw[hh]at h1;simpa using h1
def ZiQ (r:Option Int):Value:=.tuple #[.int .u8 (r.getD 0),.bool r.isSome]
theorem dwrote (w:World)(g o:Nat)(v:Value)(l:List (Nat×Int))(t:Nat)(hc:w.cell? ⟨g,o+3,none⟩=some v)(hr:Row w 244 2 v l.length (l.flatMap Zp))(hl:l.length≤1000):
 Calls Tryz.prog 161 #[.pointer (some ⟨g,o,none⟩),.int .u64 t] w fun e w'=>e=.returned (ZiQ (Yu l t))∧Za (fun _=>False) w w':=by
 obtain⟨ao,cap,hv,hp⟩:=hr.pairs;have HP:=hid hp;subst hv;clear hp hr;go_enter Tryz.func161,Tryz.ntmps161;go_wp2
 go_loopw [13] (fun iv wr=>∃j:Nat,j≤l.length∧iv=.int .i64 j∧Hid (Yu (l.take j) t=none∧Za (fun _=>False) w wr)) (fun iv _=>l.length-(intOf iv).toNat)
 case atStart=>exact⟨0,Nat.zero_le _,rfl,rfl,Za.refl _ _⟩
 case round=>
  obtain⟨j,hj,rfl,HK⟩:=hrel;by_cases hlt:j<l.length
  · obtain⟨gw,hao,hgl,p0,p1⟩:=HP.out j hlt;obtain⟨x,hx⟩:∃x,x=l[j]:=⟨_,rfl⟩;rw[←hx]at p0 p1;have d0:=HK.out.2.hold p0;have d1:=HK.out.2.hold p1;have HX:Hid (l[j]=x):=hx.symm;have hj0:(0:Int)≤(j:Int):=by omega
    have hj1:(j:Int)<(l.length:Int):=by omega
    clear hx p0 p1 hgl;subst hao;by_cases he:x.1=t
    · have hb:((x.1:Int)==(t:Int))=true:=by rw[he];exact beq_self_eq_true _
      have HW:Hid (Yu l t=some x.2):=by
       have:=Zgl hlt HK.out.1 (by rw[HX.out];exact he)
       rwa [HX.out]at this
      clear he;go_wp2;go_ret2;exact⟨by rw[HW.out];rfl,HK.out.2.allocNew _⟩
    · have hb:((x.1:Int)==(t:Int))=false:=beq_eq_false_iff_ne.mpr (by omega);have HW:Hid (Yu (l.take (j+1)) t=none):=by
       show _=_;rw[Zby hlt HK.out.1,HX.out,if_neg he]
      clear he;go_wp2
      go_roundw
      case rel=>exact⟨j+1,by omega,by go_num,HW.out,HK.out.2.allocNew _⟩
      case measure=>simp[intOf];omega
  · have hjn:j=l.length:=by omega
    subst hjn;have HW:Hid (Yu l t=none):=by have:=HK.out.1;rwa [List.take_length]at this
    go_wp2;go_ret2;exact⟨by rw[HW.out];rfl,HK.out.2⟩
structure ZG {α:Type}(T:TypeId)(size:Nat)(C:α→List Value)(w wr:World)(v:Value)(l:List α):Prop where
 row:Row wr T size v l.length (l.flatMap C)
 kept:Za (fun _=>False) w wr
 new:∀k,v.ownBlock=some k→w.heap.size≤k
theorem ZG.start {α:Type}(T:TypeId)(size:Nat)(C:α→List Value)(w:World):ZG T size C w w (.slice none 0 0) []:=⟨Row.nil _ _ _,Za.refl _ _,fun _ hk=>XN hk⟩
theorem ZG.more {α:Type}{T:TypeId}{size:Nat}{C:α→List Value}{w wr w':World}{v:Value}{l:List α}(h:ZG T size C w wr v l)(hk:Za (fun _=>False) wr w'):ZG T size C w w' v l:=
 ⟨h.row.kept hk (fun _ _=>id),h.kept.trans hk (fun _=>id) (fun _ _=>id),h.new⟩
theorem ZG.next {α:Type}{T:TypeId}{size:Nat}{C:α→List Value}{w wr w':World}{v v':Value}{l:List α}{x:α}(h:ZG T size C w wr v l)(hA:Zc wr w' T size v v' l.length 1 (l.flatMap C) (C x)):ZG T size C w w' v' (l++[x]):=by
 refine⟨by rw[List.length_append,List.flatMap_append];simpa using hA.row,h.kept.trans hA.kept (fun _=>id) (fun k hk he=>by have:=h.new k he;omega),fun k hk=> ?_⟩;rcases hA.own with e|e
 · exact h.new k (by rw[←e];exact hk)
 · exact Nat.le_trans h.kept.size (e k hk)
theorem ZG.own {α:Type}{T:TypeId}{size:Nat}{C:α→List Value}{w wr:World}{v:Value}{l:List α}(h:ZG T size C w wr v l){P:Nat→Prop}:∀x,v.ownBlock=some x→P x∨w.heap.size≤x:=fun x hx=>.inr (h.new x hx)
theorem Ys (x:Nat×Int):∀u∈Zp x,u.oneCell'=true:=by
 intro u hu;simp[Zp]at hu;rcases hu with rfl|rfl<;>rfl
theorem Y8 (w:World)(x:Nat×Int)(t:TypeId):∀j u,(Zp x)[j]?=some u→(w.alloc (.cells #[.int .u64 (x.1:Int),.int .u8 x.2] t)).cell? ((⟨w.heap.size,0,none⟩:Addr).add j)=some u:=by
 intro j u hj;have e':(⟨w.heap.size,0,none⟩:Addr).add j=⟨w.heap.size,j,none⟩:=by cases j<;>simp[Addr.add]
 rw[e',World.cell?_alloc_at _ _ _ _ rfl];simpa[Zp]using hj
theorem VQ (x:Zu):∀u∈heldC x,u.oneCell'=true:=by
 intro u hu;simp[heldC]at hu;rcases hu with rfl|rfl|rfl|rfl|rfl|rfl|rfl<;>rfl
theorem Za5 (w:World)(x:Zu)(t:TypeId):∀j u,(heldC x)[j]?=some u→(w.alloc (.cells #[.string x.e.q,.int .i32 x.e.val,.int .u64 (x.e.fr:Int),.int .u64 (x.e.till:Int),.bool x.e.op,.int .u64 (x.e.kn:Int),.int .u64 (x.used:Int)] t)).cell? ((⟨w.heap.size,0,none⟩:Addr).add j)=some u:=by
 intro j u hj;have e':(⟨w.heap.size,0,none⟩:Addr).add j=⟨w.heap.size,j,none⟩:=by cases j<;>simp[Addr.add]
 rw[e',World.cell?_alloc_at _ _ _ _ rfl];simpa[heldC]using hj
theorem Tryz.infoHist :(Tryz.prog.info? 244).map (fun i=>(i.zero,i.size,i.bytes))=some (some (.agg #[.int .u64 0,.int .u8 0]),2,16):=by kernel_rfl
theorem Tryz.infoSent :(Tryz.prog.info? 192).map (fun i=>(i.zero,i.size,i.bytes))=some (some (.agg #[.int .u64 0,.int .u8 0]),2,16):=by kernel_rfl
theorem Tryz.infoHeld :(Tryz.prog.info? 227).map (fun i=>(i.zero,i.size,i.bytes))=some (some (.agg #[.string ByteArray.empty,.int .i32 0,.int .u64 0,.int .u64 0,.bool false,.int .u64 0,.int .u64 0]),7,64):=by kernel_rfl
def tkL {α:Type}(l:List α)(i k:Nat):List α:=(l.take k).eraseIdx i
theorem Zdw {α:Type}(l:List α)(i:Nat):tkL l i l.length=l.eraseIdx i:=by rw[tkL,List.take_length]
theorem ZcB {α:Type}(l:List α)(i:Nat)(h:i<l.length):tkL l i (i+1)=tkL l i i:=by
 have hl:(l.take i).length=i:=by rw[List.length_take];omega
 have e2:(l.take i).eraseIdx i=l.take i:=List.eraseIdx_of_length_le (by omega);have e1:(l.take i++[l[i]]).eraseIdx i=l.take i++[l[i]].eraseIdx (i-(l.take i).length):=List.eraseIdx_append_of_length_le (by omega) _;rw[hl,Nat.sub_self]at e1;unfold tkL;rw[List.take_succ_eq_append_getElem h,e1,e2];simp
theorem ZcC {α:Type}(l:List α)(i k:Nat)(hk:k<l.length)(hne:k≠i):tkL l i (k+1)=tkL l i k++[l[k]]:=by
 unfold tkL;rw[List.take_succ_eq_append_getElem hk];by_cases h:i<k
 · rw[List.eraseIdx_append_of_lt_length (by simp;omega)]
 · rw[List.eraseIdx_of_length_le (by simp;omega),List.eraseIdx_of_length_le (by simp;omega)]
theorem ZdZ {α:Type}(l:List α)(i k:Nat):(tkL l i k).length≤l.length:=by
 unfold tkL;have h1:=List.length_eraseIdx_le (l.take k) i;have h2:(l.take k).length≤l.length:=by rw[List.length_take];omega
 omega
theorem Zbj {α:Type}(l:List α)(f:α→Bool)(k:Nat)(hk:k<l.length):(l.take (k+1)).filter f=(l.take k).filter f++if f l[k]then[l[k]]else[]:=by
 rw[List.take_succ_eq_append_getElem hk,List.filter_append];congr 1;cases h:f l[k]<;>simp[h]
theorem Zcg {α:Type}(l:List α)(f:α→Bool)(k:Nat):((l.take k).filter f).length≤l.length:=by
 have h1:=List.length_filter_le f (l.take k);have h2:(l.take k).length≤l.length:=by rw[List.length_take];omega
 omega
theorem Zc.from {W W1 w':World}{T:TypeId}{size:Nat}{v v':Value}{n m:Nat}{xs news:List Value}(hk:Za (fun _=>False) W W1)(h:Zc W1 w' T size v v' n m xs news):Zc W w' T size v v' n m xs news:=
 ⟨h.row,hk.trans h.kept (fun _=>False.elim) (fun _ _=>id),h.own.imp id fun hh k hk'=>Nat.le_trans hk.size (hh k hk')⟩
theorem Zc.new {W w':World}{T:TypeId}{size:Nat}{v v':Value}{n m:Nat}{xs news:List Value}(h:Zc W w' T size v v' n m xs news):∀x,v'.ownBlock=some x→v.ownBlock=some x∨W.heap.size≤x:=fun x hx=>h.own.imp (fun e=>by rw[←e];exact hx) (fun e=>e x hx)
theorem Dev.appIn {W W1 w':World}{b k g:Nat}{D:Ze}{nd:Zn}{T:TypeId}{size:Nat}{v v':Value}{n m:Nat}{xs news:List Value}(h:Dev W b D)(hnd:D.nodes[k]?=some nd)(ho:D.vn.ownBlock=some g)(f:Nat)(r:Yw)(hr:(Z1 nd)[f]?=some r)(hv:r.v=v)(hk:Za (fun _=>False) W W1)(hA:Zc W1 w' T size v v' n m xs news):
 (∀c u,c<8→(ZN nd)[c]?=some u→w'.cell? ⟨g,k*8+c,none⟩=some u)∧(∀i,w'.frozen? ⟨g,i,none⟩=false)∧Zc W w' T size v v' n m xs news:=by
 have hA':=Zc.from hk hA;have hm:=ZbB hnd hr;obtain⟨hkl,hnd'⟩:=List.getElem?_eq_some_iff.mp hnd;have hrn:Row w' 139 8 D.vn D.nodes.length (D.nodes.flatMap ZN):=h.nodes.kept hA'.kept fun j hj he=>(h.all.row r hm).ne_row h.nodes (Zdg (List.mem_of_getElem? hr)) j (by rw[hv];exact he) hj;exact⟨fun c u hc hu=>hrn.cell ho _ u (by rw[Zfo D.nodes k hkl c hc,hnd'];exact hu),fun i=>hrn.free ho i,hA'⟩
theorem Dev.putHists {w wr:World}{b k g:Nat}{D:Ze}{nd:Zn}(h:Dev w b D)(hnd:D.nodes[k]?=some nd)(ho:D.vn.ownBlock=some g)(l:List (Nat×Int))(v:Value)(hk:Za (fun j=>nd.hs.ownBlock=some j) w wr)(hr:Row wr 244 2 v l.length (l.flatMap Zp))(hw:∀x,v.ownBlock=some x→nd.hs.ownBlock=some x∨w.heap.size≤x):Zv w b D (wr.setCell ⟨g,k*8+3,none⟩ v) (D.putN k {nd with p:={nd.p with hists:=l},hs:=v}):=
 h.rowN hnd ho 0 3 (by omega) (by omega) ⟨244,2,nd.hs,nd.p.hists.length,nd.p.hists.flatMap Zp⟩ ⟨244,2,v,l.length,l.flatMap Zp⟩ v rfl rfl rfl hk hr hw
theorem Dev.putWaits {w wr:World}{b k g:Nat}{D:Ze}{nd:Zn}(h:Dev w b D)(hnd:D.nodes[k]?=some nd)(ho:D.vn.ownBlock=some g)(l:List (Nat×Int))(v:Value)(hk:Za (fun j=>nd.wt.ownBlock=some j) w wr)(hr:Row wr 244 2 v l.length (l.flatMap Zp))(hw:∀x,v.ownBlock=some x→nd.wt.ownBlock=some x∨w.heap.size≤x):Zv w b D (wr.setCell ⟨g,k*8+4,none⟩ v) (D.putN k {nd with p:={nd.p with waits:=l},wt:=v}):=
 h.rowN hnd ho 1 4 (by omega) (by omega) ⟨244,2,nd.wt,nd.p.waits.length,nd.p.waits.flatMap Zp⟩ ⟨244,2,v,l.length,l.flatMap Zp⟩ v rfl rfl rfl hk hr hw
theorem Dev.putEnts {w wr:World}{b k g:Nat}{D:Ze}{nd:Zn}(h:Dev w b D)(hnd:D.nodes[k]?=some nd)(ho:D.vn.ownBlock=some g)(l:List Zu)(v:Value)(hk:Za (fun j=>nd.en.ownBlock=some j) w wr)(hr:Row wr 227 7 v l.length (l.flatMap Go.Proofs.YtpfcacedpkaihaaGreat.heldC))(hw:∀x,v.ownBlock=some x→nd.en.ownBlock=some x∨w.heap.size≤x):Zv w b D (wr.setCell ⟨g,k*8+5,none⟩ v) (D.putN k {nd with p:={nd.p with ents:=l},en:=v}):=
 h.rowN hnd ho 2 5 (by omega) (by omega) ⟨227,7,nd.en,nd.p.ents.length,nd.p.ents.flatMap Go.Proofs.YtpfcacedpkaihaaGreat.heldC⟩ ⟨227,7,v,l.length,l.flatMap Go.Proofs.YtpfcacedpkaihaaGreat.heldC⟩ v rfl rfl rfl hk hr hw
theorem Dev.putFl {w wr:World}{b k g:Nat}{D:Ze}{nd:Zn}(h:Dev w b D)(hnd:D.nodes[k]?=some nd)(ho:D.vn.ownBlock=some g)(l:List (Nat×Int))(v:Value)(hk:Za (fun j=>nd.fl.ownBlock=some j) w wr)(hr:Row wr 192 2 v l.length (l.flatMap Zp))(hw:∀x,v.ownBlock=some x→nd.fl.ownBlock=some x∨w.heap.size≤x):Zv w b D (wr.setCell ⟨g,k*8+7,none⟩ v) (D.putN k {nd with p:={nd.p with flight:=l},fl:=v}):=
 h.rowN hnd ho 3 7 (by omega) (by omega) ⟨192,2,nd.fl,nd.p.flight.length,nd.p.flight.flatMap Zp⟩ ⟨192,2,v,l.length,l.flatMap Zp⟩ v rfl rfl rfl hk hr hw
theorem Vc {α:Type}{w:World}{T:TypeId}{size:Nat}{C:α→List Value}{v:Value}{l:List α}{x:α}(h:Row w T size v (l.length+1) (l.flatMap C++C x)):Row w T size v (l++[x]).length ((l++[x]).flatMap C):=by
 rw[List.length_append,List.flatMap_append];simpa using h
theorem Row.helds {w:World}{T:TypeId}{v:Value}{l:List Zu}(h:Row w T 7 v l.length (l.flatMap heldC)):∃ao cap,v=.slice ao l.length cap∧∀j (hj:j<l.length),∃ge,ao=some ⟨ge,0,none⟩∧ge<w.heap.size∧∀f,f<7→w.cell? ⟨ge,j*7+f,none⟩=(heldC l[j])[f]? :=by
 obtain⟨ao,cap,hv,_⟩:=h.form;refine⟨ao,cap,hv,fun j hj=> ?_⟩;obtain⟨ge,cap',hv',ho,hl⟩:=h.block (by omega);rw[hv]at hv';injection hv' with e1 e2 e3;refine⟨ge,e1,hl,fun f hf=> ?_⟩;obtain⟨u,hu⟩:∃u,(heldC l[j])[f]?=some u:=⟨_,List.getElem?_eq_getElem (show f<7 from hf)⟩;rw[hu];exact h.cell ho _ u (by rw[ZgI l j hj f hf];exact hu)
theorem ZgU (w:World)(b k g:Nat)(D:Ze)(nd:Zn)(i:Nat)(h:Dev w b D)(hnd:D.nodes[k]?=some nd)(ho:D.vn.ownBlock=some g)(hl:nd.p.ents.length≤1000):
 Calls Tryz.prog 149 #[.pointer (some ⟨g,k*8,none⟩),.int .i64 (i:Int)] w fun e w'=>e=.returned (.tuple #[])∧Hid (Zl w b D k (nd.p.remove i) w'):=by
 have hr:=h.ents nd (List.mem_of_getElem? hnd);obtain⟨ao,cap,hv,hp⟩:=hr.helds;have c7:w.cell? ⟨g,k*8+5,none⟩=some nd.en:=h.nodeC hnd ho 5 (by omega) _ rfl;have f7:w.frozen? ⟨g,k*8+5,none⟩=false:=h.nodeF ho _;have hgl:g<w.heap.size:=World.block_lt_of_cell? w _ c7;have HC:Hid (∀W,Za (fun _=>False) w W→W.cell? ⟨g,k*8+5,none⟩=some nd.en∧W.frozen? ⟨g,k*8+5,none⟩=false):=fun W hW=>⟨hW.hold c7,(World.frozen?_of_block (a:=⟨g,k*8+5,none⟩) (hW.block g hgl id)).trans f7⟩;rw[hv]at c7 HC;obtain⟨l,hll⟩:∃l,l=nd.p.ents:=⟨_,rfl⟩;have HP:Hid (∀j (hj:j<l.length),∃ge,ao=some ⟨ge,0,none⟩∧ge<w.heap.size∧∀f,f<7→w.cell? ⟨ge,j*7+f,none⟩=(heldC l[j])[f]?):=by rw[hll];exact hp
 have HF:Hid (∀(v:Value)(wr:World),ZG 227 7 heldC w wr v (l.eraseIdx i)→Zl w b D k (nd.p.remove i) (wr.setCell ⟨g,k*8+5,none⟩ v)):=fun v wr hG=>by rw[hll]at hG;exact⟨_,rfl,h.putEnts hnd ho _ v (hG.kept.mono (fun _=>False.elim)) hG.row hG.own⟩
 rw[←hll]at hl c7 HC;obtain⟨i0,hi,hz0,hz1,hz2⟩:=info_parts Tryz.infoHeld;have HI:Hid (Tryz.prog.info? 227=some i0∧i0.zero=some (.agg #[.string ByteArray.empty,.int .i32 0,.int .u64 0,.int .u64 0,.bool false,.int .u64 0,.int .u64 0])∧i0.size=7∧i0.bytes=64):=⟨hi,hz0,hz1,hz2⟩;clear hi hz0 hz1 hz2 h hnd ho hr hp hv hll f7;go_enter Tryz.func149,Tryz.ntmps149;go_wp2
 go_loopw [4,12] (fun v iv wr=>∃j:Nat,j≤l.length∧iv=.int .i64 j∧Hid (ZG 227 7 heldC w wr v (tkL l i j))) (fun _ iv _=>l.length-(intOf iv).toNat)
 case atStart=>exact⟨0,Nat.zero_le _,rfl,by rw[show tkL l i 0=[] by simp[tkL]];exact ZG.start _ _ _ _⟩
 case round=>
  obtain⟨j,hj,rfl,HG⟩:=hrel;obtain⟨av,cv,hvv,_⟩:=HG.out.row.form;have hfl:=ZdZ l i j;obtain⟨n,hn⟩:∃n,n=(tkL l i j).length:=⟨_,rfl⟩;rw[←hn]at hvv hfl;subst hvv;by_cases hlt:j<l.length
  · obtain⟨ge,hao,hgw,hce⟩:=HP.out j hlt;have HTN:=ZcC l i j hlt;have HTS:=ZcB l i;obtain⟨y,hy⟩:∃y,y=l[j]:=⟨_,rfl⟩;rw[←hy]at hce HTN;obtain⟨x0,x1,x2,x3,x4,x5,x6⟩:=ZbM (w:=wr) (ge:=ge) (o:=j*7) (x:=y) fun f hf=>HG.out.kept.hold' (hce f hf) hf;have hj0:(0:Int)≤(j:Int):=by omega
    have hj1:(j:Int)<(l.length:Int):=by omega
    clear hy hce hgw;subst hao;by_cases he:j=i
    · have HX:Hid (tkL l i (j+1)=tkL l i j):=by show _=_;rw[he];exact HTS (by omega)
      have hb:(((j:Int)) !=(i:Int))=false:=by simp[he]
      clear HTN HTS he hn;go_wp2
      go_roundw
      case rel=>exact⟨j+1,by omega,by go_num,by rw[HX.out];exact HG.out.more (Za.alloc _ _ _)⟩
      case measure=>simp[intOf];omega
    · have HX:Hid (tkL l i (j+1)=tkL l i j++[y]):=HTN he;have hb:(((j:Int)) !=(i:Int))=true:=by simp;omega
      have HROW:Hid (∀o o',Row ((wr.alloc o).alloc o') 227 7 (.slice av n cv) n ((tkL l i j).flatMap heldC)):=fun o o'=>by have:=(HG.out.row.kept (Za.alloc wr o (fun _=>False)) (fun _ _=>id)).kept (Za.alloc _ o' (fun _=>False)) (fun _ _=>id);rw[←hn]at this;exact this
      have HNX:Hid (∀(o o':Obj)(w':World)(v':Value),Zc ((wr.alloc o).alloc o') w' 227 7 (.slice av n cv) v' n 1 ((tkL l i j).flatMap heldC) (heldC y)→ZG 227 7 heldC w w' v' (tkL l i j++[y])):=by
       intro o o' w' v' hA;rw[hn]at hA HG;exact(HG.out.more ((Za.alloc wr o (fun _=>False)).allocNew o')).next hA
      have b1:n+1≤maxLen:=by unfold maxLen;omega
      have b2:(n+1)*64≤140737488355328:=by omega
      clear HTN HTS he hn
      go_wp2_with (at_builtin;go_must (refine Zf _ rfl (.tmp 20) (.tmp 22) 131 rfl 227 i0 (.agg #[.string ByteArray.empty,.int .i32 0,.int .u64 0,.int .u64 0,.bool false,.int .u64 0,.int .u64 0]) 7 64 Tryz.underlying131 HI.out.1 HI.out.2.1 HI.out.2.2.1 HI.out.2.2.2 rfl (by decide) (.slice av n cv) n _ rfl (HROW.out _ _) ⟨wr.heap.size+1,0,none⟩ 1 1 (heldC y) rfl rfl (fun j u hj=>by simpa using Za5 (wr.alloc _) y _ j u hj) (VQ y) b1 b2 ?_);intro v' w1 hA;have HA:Hid (ZG 227 7 heldC w w1 v' (tkL l i j++[y])):=HNX.out _ _ _ _ hA;clear hA)
      go_roundw
      case rel=>exact⟨j+1,by omega,by go_num,by rw[HX.out];exact HA.out⟩
      case measure=>simp[intOf];omega
  · have hjn:j=l.length:=by omega
    subst hjn;obtain⟨d7,e7⟩:=HC.out wr HG.out.kept;have HZ:Hid (Zl w b D k (nd.p.remove i) (wr.setCell ⟨g,k*8+5,none⟩ (.slice av n cv))):=HF.out _ _ (by have:=HG.out;rwa [Zdw]at this);clear hn;go_wp2
    go_end0
    exact⟨rfl,HZ.out⟩
theorem Zec {l:List (Nat×Int)}{t j:Nat}(hj:j<l.length):YV (l.take (j+1)) t=if l[j].1=t then l[j].2 else YV (l.take j) t:=by
 unfold YV;rw[List.take_succ_eq_append_getElem hj,List.foldl_append];rfl
theorem dnext (w:World)(b k g:Nat)(D:Ze)(nd:Zn)(h:Dev w b D)(hnd:D.nodes[k]?=some nd)(ho:D.vn.ownBlock=some g)(hl:nd.p.waits.length≤1000)(hz:nd.p.horizon≤1000000):
 Calls Tryz.prog 154 #[.pointer (some ⟨g,k*8,none⟩)] w fun e w'=>e=.returned (.tuple #[.int .u8 (YV nd.p.waits (nd.p.horizon+1)),.bool (ZB nd.p.waits (nd.p.horizon+1))])∧Hid (Zl w b D k nd.p.dropNext w'):=by
 have hr:=h.waits nd (List.mem_of_getElem? hnd);obtain⟨ao,cap,hv,hp⟩:=hr.pairs;have c7:w.cell? ⟨g,k*8+4,none⟩=some nd.wt:=h.nodeC hnd ho 4 (by omega) _ rfl;have c2:w.cell? ⟨g,k*8+2,none⟩=some (.int .u64 (nd.p.horizon:Int)):=h.nodeC hnd ho 2 (by omega) _ rfl;have f7:w.frozen? ⟨g,k*8+4,none⟩=false:=h.nodeF ho _;have hgl:g<w.heap.size:=World.block_lt_of_cell? w _ c7;have HC:Hid (∀W,Za (fun _=>False) w W→W.cell? ⟨g,k*8+4,none⟩=some nd.wt∧W.frozen? ⟨g,k*8+4,none⟩=false):=fun W hW=>⟨hW.hold c7,(World.frozen?_of_block (a:=⟨g,k*8+4,none⟩) (hW.block g hgl id)).trans f7⟩;rw[hv]at c7 HC;obtain⟨l,hll⟩:∃l,l=nd.p.waits:=⟨_,rfl⟩;obtain⟨z,hzz⟩:∃z,z=nd.p.horizon:=⟨_,rfl⟩;have HP:Hid (∀j (hj:j<l.length),∃gw,ao=some ⟨gw,0,none⟩∧gw<w.heap.size∧w.cell? ⟨gw,j*2,none⟩=some (.int .u64 (l[j].1:Int))∧w.cell? ⟨gw,j*2+1,none⟩=some (.int .u8 l[j].2)):=by rw[hll];exact hp
 have HF:Hid (∀(v:Value)(wr:World),ZG 244 2 Zp w wr v (l.filter fun c=>decide (c.1≠z+1))→Zl w b D k nd.p.dropNext (wr.setCell ⟨g,k*8+4,none⟩ v)):=fun v wr hG=>by rw[hll,hzz]at hG;exact⟨_,rfl,h.putWaits hnd ho _ v (hG.kept.mono (fun _=>False.elim)) hG.row hG.own⟩
 rw[←hll]at hl c7 HC;rw[←hll,←hzz];rw[←hzz]at hz c2;obtain⟨i0,hi,hz0,hz1,hz2⟩:=info_parts Tryz.infoHist;have HI:Hid (Tryz.prog.info? 244=some i0∧i0.zero=some (.agg #[.int .u64 0,.int .u8 0])∧i0.size=2∧i0.bytes=16):=⟨hi,hz0,hz1,hz2⟩;have HKA:Hid (∀j (hj:j<l.length),YV (l.take (j+1)) (z+1)=if l[j].1=z+1 then l[j].2 else YV (l.take j) (z+1)):=fun j hj=>Zec hj;clear hi hz0 hz1 hz2 h hnd ho hr hp hv hll f7 hzz;go_enter Tryz.func154,Tryz.ntmps154;go_wp2
 go_loopw [4,5,6,14] (fun v kv bv iv wr=>∃j:Nat,j≤l.length∧iv=.int .i64 j∧kv=.int .u8 (YV (l.take j) (z+1))∧bv=.bool (ZB (l.take j) (z+1))∧Hid (ZG 244 2 Zp w wr v ((l.take j).filter fun c=>decide (c.1≠z+1)))) (fun _ _ _ iv _=>l.length-(intOf iv).toNat)
 case atStart=>exact⟨0,Nat.zero_le _,rfl,rfl,rfl,ZG.start _ _ _ _⟩
 case round=>
  obtain⟨j,hj,rfl,rfl,rfl,HG⟩:=hrel;obtain⟨av,cv,hvv,_⟩:=HG.out.row.form;have hfl:=Zcg l (fun c=>decide (c.1≠z+1)) j;obtain⟨n,hn⟩:∃n,n=((l.take j).filter fun c=>decide (c.1≠z+1)).length:=⟨_,rfl⟩;rw[←hn]at hvv hfl;subst hvv;by_cases hlt:j<l.length
  · obtain⟨gw,hao,hgw,p0,p1⟩:=HP.out j hlt;have HFT:=Zbj l (fun c=>decide (c.1≠z+1)) j hlt;have HKT:=HKA.out j hlt;have HWT:=Zbu (t:=z+1) hlt;obtain⟨x,hx⟩:∃x,x=l[j]:=⟨_,rfl⟩;rw[←hx]at p0 p1 HFT HKT HWT;have d0:=HG.out.kept.hold p0;have d1:=HG.out.kept.hold p1;have d2:=HG.out.kept.hold c2;have a0:∀o:Obj,(wr.alloc o).cell? ⟨g,k*8+2,none⟩=some (.int .u64 (z:Int)):=fun o=>Zg d2;have hj0:(0:Int)≤(j:Int):=by omega
    have hj1:(j:Int)<(l.length:Int):=by omega
    obtain⟨K,hK⟩:∃K,K=YV (l.take j) (z+1):=⟨_,rfl⟩;obtain⟨B,hB⟩:∃B,B=ZB (l.take j) (z+1):=⟨_,rfl⟩;rw[←hK,←hB];rw[←hK]at HKT;rw[←hB]at HWT;clear hx p0 p1 hgw hK hB;subst hao;by_cases he:x.1=z+1
    · have HX:Hid ((l.take (j+1)).filter (fun c=>decide (c.1≠z+1))=(l.take j).filter (fun c=>decide (c.1≠z+1))∧YV (l.take (j+1)) (z+1)=x.2∧ZB (l.take (j+1)) (z+1)=true):=⟨by rw[HFT,if_neg (by simpa using he),List.append_nil],by rw[HKT,if_pos he],by rw[HWT,decide_eq_true he,Bool.or_true]⟩;have hb:((x.1:Int)==(z:Int)+1)=true:=beq_iff_eq.mpr (by omega);clear HFT HKT HWT he hn
      go_wp2_with fail
      go_quiet (fail)
      go_wp2
      go_roundw
      case rel=>exact⟨j+1,by omega,by go_num,by rw[HX.out.2.1],by rw[HX.out.2.2],by rw[HX.out.1];exact HG.out.more ((Za.alloc _ _ _).drewN _)⟩
      case measure=>simp[intOf];omega
    · have HX:Hid ((l.take (j+1)).filter (fun c=>decide (c.1≠z+1))=(l.take j).filter (fun c=>decide (c.1≠z+1))++[x]∧YV (l.take (j+1)) (z+1)=K∧ZB (l.take (j+1)) (z+1)=B):=⟨by rw[HFT,if_pos (by simpa using he)],by rw[HKT,if_neg he],by rw[HWT,decide_eq_false he,Bool.or_false]⟩;have hb:((x.1:Int)==(z:Int)+1)=false:=beq_eq_false_iff_ne.mpr (by omega);have HROW:Hid (∀W,Za (fun _=>False) wr W→Row W 244 2 (.slice av n cv) n (((l.take j).filter fun c=>decide (c.1≠z+1)).flatMap Zp)):=fun W hW=>by have:=HG.out.row.kept hW (fun _ _=>id);rw[←hn]at this;exact this
      have HNX:Hid (∀(W w':World)(v':Value),Za (fun _=>False) wr W→Zc W w' 244 2 (.slice av n cv) v' n 1 (((l.take j).filter fun c=>decide (c.1≠z+1)).flatMap Zp) (Zp x)→ZG 244 2 Zp w w' v' ((l.take j).filter (fun c=>decide (c.1≠z+1))++[x])):=by
       intro W w' v' hW hA;rw[hn]at hA HG;exact(HG.out.more hW).next hA
      have b1:n+1≤maxLen:=by unfold maxLen;omega
      have b2:(n+1)*16≤140737488355328:=by omega
      clear HFT HKT HWT he hn
      go_wp2_with fail
      go_quiet (fail)
      go_wp2_with (at_builtin;go_must (refine Zf _ rfl (.tmp 28) (.tmp 30) 130 rfl 244 i0 (.agg #[.int .u64 0,.int .u8 0]) 2 16 Tryz.underlying130 HI.out.1 HI.out.2.1 HI.out.2.2.1 HI.out.2.2.2 rfl (by decide) (.slice av n cv) n _ rfl (HROW.out _ (((Za.alloc _ _ _).drewN _).allocNew _)) ⟨wr.heap.size+1,0,none⟩ 1 1 (Zp x) rfl rfl (fun j u hj=>by simpa using Y8 ((wr.alloc _).drewN _) x _ j u hj) (Ys x) b1 b2 ?_);intro v' w1 hA;have HA:Hid (ZG 244 2 Zp w w1 v' ((l.take j).filter (fun c=>decide (c.1≠z+1))++[x])):=HNX.out _ _ _ (((Za.alloc _ _ _).drewN _).allocNew _) hA;clear hA)
      go_roundw
      case rel=>exact⟨j+1,by omega,by go_num,by rw[HX.out.2.1],by rw[HX.out.2.2],by rw[HX.out.1];exact HA.out⟩
      case measure=>simp[intOf];omega
  · have hjn:j=l.length:=by omega
    subst hjn;obtain⟨d7,e7⟩:=HC.out wr HG.out.kept;have HZ:Hid (Zl w b D k nd.p.dropNext (wr.setCell ⟨g,k*8+4,none⟩ (.slice av n cv))):=HF.out _ _ (by have:=HG.out;rwa [List.take_length]at this);have HTK:Hid (l.take l.length=l):=List.take_length;clear hn;go_wp2;go_ret2;exact⟨by rw[HTK.out];rfl,HZ.out⟩
theorem ZjE (w:World)(b k g:Nat)(D:Ze)(nd:Zn)(c:Nat×Int)(h:Dev w b D)(hnd:D.nodes[k]?=some nd)(ho:D.vn.ownBlock=some g)(hl:nd.p.hists.length≤1000):
 Calls Tryz.prog 163 #[.pointer (some ⟨g,k*8,none⟩),.agg #[.int .u64 (c.1:Int),.int .u8 c.2]] w fun e w'=>e=.returned (.tuple #[])∧Hid (Zl w b D k {nd.p with hists:=Ye nd.p.hists c} w'):=by
 obtain⟨av,cv,hv,_⟩:=(h.hists nd (List.mem_of_getElem? hnd)).form;have c3:w.cell? ⟨g,k*8+3,none⟩=some nd.hs:=h.nodeC hnd ho 3 (by omega) _ rfl;have hgl:g<w.heap.size:=World.block_lt_of_cell? w _ c3;obtain⟨l,hll⟩:∃l,l=nd.p.hists:=⟨_,rfl⟩;rw[hv,←hll]at c3;rw[←hll]at hl;have HD:=hid h;have HV:Hid (nd.hs=.slice av l.length cv):=by rw[hll];exact hv
 have HN:Hid (D.nodes[k]?=some nd∧D.vn.ownBlock=some g∧nd.p.hists=l):=⟨hnd,ho,hll.symm⟩;rw[←hll];clear h hv hnd ho hll;go_enter Tryz.func163,Tryz.ntmps163
 go_wp2_with fail
 obtain⟨W,hW⟩:∃W,W=w.alloc (.cells #[.int .u64 (c.1:Int),.int .u8 c.2] 244):=⟨_,rfl⟩;have kW:Za (fun _=>False) w W:=by rw[hW];exact Za.alloc _ _ _
 have bW:Blk W w.heap.size 244 #[.int .u64 (c.1:Int),.int .u8 c.2]:=by rw[hW];exact Blk.new _ _ _
 rw[←hW];have HDW:Hid (Dev W b D):=HD.out.kept kW (fun _ _=>id);have HKW:=hid kW;have hgw:g<W.heap.size:=Nat.lt_of_lt_of_le hgl kW.size;have d3:=kW.hold c3;have z0:W.cell? ⟨w.heap.size,0,none⟩=some (.int .u64 (c.1:Int)):=bW.cell 0;have z1:W.cell? ⟨w.heap.size,1,none⟩=some (.int .u8 c.2):=bW.cell 1;clear hW kW bW c3;obtain⟨i0,hi,hz0,hz1,hz2⟩:=info_parts Tryz.infoHist;have HI:Hid (Tryz.prog.info? 244=some i0∧i0.zero=some (.agg #[.int .u64 0,.int .u8 0])∧i0.size=2∧i0.bytes=16):=⟨hi,hz0,hz1,hz2⟩;clear hi hz0 hz1 hz2;have qb:∀o:Obj,(W.alloc o).cell? ⟨g,k*8+3,none⟩=some (.slice av l.length cv):=fun o=>(World.cell?_alloc_past _ _ _ hgw).trans d3;have HROW:Hid (∀o:Obj,Row ((W.alloc o).drew) 244 2 (.slice av l.length cv) l.length (l.flatMap Zp)):=fun o=>by rw[←HV.out,←HN.out.2.2];exact(HDW.out.hists nd (List.mem_of_getElem? HN.out.1)).kept ((Za.alloc W o (fun _=>False)).drew) (fun _ _=>id)
 have HAP:Hid (∀(o:Obj)(w':World)(v':Value),Zc ((W.alloc o).drew) w' 244 2 (.slice av l.length cv) v' l.length 1 (l.flatMap Zp) (Zp c)→w'.cell? ⟨g,k*8+3,none⟩=some (.slice av l.length cv)∧w'.frozen? ⟨g,k*8+3,none⟩=false∧Hid (∃nd1:Zn,nd1.p={nd.p with hists:=l++[c]}∧nd1.hs=v'∧Zv W b D (w'.setCell ⟨g,k*8+3,none⟩ v') (D.putN k nd1))):=fun o w' v' hA=>by
  obtain⟨q1,q2,q3⟩:=HDW.out.appIn HN.out.1 HN.out.2.1 0 ⟨244,2,nd.hs,nd.p.hists.length,nd.p.hists.flatMap Zp⟩ rfl HV.out ((Za.alloc W o (fun _=>False)).drew) hA;refine⟨by rw[←HV.out];exact q1 3 _ (by omega) rfl,q2 _,_,rfl,rfl,HDW.out.putHists HN.out.1 HN.out.2.1 (l++[c]) v' (by rw[HV.out];exact q3.kept) (Vc q3.row) (fun x hx=>by rw[HV.out];exact q3.new x hx)⟩
 have b1:l.length+1≤maxLen:=by unfold maxLen;omega
 have b2:(l.length+1)*16≤140737488355328:=by omega
 go_region_law (refine Zw rfl (.tmp 11) (.tmp 13) 130 rfl 244 i0 (.agg #[.int .u64 0,.int .u8 0]) 2 16 Tryz.underlying130 HI.out.1 HI.out.2.1 HI.out.2.2.1 HI.out.2.2.2 rfl (Nat.succ_pos 1) (.slice av l.length cv) l.length (l.flatMap Zp) rfl (HROW.out _) ⟨W.heap.size,0,none⟩ 1 1 (Zp c) rfl rfl (fun j u hj=>Y8 W c _ j u hj) (Ys c) b1 b2 ?_;intro v' w' hA;obtain⟨p1,p2,p4⟩:=HAP.out _ _ _ hA;obtain⟨ao',cap',hv',_⟩:=hA.row.form;clear hA;subst hv')
 all_goals
  obtain⟨nd1,hp1,hs1,hB⟩:=p4.out;generalize hW2:w'.setCell ⟨g,k*8+3,none⟩ (.slice ao' (l.length+1) cap')=W2 at hB⊢;have hnd1:(D.putN k nd1).nodes[k]?=some nd1:=ZY nd1 HN.out.1;have e3:W2.cell? ⟨g,k*8+3,none⟩=some (.slice ao' (l.length+1) cap'):=by rw[←hs1];exact hB.1.nodeC hnd1 HN.out.2.1 3 (by omega) _ rfl
  have g3:W2.frozen? ⟨g,k*8+3,none⟩=false:=hB.1.nodeF HN.out.2.1 _;have HB:=hid hB;have HP1:Hid (nd1.p={nd.p with hists:=l++[c]}∧(D.putN k nd1).nodes[k]?=some nd1):=⟨hp1,hnd1⟩;have HS1:=hid hs1;clear p1 p2 p4 qb d3 z0 z1 hW2 hp1 hs1 hB hnd1 HROW HAP;by_cases h6:l.length+1≤6
  · have hd:(l.length:Int)+1≤6:=by omega
    have hd':l.length≤5:=by omega
    have HZ:Hid (Zl w b D k {nd.p with hists:=Ye l c} W2):=by
     refine Zl.from HKW.out ⟨nd1,?_,HB.out⟩;rw[HP1.out.1,Ye,if_pos h6]
    go_wp2
    (try simp only[Exit.inBlock,Exit.then]);refine bodyPost_ret (results_none rfl _ _ _) rfl ?_
    exact⟨rfl,HZ.out⟩
  · have hd:¬(l.length:Int)+1≤6:=by omega
    have hd':¬l.length≤5:=by omega
    have hr1:=HB.out.1.hists nd1 (List.mem_of_getElem? HP1.out.2);obtain⟨L,hL⟩:∃L,L=l++[c]:=⟨_,rfl⟩;have hLl:L.length=l.length+1:=by rw[hL];simp
    rw[HP1.out.1]at hr1;dsimp only at hr1;rw[←hL]at hr1;obtain⟨ao2,cap2,hv2,hp2⟩:=hr1.pairs;have HP:Hid (∀j (hj:j<L.length),∃gw,ao'=some ⟨gw,0,none⟩∧gw<W2.heap.size∧W2.cell? ⟨gw,j*2,none⟩=some (.int .u64 (L[j].1:Int))∧W2.cell? ⟨gw,j*2+1,none⟩=some (.int .u8 L[j].2)):=by
     have e:=HS1.out;rw[hv2,hLl]at e;injection e with e1 e2 e3;rw[←e1];exact hp2
    have HF:Hid (∀(v:Value)(wr:World),ZG 244 2 Zp W2 wr v (L.eraseIdx 0)→Zl w b D k {nd.p with hists:=Ye l c} (wr.setCell ⟨g,k*8+3,none⟩ v)):=fun v wr hG=>by
     have s:=HB.out.1.putHists HP1.out.2 HN.out.2.1 (L.eraseIdx 0) v (hG.kept.mono (fun _=>False.elim)) hG.row hG.own;rw[ZJ]at s;refine Zl.from HKW.out ⟨_,?_,HB.out.trans s⟩;dsimp only;rw[HP1.out.1,Ye,if_neg h6,hL];simp
    have hgl2:g<W2.heap.size:=World.block_lt_of_cell? W2 _ e3;have HC:Hid (∀W',Za (fun _=>False) W2 W'→W'.cell? ⟨g,k*8+3,none⟩=some (.slice ao' (l.length+1) cap')∧W'.frozen? ⟨g,k*8+3,none⟩=false):=fun W' hW=>⟨hW.hold e3,(World.frozen?_of_block (a:=⟨g,k*8+3,none⟩) (hW.block g hgl2 id)).trans g3⟩;clear hr1 hv2 hp2 hL g3;go_wp2
    go_loopw [4,28] (fun v iv wr=>∃j:Nat,j≤L.length∧iv=.int .i64 j∧Hid (ZG 244 2 Zp W2 wr v (tkL L 0 j))) (fun _ iv _=>L.length-(intOf iv).toNat)
    case atStart=>exact⟨0,Nat.zero_le _,rfl,by rw[show tkL L 0 0=[] by simp[tkL]];exact ZG.start _ _ _ _⟩
    case round=>
     obtain⟨j,hj,rfl,HG⟩:=hrel;obtain⟨au,cu,hvv,_⟩:=HG.out.row.form;have hfl:=ZdZ L 0 j;obtain⟨n,hn⟩:∃n,n=(tkL L 0 j).length:=⟨_,rfl⟩;rw[←hn]at hvv hfl;subst hvv;by_cases hlt:j<L.length
     · obtain⟨gw,hao,hgw',q0,q1⟩:=HP.out j hlt;have HTN:=ZcC L 0 j hlt;have HTS:=ZcB L 0;obtain⟨y,hy⟩:∃y,y=L[j]:=⟨_,rfl⟩;rw[←hy]at q0 q1 HTN;have d0:=HG.out.kept.hold q0;have d1:=HG.out.kept.hold q1;have hj0:(0:Int)≤(j:Int):=by omega
       have hj1:(j:Int)<(l.length:Int)+1:=by omega
       clear hy q0 q1 hgw';subst hao;by_cases he:j=0
       · have HX:Hid (tkL L 0 (j+1)=tkL L 0 j):=by show _=_;rw[he];exact HTS (by omega)
         have hb:¬0<j:=by omega
         clear HTN HTS he hn;go_wp2
         go_roundw
         case rel=>exact⟨j+1,by omega,by go_num,by rw[HX.out];exact HG.out.more (Za.alloc _ _ _)⟩
         case measure=>simp[intOf];omega
       · have HX:Hid (tkL L 0 (j+1)=tkL L 0 j++[y]):=HTN he;have hb:0<j:=by omega
         have HROW:Hid (∀o o',Row ((wr.alloc o).alloc o') 244 2 (.slice au n cu) n ((tkL L 0 j).flatMap Zp)):=fun o o'=>by have:=(HG.out.row.kept (Za.alloc wr o (fun _=>False)) (fun _ _=>id)).kept (Za.alloc _ o' (fun _=>False)) (fun _ _=>id);rw[←hn]at this;exact this
         have HNX:Hid (∀(o o':Obj)(w':World)(v':Value),Zc ((wr.alloc o).alloc o') w' 244 2 (.slice au n cu) v' n 1 ((tkL L 0 j).flatMap Zp) (Zp y)→ZG 244 2 Zp W2 w' v' (tkL L 0 j++[y])):=by
          intro o o' w' v' hA;rw[hn]at hA HG;exact(HG.out.more ((Za.alloc wr o (fun _=>False)).allocNew o')).next hA
         have b3:n+1≤maxLen:=by unfold maxLen;omega
         have b4:(n+1)*16≤140737488355328:=by omega
         clear HTN HTS he hn
         go_wp2_with (at_builtin;go_must (refine Zf _ rfl (.tmp 35) (.tmp 37) 130 rfl 244 i0 (.agg #[.int .u64 0,.int .u8 0]) 2 16 Tryz.underlying130 HI.out.1 HI.out.2.1 HI.out.2.2.1 HI.out.2.2.2 rfl (by decide) (.slice au n cu) n _ rfl (HROW.out _ _) ⟨wr.heap.size+1,0,none⟩ 1 1 (Zp y) rfl rfl (fun j u hj=>by simpa using Y8 (wr.alloc _) y _ j u hj) (Ys y) b3 b4 ?_);intro v' w1 hA;have HA:Hid (ZG 244 2 Zp W2 w1 v' (tkL L 0 j++[y])):=HNX.out _ _ _ _ hA;clear hA)
         go_roundw
         case rel=>exact⟨j+1,by omega,by go_num,by rw[HX.out];exact HA.out⟩
         case measure=>simp[intOf];omega
     · have hjn:j=L.length:=by omega
       subst hjn;obtain⟨d7,e7⟩:=HC.out wr HG.out.kept;have HZ:Hid (Zl w b D k {nd.p with hists:=Ye l c} (wr.setCell ⟨g,k*8+3,none⟩ (.slice au n cu))):=HF.out _ _ (by have:=HG.out;rwa [Zdw]at this);clear hn;go_wp2
       go_end0
       exact⟨rfl,HZ.out⟩
end Go.Proofs.YtpfcacedpkaihaaGreat
