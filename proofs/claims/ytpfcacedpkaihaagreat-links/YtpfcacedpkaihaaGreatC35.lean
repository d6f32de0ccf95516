import Derived.Test.YtpfcacedpkaihaaGreatC34
namespace Go.Proofs.YtpfcacedpkaihaaGreat
open Go.RowKit
set_option maxRecDepth 100000
set_option maxHeartbeats 16000000
theorem Zh8 {l:List Zj}{t i:Nat}{es:List Zh}(h:i<es.length)(hs:YU l t es[i]=es[i]):ZI l t es (i+1)=ZI l t es i:=by
 rw[Zao l t es i h,hs];exact XT (Zab l t es i h)
theorem Zjs (w:World)(b k:Nat)(R:Zd)(nd:Zi)(h:Ref w b R)(hf:R.Fit)(hnd:R.nodes[k]?=some nd)(hb:Ze4 R nd.p):
 Calls Tryz.prog 116 #[.pointer (some ⟨b,0,none⟩),.int .i64 (k:Int)] w fun e w'=>e=.returned (.tuple #[])∧Zm w b R k (Yo R.past nd.p) w':=by
 obtain⟨hk,hnd'⟩:=List.getElem?_eq_some_iff.mp hnd;obtain⟨g,cap,hv,ho,hgl⟩:=h.nodes.block (by omega);have hpm:=hf.pmax;have hnm:=hf.nmax;have HRT:Hid (Zm w b R k nd.p w):=Zm.refl h hnd;have HFT:Hid (R.Fit∧nd∈R.nodes):=⟨hf,List.mem_of_getElem? hnd⟩;have HFIT:Hid (∀nd':Zi,nd'.fls=nd.fls→nd'.horizon≤700→(R.putN k nd').Fit):=fun nd' e1 e2=>Fit.putN hf (by rw[e1];exact⟨(hf.fmax nd (List.mem_of_getElem? hnd)).1,e2,(hf.fmax nd (List.mem_of_getElem? hnd)).2.2⟩);have HTO:Hid (∀(W:World)(p:ZD)(t:Nat)(K:Int)(pk:Zj),Zm w b R k p W→p.fls=nd.fls→p.horizon≤700→R.past[t]?=some pk→Calls Tryz.prog 141 #[.pointer (some ⟨b,0,none⟩),.int .u64 t,.int .u8 K] W fun e w'=>e=.returned (.bool (bits .and .u8 pk.keys K !=0))∧W=w'):=fun W p t K pk hT e1 e2 hp=>by
  obtain⟨nd',e3,hB⟩:=hT;subst e3;exact Zci W b (R.putN k nd') t K pk hB.1 (HFIT.out nd' e1 e2) hp
 have HPA:Hid (∀(s:ByteArray)(W:World),s.size≤maxLen→Calls Tryz.prog 26 #[.string s] W fun e w'=>∃y er:Int,e=.returned (.tuple #[.agg #[.int .u8 (Xk s),.int .i64 y],.int .i64 er])∧Za (fun _=>False) W w'):=fun s W hs=>(Zay s W hs).mono fun e w' hp=>⟨_,_,hp.1,Za.of_below hp.2 _⟩;have HCL:Hid (∀(W:World)(p:ZD),Zm w b R k p W→∃ae ce aw cw,W.cell? ⟨b,3,none⟩=some (.slice (some ⟨g,0,none⟩) R.nodes.length cap)∧W.cell? ⟨g,k*7+2,none⟩=some (.int .u64 (p.horizon:Int))∧W.cell? ⟨g,k*7+4,none⟩=some (.slice aw p.wts.length cw)∧W.cell? ⟨g,k*7+5,none⟩=some (.slice ae p.ents.length ce)∧(∀i,W.frozen? ⟨g,i,none⟩=false)∧
  ∀i (hi:i<p.ents.length),∃ge,ae=some ⟨ge,0,none⟩∧ge≠g∧ge≠b∧(∀f u,(Zk p.ents[i])[f]?=some u→W.cell? ⟨ge,i*6+f,none⟩=some u)∧(∀f,W.frozen? ⟨ge,f,none⟩=false)∧∀e,Zm w b R k {p with ents:=p.ents.set i e} (set6 W ge (i*6) e)):=fun W p hT=>hT.cells hk hv ho
 have HHZ:Hid (∀(W:World)(p:ZD)(t:Nat),Zm w b R k p W→Zm w b R k {p with horizon:=t} (W.setCell ⟨g,k*7+2,none⟩ (.int .u64 (t:Int)))):=fun W p t hT=>by
  refine hT.next fun nd' e1 hR=> ?_;have:=hR.setHzB (List.getElem?_set_self hk) (show(R.putN k nd').vn.ownBlock=some g from ho) t;rw[e1]at this;exact this
 have HWA:Hid (∀(W:World)(p:ZD)(t:Nat),Zm w b R k p W→p.wts.length≤1000→Calls Tryz.prog 115 #[.pointer (some ⟨b,0,none⟩),.int .i64 (k:Int),.int .u64 (t:Int)] W fun e w'=>e=.returned (.int .i64 (YX p.wts t))∧W=w'):=fun W p t hT hl=>by
  obtain⟨nd',e3,hB⟩:=hT;subst e3;exact Zjr W b k t (R.putN k nd') nd' hB.1 (by show(R.nodes.set k nd').length≤3;rw[List.length_set];exact hnm) (List.getElem?_set_self hk) hl
 have HWS:Hid (∀(W W2:World)(p:ZD)(i n cw:Nat)(aw:Option Addr),Zm w b R k p W→W.cell? ⟨g,k*7+4,none⟩=some (.slice aw n cw)→p.wts.length=n→n≤1000→i<n→Za (fun _=>False) W W2→Calls Tryz.prog 114 #[.slice aw n cw,.int .i64 (i:Int)] W2 fun e w'=>∃ao c',e=.returned (.slice ao (n-1) c')∧w'.cell? ⟨b,3,none⟩=some (.slice (some ⟨g,0,none⟩) R.nodes.length cap)∧w'.cell? ⟨g,k*7+4,none⟩=some (.slice aw n cw)∧w'.frozen? ⟨g,k*7+4,none⟩=false∧Hid (Zm w b R k {p with wts:=p.wts.eraseIdx i} (w'.setCell ⟨g,k*7+4,none⟩ (.slice ao (n-1) c')))):=fun W W2 p i n cw aw hT c4 hn hn2 hi hW=>by
  subst hn;obtain⟨nd',e3,hB⟩:=hT;subst e3;have hnd2:(R.putN k nd').nodes[k]?=some nd':=List.getElem?_set_self hk;have hwt:nd'.wt=.slice aw nd'.wts.length cw:=by
   have:=XS hB.1 hk ho 4 (by omega) nd'.wt rfl;rw[c4]at this;injection this with this;exact this.symm
  have hr:=(hB.1.wts nd' (List.mem_of_getElem? hnd2)).kept hW (fun _ _=>id);rw[hwt]at hr;refine(Xm hr rfl hi hn2).mono fun e w' hp=> ?_;obtain⟨v,e1,r1,k1,o1⟩:=hp;obtain⟨ao,c',hv',_⟩:=r1.form;subst e1 hv';have hkk:Za (fun _=>False) W w':=hW.trans k1 (fun _=>id) (fun _ _=>id);have hsz:=hW.size;have hR':=hB.1.kept hkk (fun _ _=>id);have d3:=hR'.c3;have e2:(R.putN k nd').vn=R.vn:=rfl;rw[e2,hv]at d3;obtain⟨n2,e4,hB2⟩:=hB.1.setWtB hnd2 (show(R.putN k nd').vn.ownBlock=some g from ho) (nd'.wts.eraseIdx i) (.slice ao (nd'.wts.length-1) c') (hkk.mono fun _=>False.elim) (by have hi':i<nd'.wts.length:=hi;rw[List.length_eraseIdx_of_lt hi'];exact r1) (fun x hx=>.inr (by have:=o1 x hx;omega));refine⟨ao,c',rfl,d3,hkk.hold c4,hR'.nodes.free ho _,n2,e4,?_⟩;have hB3:=hB.trans hB2;rw[show(R.putN k nd').putN k n2=R.putN k n2 by simp[Zd.putN,List.set_set]]at hB3;exact hB3
 have HB0:=hid hb;obtain⟨P0,hP0⟩:∃P0,P0=nd.p:=⟨_,rfl⟩;obtain⟨F0,hF0⟩:∃F0,F0=nd.fls:=⟨_,rfl⟩;have HPF:Hid (P0.fls=F0):=by rw[hP0,hF0];rfl
 rw[←hP0]at HRT HB0⊢;rw[←hF0]at HTO;have hk0:(0:Int)≤(k:Int):=by omega
 have hk1:(k:Int)<(R.nodes.length:Int):=by omega
 have hgb:g≠b:=fun e=>h.nodes.ne_block h.blk (by decide) (by rw[ho,e]);have hbg:b≠g:=Ne.symm hgb;clear h hf hnd hnd' hb hP0 hF0 hv ho HFIT;go_enter Tryz.func116,Tryz.ntmps116;go_wp2
 go_loopw [4] (fun _ wr=>∃p,Hid (Zm w b R k p wr∧Ze4 R p∧p.fls=F0∧Yo R.past p=Yo R.past P0)) (fun _ wr=>match wr.cell? ⟨g,k*7+4,none⟩with|some (.slice _ n _)=>n|_=>0)
 case atStart=>exact⟨P0,HRT.out,HB0.out,HPF.out,rfl⟩
 case round=>
  obtain⟨p,HO⟩:=hrel;obtain⟨ae,ce,aw,cw,c3,c2,c4,c5,cf,_⟩:=HCL.out _ _ HO.out.1;have hz:=HO.out.2.1.hz;obtain⟨t,ht⟩:∃t,t=p.horizon+1:=⟨_,rfl⟩;have HTT:=hid ht;have htl:t<R.past.length:=by omega
  have hpt:R.past[t]?=some R.past[t]:=List.getElem?_eq_getElem htl;obtain⟨pk,hpk⟩:∃pk,pk=R.past[t]:=⟨_,rfl⟩;have HPK:Hid (R.past[t]?=some pk):=by rw[hpk];exact hpt
  have htI:(p.horizon:Int)+1=(t:Int):=by omega
  have HH0:Hid (Zm w b R k {p with horizon:=t} (wr.setCell ⟨g,k*7+2,none⟩ (.int .u64 (t:Int)))):=HHZ.out _ _ t HO.out.1;obtain⟨es,hes⟩:∃es,es=p.ents:=⟨_,rfl⟩;have HES:=hid hes;have hel:es.length≤1000:=by rw[hes];exact HO.out.2.1.el
  clear hpt hpk ht hes;go_wp2
  go_loopw [5] (fun iv wx=>∃i:Nat,i≤es.length∧iv=.int .i64 i∧Hid (Zm w b R k {p with horizon:=t,ents:=ZI R.past t es i} wx)) (fun iv _=>es.length-(intOf iv).toNat)
  case atStart=>exact⟨0,Nat.zero_le _,rfl,by have:=HH0.out;rw[ZcE,HES.out];exact this⟩
  case round=>
   obtain⟨i,hi,rfl,HI⟩:=hrel;obtain⟨ae1,ce1,aw1,cw1,d3,d2,d4,d5,df,hent⟩:=HCL.out _ _ HI.out;have hpl:(ZI R.past t es i).length=es.length:=Zd0 R.past t es i hi;have d5':wr.cell? ⟨g,k*7+5,none⟩=some (.slice ae1 es.length ce1):=by rw[←hpl];exact d5
   have d2':wr.cell? ⟨g,k*7+2,none⟩=some (.int .u64 (t:Int)):=d2;have d4':wr.cell? ⟨g,k*7+4,none⟩=some (.slice aw1 p.wts.length cw1):=d4;clear d5 d2 d4;by_cases hil:i<es.length
   · obtain⟨ge,hae,hgg,hggb,hc,hfr,hst⟩:=hent i (by show i<(ZI R.past t es i).length;omega);have hxe:(ZI R.past t es i)[i]'(by omega)=es[i]:=by
      have:=Zab R.past t es i hil;rw[List.getElem?_eq_getElem (by omega)]at this;injection this
     obtain⟨x,hx⟩:∃x,x=es[i]:=⟨_,rfl⟩;have hc':∀f u,(Zk x)[f]?=some u→wr.cell? ⟨ge,i*6+f,none⟩=some u:=fun f u hu=>hc f u (by show(Zk ((ZI R.past t es i)[i]'_))[f]?=_;rw[hxe,←hx];exact hu);have f0:wr.cell? ⟨ge,i*6,none⟩=some (.string x.q):=hc' 0 _ rfl;have f1:wr.cell? ⟨ge,i*6+1,none⟩=some (.int .i32 x.val):=hc' 1 _ rfl;have f2:wr.cell? ⟨ge,i*6+2,none⟩=some (.int .u64 (x.fr:Int)):=hc' 2 _ rfl;have f3:wr.cell? ⟨ge,i*6+3,none⟩=some (.int .u64 (x.till:Int)):=hc' 3 _ rfl;have f4:wr.cell? ⟨ge,i*6+4,none⟩=some (.bool x.op):=hc' 4 _ rfl;have f5:wr.cell? ⟨ge,i*6+5,none⟩=some (.int .u64 (x.kn:Int)):=hc' 5 _ rfl;have HXS:Hid (x.q.size≤maxLen∧x=es[i]):=⟨HO.out.2.1.eq x (by rw[←HES.out,hx];exact List.getElem_mem hil),hx⟩;have hi0:(0:Int)≤(i:Int):=by omega
     have hi1:(i:Int)<(es.length:Int):=by omega
     have HTC:Hid (∀W,Za (fun _=>False) wr W→Calls Tryz.prog 141 #[.pointer (some ⟨b,0,none⟩),.int .u64 t,.int .u8 (Xk x.q)] W fun e w'=>e=.returned (.bool (ZU R.past (Xk x.q) t))∧W=w'):=fun W hW=>by
      rw[Xb _ HPK.out];exact HTO.out W {p with horizon:=t,ents:=ZI R.past t es i} t _ pk (HI.out.kept hW) HO.out.2.2.1 (by show t≤700;omega) HPK.out
     subst hae;obtain⟨y,hy⟩:∃y,y=ZU R.past (Xk x.q) t:=⟨_,rfl⟩;have HY:=hid hy;rw[←hy]at HTC;clear hc hc' hxe hx hent hst hy;by_cases hC:x.op=true∧x.kn<t∧y=true
     · obtain⟨hop,hkn,hyt⟩:=hC;have hkk:(x.kn:Int)<(t:Int):=by omega
       rw[hop]at f4
       go_wp2_with first
        |(go_at_call 26;refine(HPA.out x.q _ HXS.out.1).mono ?_;rintro e w2 ⟨y2,er,rfl,hk2⟩;have HK2:Hid (Za (fun _=>False) wr w2):=(Za.alloc _ _ _).trans hk2 (fun _=>id) (fun _ _=>id);have bX:=(Blk.new wr _ _).kept hk2 id;have g4:∀o:Obj,(w2.alloc o).cell? ⟨wr.heap.size,4,none⟩=some (.bool true):=fun o=>Zg (bX.cell 4);have g5:∀o:Obj,(w2.alloc o).cell? ⟨wr.heap.size,5,none⟩=some (.int .u64 (x.kn:Int)):=fun o=>Zg (bX.cell 5);have h3:∀o:Obj,((w2.setCell ⟨wr.heap.size,4,none⟩ (.bool false)).alloc o).cell? ⟨wr.heap.size,3,none⟩=some (.int .u64 (x.till:Int)):=fun o=>Zg ((bX.set 4 (.bool false)).cell 3);have h3f:∀(o:Obj)(f:Nat),((w2.setCell ⟨wr.heap.size,4,none⟩ (.bool false)).alloc o).frozen? ⟨wr.heap.size,f,none⟩=false:=fun o f=>((bX.set 4 (.bool false)).kept (Za.alloc _ o (fun _=>False)) id).free f;have hbz:=bX.lt;have hfz:∀(o:Obj)(f:Nat),(w2.alloc o).frozen? ⟨wr.heap.size,f,none⟩=false:=fun o f=>(bX.kept (Za.alloc w2 o (fun _=>False)) id).free f;have HBX:Hid (Blk w2 wr.heap.size 55 #[.string x.q,.int .i32 x.val,.int .u64 (x.fr:Int),.int .u64 (x.till:Int),.bool true,.int .u64 (x.kn:Int)]):=bX;have g3:∀o:Obj,(w2.alloc o).cell? ⟨wr.heap.size,3,none⟩=some (.int .u64 (x.till:Int)):=fun o=>Zg (bX.cell 3);clear hk2 bX)
        |(go_at_call 141;refine(HTC.out _ (HK2.out.allocNew _)).mono ?_;rintro e w3 ⟨rfl,rfl⟩)
       have kA:Za (fun j=>j=wr.heap.size) wr (((w2.setCell ⟨wr.heap.size,4,none⟩ (.bool false)).setCell ⟨wr.heap.size,3,none⟩ (.int .u64 (t:Int))).alloc (.cells #[.int .u8 (Xk x.q),.int .i64 y2] 70)):=((HK2.out.trans (Za.setCell w2 ⟨wr.heap.size,4,none⟩ (.bool false)) (H:=fun j=>j=wr.heap.size) (fun _=>False.elim) (fun _ _=>id)).trans (Za.setCell _ ⟨wr.heap.size,3,none⟩ (.int .u64 (t:Int))) (fun _=>id) (fun _ _=>id)).trans (Za.alloc _ _ (fun _=>False)) (fun _=>id) (fun _ _=>False.elim);have bA:=((HBX.out.set 4 (.bool false)).set 3 (.int .u64 (t:Int))).kept (Za.alloc _ (.cells #[.int .u8 (Xk x.q),.int .i64 y2] 70) (fun _=>False)) id;generalize (((w2.setCell ⟨wr.heap.size,4,none⟩ (.bool false)).setCell ⟨wr.heap.size,3,none⟩ (.int .u64 (t:Int))).alloc (.cells #[.int .u8 (Xk x.q),.int .i64 y2] 70))=W9 at kA bA⊢;have b0:W9.cell? ⟨wr.heap.size,0,none⟩=some (.string x.q):=bA.cell 0;have b1:W9.cell? ⟨wr.heap.size,1,none⟩=some (.int .i32 x.val):=bA.cell 1;have b2:W9.cell? ⟨wr.heap.size,2,none⟩=some (.int .u64 (x.fr:Int)):=bA.cell 2;have b3:W9.cell? ⟨wr.heap.size,3,none⟩=some (.int .u64 (t:Int)):=bA.cell 3;have b4:W9.cell? ⟨wr.heap.size,4,none⟩=some (.bool false):=bA.cell 4;have b5:W9.cell? ⟨wr.heap.size,5,none⟩=some (.int .u64 (x.kn:Int)):=bA.cell 5;have HI9:Hid (Zm w b R k {p with horizon:=t,ents:=ZI R.past t es i} W9):=HI.out.far kA (fun j hj=>by omega);obtain⟨ae2,ce2,aw2,cw2,e3,_,_,e5,ef,hent2⟩:=HCL.out _ _ HI9.out;obtain⟨ge2,hae2,hgg2,hggb2,hc2,hfr2,hst2⟩:=hent2 i (by show i<(ZI R.past t es i).length;omega);have e5':W9.cell? ⟨g,k*7+5,none⟩=some (.slice (some ⟨ge2,0,none⟩) es.length ce2):=by rw[←hpl,←hae2];exact e5
       have hxe2:(ZI R.past t es i)[i]'(by omega)=x:=by
        have:=Zab R.past t es i hil;rw[List.getElem?_eq_getElem (by omega)]at this;injection this with this;rw[this,←HXS.out.2]
       have hc3:∀f u,(Zk x)[f]?=some u→W9.cell? ⟨ge2,i*6+f,none⟩=some u:=fun f u hu=>hc2 f u (by show(Zk ((ZI R.past t es i)[i]'_))[f]?=_;rw[hxe2];exact hu);have m0:W9.cell? ⟨ge2,i*6,none⟩=some (.string x.q):=hc3 0 _ rfl;have m1:W9.cell? ⟨ge2,i*6+1,none⟩=some (.int .i32 x.val):=hc3 1 _ rfl;have m2:W9.cell? ⟨ge2,i*6+2,none⟩=some (.int .u64 (x.fr:Int)):=hc3 2 _ rfl;have m3:W9.cell? ⟨ge2,i*6+3,none⟩=some (.int .u64 (x.till:Int)):=hc3 3 _ rfl;have m4:W9.cell? ⟨ge2,i*6+4,none⟩=some (.bool x.op):=hc3 4 _ rfl;have m5:W9.cell? ⟨ge2,i*6+5,none⟩=some (.int .u64 (x.kn:Int)):=hc3 5 _ rfl;have HNX:Hid (Zm w b R k {p with horizon:=t,ents:=ZI R.past t es (i+1)} (set6 W9 ge2 (i*6) {x with op:=false,till:=t})):=by
        have hz2:=hst2 {x with op:=false,till:=t};have e6:YU R.past t es[i]={x with op:=false,till:=t}:=by
         rw[←HXS.out.2];unfold YU;rw[if_pos ⟨hop,hkn,by rw[←HY.out];exact hyt⟩]
        rw[Zao R.past t es i hil,e6];exact hz2
       have hgs:ge<wr.heap.size:=World.block_lt_of_cell? wr _ f0;have hbw:b≠wr.heap.size:=Nat.ne_of_lt (World.block_lt_of_cell? wr _ d3);have hgw:g≠wr.heap.size:=Nat.ne_of_lt (World.block_lt_of_cell? wr _ d5');have hee:ge2=ge:=by
        have:=kA.keep (show¬g=wr.heap.size from hgw) d5';rw[e5']at this;injection this with this;injection this with this _ _;injection this with this;injection this
       have nwg:wr.heap.size≠ge2:=by omega
       have nwg2:ge2≠wr.heap.size:=by omega
       clear hee hgs;clear hc2 hc3 hst2 hent2 hxe2 e5 bA kA g3 g4 g5 h3 h3f hfz d3 d5' d2' d4' f0 f1 f2 f3 f4 f5;have hbz9:b≠wr.heap.size:=hbw;have o0:W9.drew.cell? ⟨ge2,i*6,none⟩=some (.string x.q):=m0;have o1:W9.drew.cell? ⟨ge2,i*6+1,none⟩=some (.int .i32 x.val):=m1;have o2:W9.drew.cell? ⟨ge2,i*6+2,none⟩=some (.int .u64 (x.fr:Int)):=m2;have o3:W9.drew.cell? ⟨ge2,i*6+3,none⟩=some (.int .u64 (x.till:Int)):=m3;have o4:W9.drew.cell? ⟨ge2,i*6+4,none⟩=some (.bool x.op):=m4;have o5:W9.drew.cell? ⟨ge2,i*6+5,none⟩=some (.int .u64 (x.kn:Int)):=m5;have off:∀f,W9.drew.frozen? ⟨ge2,f,none⟩=false:=hfr2;have ngb:b≠ge2:=Ne.symm hggb2;have ngg:g≠ge2:=Ne.symm hgg2
       go_region_held3 (fun w'=>w'.cell? ⟨b,3,none⟩=some (.slice (some ⟨g,0,none⟩) R.nodes.length cap)∧w'.cell? ⟨g,k*7+5,none⟩=some (.slice (some ⟨ge2,0,none⟩) es.length ce2)∧w'.cell? ⟨wr.heap.size,0,none⟩=some (.string x.q)∧w'.cell? ⟨wr.heap.size,1,none⟩=some (.int .i32 x.val)∧w'.cell? ⟨wr.heap.size,2,none⟩=some (.int .u64 (x.fr:Int))∧w'.cell? ⟨wr.heap.size,3,none⟩=some (.int .u64 (t:Int))∧w'.cell? ⟨wr.heap.size,4,none⟩=some (.bool false)∧w'.cell? ⟨wr.heap.size,5,none⟩=some (.int .u64 (x.kn:Int))) (go_keep) (fail)
       all_goals
        go_wp2
        go_roundw
        case rel=>exact⟨i+1,by omega,by go_num,by first|exact HNX.out|exact HNX.out.kept ((Za.refl _ _).drew)|exact HNX.out.kept ((Za.refl _ _).drewN _)⟩
        case measure=>simp[intOf];omega
     · have HSK:Hid (ZI R.past t es (i+1)=ZI R.past t es i):=Zh8 hil (by
        rw[←HXS.out.2];unfold YU;rw[if_neg (by rw[←HY.out];exact hC)])
       have hcs:x.op=false∨(x.op=true∧(t:Int)≤(x.kn:Int))∨(x.op=true∧(x.kn:Int)<(t:Int)∧y=false):=by
        cases ho:x.op with
        |false=>exact .inl rfl
        |true=>
         by_cases hkn:x.kn<t
         · refine .inr (.inr ⟨rfl,by omega,?_⟩);cases hyy:y with
           |false=>rfl
           |true=>exact absurd ⟨ho,hkn,hyy⟩ hC
         · exact .inr (.inl ⟨rfl,by omega⟩)
       clear hC;rcases hcs with hop|⟨hop,hkk⟩|⟨hop,hkk,hyf⟩
       all_goals
        rw[hop]at f4
        go_wp2_with first
         |(go_at_call 26;refine(HPA.out x.q _ HXS.out.1).mono ?_;rintro e w2 ⟨y2,er,rfl,hk2⟩;have HK2:Hid (Za (fun _=>False) wr w2):=(Za.alloc _ _ _).trans hk2 (fun _=>id) (fun _ _=>id);have bX:=(Blk.new wr _ _).kept hk2 id;(first|have g4:∀o:Obj,(w2.alloc o).cell? ⟨wr.heap.size,4,none⟩=some (.bool false):=fun o=>Zg (bX.cell 4)|have g4:∀o:Obj,(w2.alloc o).cell? ⟨wr.heap.size,4,none⟩=some (.bool true):=fun o=>Zg (bX.cell 4));have g5:∀o:Obj,(w2.alloc o).cell? ⟨wr.heap.size,5,none⟩=some (.int .u64 (x.kn:Int)):=fun o=>Zg (bX.cell 5);clear hk2 bX)
         |(go_at_call 141;refine(HTC.out _ (HK2.out.allocNew _)).mono ?_;rintro e w3 ⟨rfl,rfl⟩)
        go_roundw
        case rel=>exact⟨i+1,by omega,by go_num,by rw[HSK.out];exact HI.out.kept (HK2.out.allocNew _)⟩
        case measure=>simp[intOf];omega
   · have hie:i=es.length:=by omega
     have HI2:Hid (Zm w b R k (rhearOne R.past p) wr):=by
      have:=HI.out;rw[hie,Zd2,HES.out,HTT.out]at this;exact this
     obtain⟨wv,hwv⟩:∃wv,wv=YX p.wts (t+1):=⟨_,rfl⟩;have HW1:Hid (Calls Tryz.prog 115 #[.pointer (some ⟨b,0,none⟩),.int .i64 (k:Int),.int .u64 ((t:Int)+1)] wr fun e w'=>e=.returned (.int .i64 wv)∧wr=w'):=by rw[hwv,show(t:Int)+1=((t+1:Nat):Int) by omega];exact HWA.out wr (rhearOne R.past p) (t+1) HI2.out HO.out.2.1.wl
     have ht2:IntKind.u64.wrap ((t:Int)+1)=(t:Int)+1:=by simp[IntKind.wrap,IntKind.bits,IntKind.signed];omega
     cases hfi:p.wts.findIdx? (fun x=>decide (x=p.horizon+1+1))with
     |none=>
      have hwn:wv= -1:=by rw[hwv];unfold YX;rw[HTT.out,hfi]
      subst hwn;have HFN:Hid (Zm w b R k (Yo R.past P0) wr):=by rw[←HO.out.2.2.2,ZfG hfi];exact HI2.out
      clear hwv hent hfi
      go_wp2_with (go_at_call 115;go_loud (refine HW1.out.mono ?_);rintro e w2 ⟨rfl,rfl⟩)
      exact bodyPost_ret (v:=.tuple #[]) (by simp[results,Tryz.results116,go_sem]) rfl ⟨rfl,HFN.out⟩
     |some m=>
      have hwn:wv=(m:Int):=by rw[hwv];unfold YX;rw[HTT.out,hfi]
      subst hwn;obtain⟨hml,hme,_⟩:=List.findIdx?_eq_some_iff_getElem.mp hfi;have hmt:p.wts[m]=p.horizon+1+1:=by simpa using hme
      have htop:=HO.out.2.1.wts _ (List.getElem_mem hml);have HNB:Hid (Ze4 R {rhearOne R.past p with wts:=p.wts.eraseIdx m}∧Yo R.past {rhearOne R.past p with wts:=p.wts.eraseIdx m}=Yo R.past P0):=by
       refine⟨⟨?_,fun q hq=>HO.out.2.1.wts q (List.mem_of_mem_eraseIdx hq),Nat.le_trans (List.length_eraseIdx_le ..) HO.out.2.1.wl,?_,?_⟩,?_⟩
       · show p.horizon+1+1<R.past.length;omega
       · show(p.ents.map _).length≤1000;rw[List.length_map];exact HO.out.2.1.el
       · intro e he;have he':e∈p.ents.map (YU R.past (p.horizon+1)):=he;obtain⟨e0,h0,rfl⟩:=List.mem_map.mp he';rw[Zih];exact HO.out.2.1.eq e0 h0
       · rw[←HO.out.2.2.2,Zf1 hfi]
      have hwl:=HO.out.2.1.wl;have hm0:(0:Int)≤(m:Int):=by omega
      have hdm:decide ((m:Int)<0)=false:=by simp
      clear hwv hent hfi hme hmt htop
      go_wp2_with (go_at_call 115;go_loud (refine HW1.out.mono ?_);rintro e w2 ⟨rfl,rfl⟩)
      go_region_with (go_at_call 114;refine(HWS.out wr _ (rhearOne R.past p) m p.wts.length cw1 aw1 HI2.out d4' rfl hwl hml ((Za.refl _ _).drewN _)).mono ?_;rintro e w5 ⟨ao,c',rfl,z3,z5,zf,HB⟩)
      all_goals
       go_wp2
       go_roundw
       case rel=>exact⟨{rhearOne R.past p with wts:=p.wts.eraseIdx m},HB.out,HNB.out.1,HO.out.2.2.1,HNB.out.2⟩
       case measure=>
        obtain⟨_,_,aw9,cw9,_,_,c49,_⟩:=HCL.out _ _ HB.out;have hl9:(p.wts.eraseIdx m).length<p.wts.length:=by rw[List.length_eraseIdx_of_lt hml];omega
        have e1:∀(X:World)(a:Option Addr)(n c:Nat),X.cell? ⟨g,k*7+4,none⟩=some (.slice a n c)→n<p.wts.length→(match X.cell? ⟨g,k*7+4,none⟩with|some (.slice _ n _)=>n|_=>0)<p.wts.length:=fun X a n c hX hn=>by
         rw[hX];exact hn
        refine Nat.lt_of_lt_of_eq (e1 _ _ _ _ c49 hl9) ?_;rw[c4]
end Go.Proofs.YtpfcacedpkaihaaGreat
