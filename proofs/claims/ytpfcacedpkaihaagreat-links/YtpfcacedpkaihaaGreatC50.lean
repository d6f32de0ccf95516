import Derived.Test.YtpfcacedpkaihaaGreatC49
import Derived.Test.YtpfcacedpkaihaaGreatC48
namespace Go.Proofs.YtpfcacedpkaihaaGreat
open Go.RowKit
set_option maxRecDepth 100000
set_option maxHeartbeats 16000000
theorem Zh5 {w:World}{xb cb:Nat}{D:Ze}{R:Zd}(h:ZP w xb cb D R)(hnn:R.uses.length<9223372036854775807)(k i:Int):
 ∃r:Int,Calls Tryz.prog 61 #[.pointer (some ⟨xb,0,none⟩),.int .i64 k,.int .i64 i] w fun e w1=>e=.returned (.int .i64 r)∧
  Xt 62 #[.pointer (some ⟨cb,0,none⟩),.int .i64 k,.int .i64 i] w w1 xb cb D R (.int .i64 r):=by
 refine⟨(D.pu.copy k i).1,(dCopy w xb D k i h.dev (h.good.walk hnn)).mono fun e w1 hp=>⟨hp.1,hp.2.keeps,fun w2 k2=> ?_⟩⟩;have g:=hp.2;refine(rcopy w2 cb R k i (h.ref_after g.keeps k2) h.rfit.nmax fun nd hnd=>by have:=(h.el nd hnd).2.2.1;omega).mono fun e w3 hq=> ?_;rcases Zd4 h.sim k i with⟨hno,hL⟩|⟨j,s,nd,rfl,hs1,hs,hnd,hn,⟨hi,hL⟩|⟨m,c,rfl,hc,hcf,hL⟩⟩
 · have hE:D.pu.copy k i=(9,D.pu):=by unfold DP.copy;rw[hno]
   rw[hE]at g⊢;rcases hq with⟨_,e2,rfl⟩|⟨j,m,nd,x,_,_,_,_,hz,_⟩
   · exact⟨by rw[e2,hL],h.still g k2 (Za.refl _ _),Za.refl _ _⟩
   · omega
 · have hE:D.pu.copy (j:Int) i=(10,D.pu):=by
    unfold DP.copy;rw[hs1];dsimp only;by_cases h0:i<0
    · rw[if_pos h0]
    · rw[if_neg h0,List.getElem?_eq_none (by omega)]
   rw[hE]at g⊢;rcases hq with⟨_,e2,rfl⟩|⟨j,m,nd,x,_,_,_,_,hz,_⟩
   · exact⟨by rw[e2,hL],h.still g k2 (Za.refl _ _),Za.refl _ _⟩
   · omega
 · have hfl:nd.fls.length=s.flight.length:=by have:nd.fls=s.flight.map (·.1):=hn.fls;rw[this,List.length_map]
   rcases hq with⟨hz,_⟩|⟨j',m',nd',x,hj',hm',hnd',hx',_,hq⟩
   · exact absurd hL hz
   · obtain rfl:j=j':=by omega
     obtain rfl:m=m':=by omega
     rw[hnd]at hnd';injection hnd' with hnd';subst hnd';rw[hcf]at hx';injection hx' with hx';subst hx';rcases hq with⟨h12,e2,rfl⟩|⟨h12,e2,hb⟩
     · have hE:D.pu.copy (j:Int) (m:Int)=(6,D.pu):=by
        unfold DP.copy;rw[hs1];dsimp only;rw[if_neg (by omega),Int.toNat_natCast,hc];dsimp only;rw[if_pos (by omega)]
       rw[hE]at g⊢;exact⟨e2,h.still g k2 (Za.refl _ _),Za.refl _ _⟩
     · have hE:D.pu.copy (j:Int) (m:Int)=(0,D.pu.put (j:Int) (s.copy c)):=by
        unfold DP.copy;rw[hs1];dsimp only;rw[if_neg (by omega),Int.toNat_natCast,hc];dsimp only;rw[if_neg (by omega)]
       rw[hE]at g⊢;exact⟨e2,h.turn1 hs hnd g k2 hb (hn.copy (List.mem_of_getElem? hc)) rfl (List.Sublist.refl _) ((h.good.sites s (List.mem_of_getElem? hs)).copy (by omega) hc)⟩
theorem Zf2 (w:World)(pb xb cb:Nat)(a b c:Int)(s:ByteArray)(ao:Option Addr)(n cap:Nat)(D:Ze)(R:Zd)(h:ZP w xb cb D R)(hu:R.uses.length<3000000000000):
 Calls Tryz.prog 17 #[.pointer (some ⟨pb,0,none⟩),.agg #[.pointer (some ⟨xb,0,none⟩),.pointer (some ⟨cb,0,none⟩)],.agg #[.int .i64 16,.int .i64 a,.int .i64 b,.int .i64 c,.string s,.slice ao n cap]] w fun e w'=>Yp w xb cb D R e w':=by
 have hk:=ZW w xb cb 16 a b c s (.slice ao n cap);obtain⟨r,hr⟩:=Zh5 (h.kept hk fun _ _=>id) (by omega) b c;have H0:Hid (Calls Tryz.prog 61 #[.pointer (some ⟨xb,0,none⟩),.int .i64 b,.int .i64 c] (Zz w xb cb 16 a b c s (.slice ao n cap)) fun e w1=>e=.returned (.int .i64 r)∧Hid (Xt 62 #[.pointer (some ⟨cb,0,none⟩),.int .i64 b,.int .i64 c] (Zz w xb cb 16 a b c s (.slice ao n cap)) w1 xb cb D R (.int .i64 r))):=hr;have HK:=hid hk;have HL:Hid (∀i,D.fp xb i→i<w.heap.size):=h.dev.lt;clear hr hk h hu;go_enter Tryz.func17,Tryz.ntmps17
 go_wp2_with first
  |(go_at_call 61;refine H0.out.mono ?_;rintro e w1 ⟨rfl,ht⟩;have q1:=YD ht.out.1 HL.out;have q2:=YR ht.out.1 HL.out;have q3:=ZbJ ht.out.1 HL.out)
  |(go_at_call 62;refine(ht.out.2 _ (Za.refl _ _)).mono ?_;rintro e w3 ⟨rfl,hz,_⟩;have HZ:Hid (ZR (Zz w xb cb 16 a b c s (.slice ao n cap)) w3 xb cb D R):=hz;clear hz)
 go_ret;exact⟨Z6 (by simp),HZ.out.from HK.out⟩
structure DlvB (R:Zd)(nd:Zi):Prop where
 fl:nd.fls.length≤1000
 fs:∀t∈nd.fls,t<R.past.length
 ws:∀x∈nd.wts,nd.horizon+1<x∧x<R.past.length
 wl:nd.wts.length≤900
 el:nd.ents.length≤1000
 eq:∀e∈nd.ents,e.q.size≤maxLen
 hz:nd.horizon<R.past.length
theorem Zm.hear {w W:World}{b k:Nat}{R:Zd}{p:ZD}(h:Zm w b R k p W)(hk:k<R.nodes.length)(hf:R.Fit)(hp:p.fls.length≤12∧p.horizon≤700∧∀t∈p.fls,t≤700)(hb:Ze4 R p):
 Calls Tryz.prog 116 #[.pointer (some ⟨b,0,none⟩),.int .i64 (k:Int)] W fun e w'=>e=.returned (.tuple #[])∧Zm w b R k (Yo R.past p) w':=by
 obtain⟨nd',e3,hB⟩:=h;subst e3;refine(Zjs W b k (R.putN k nd') nd' hB.1 (Fit.putN hf hp) (List.getElem?_set_self hk) ⟨hb.hz,hb.wts,hb.wl,hb.el,hb.eq⟩).mono fun e w' hq=>⟨hq.1,?_⟩;obtain⟨n2,e4,hB2⟩:=hq.2;refine⟨n2,e4,?_⟩;have:=hB.trans hB2;rw[show(R.putN k nd').putN k n2=R.putN k n2 by simp[Zd.putN,List.set_set]]at this;exact this
theorem Zm.waitsC {w W:World}{b k:Nat}{R:Zd}{p:ZD}(h:Zm w b R k p W)(hk:k<R.nodes.length)(hm:R.nodes.length≤3)(t:Nat)(hl:p.wts.length≤1000):
 Calls Tryz.prog 115 #[.pointer (some ⟨b,0,none⟩),.int .i64 (k:Int),.int .u64 (t:Int)] W fun e w'=>e=.returned (.int .i64 (YX p.wts t))∧W=w':=by
 obtain⟨nd',e3,hB⟩:=h;subst e3;exact Zjr W b k t (R.putN k nd') nd' hB.1 (by show(R.nodes.set k nd').length≤3;rw[List.length_set];exact hm) (List.getElem?_set_self hk) hl
theorem Zm.waitMore {w W:World}{b k g cap:Nat}{R:Zd}{p:ZD}{aw:Option Addr}{cw:Nat}(h:Zm w b R k p W)(hk:k<R.nodes.length)(hv:R.vn=.slice (some ⟨g,0,none⟩) R.nodes.length cap)(ho:R.vn.ownBlock=some g)(c4:W.cell? ⟨g,k*7+4,none⟩=some (.slice aw p.wts.length cw))(x:Nat):
 (∀W2:World,Za (fun _=>False) W W2→Row W2 53 1 (.slice aw p.wts.length cw) p.wts.length (ZL p.wts))∧
 ∀(W2 w':World)(v':Value),Za (fun _=>False) W W2→Zc W2 w' 53 1 (.slice aw p.wts.length cw) v' p.wts.length 1 (ZL p.wts) [.int .u64 (x:Int)]→w'.cell? ⟨b,3,none⟩=some (.slice (some ⟨g,0,none⟩) R.nodes.length cap)∧w'.cell? ⟨g,k*7+4,none⟩=some (.slice aw p.wts.length cw)∧w'.frozen? ⟨g,k*7+4,none⟩=false∧Hid (Zm w b R k {p with wts:=p.wts++[x]} (w'.setCell ⟨g,k*7+4,none⟩ v')):=by
 obtain⟨nd',e3,hB⟩:=h;subst e3;have hnd2:(R.putN k nd').nodes[k]?=some nd':=List.getElem?_set_self hk;have hwt:nd'.wt=.slice aw nd'.wts.length cw:=by
  have:=XS hB.1 hk ho 4 (by omega) nd'.wt rfl;rw[c4]at this;injection this with this;exact this.symm
 have hr:=hB.1.wts nd' (List.mem_of_getElem? hnd2);have c3:=hB.1.c3;have e2:(R.putN k nd').vn=R.vn:=rfl;rw[e2,hv]at c3;refine⟨fun W2 hW=>by have:=hr.kept hW (fun _ _=>id);rw[hwt]at this;exact this,fun W2 w' v' hW hA=> ?_⟩;have hA2:Zc W w' 53 1 nd'.wt v' nd'.wts.length 1 (ZL nd'.wts) [.int .u64 (x:Int)]:=by rw[hwt];exact Zic hW hA
 have hfg:¬nd'.wt.ownBlock=some g:=fun e=>hr.ne_row hB.1.nodes (by decide) g e ho;have hfb:¬nd'.wt.ownBlock=some b:=fun e=>hr.ne_block hB.1.blk (by decide) e;refine⟨hA2.kept.keep hfb c3,hA2.kept.keep hfg c4,(hB.1.nodes.kept hA2.kept fun q hq he=>hfg (by have hq':R.vn.ownBlock=some q:=hq;rw[ho]at hq';injection hq' with hq';rw[hq'];exact he)).free ho _,?_⟩;obtain⟨n2,e4,hB2⟩:=hB.1.setWtB hnd2 (show(R.putN k nd').vn.ownBlock=some g from ho) (nd'.wts++[x]) v' hA2.kept (by
  rw[List.length_append,show ZL (nd'.wts++[x])=ZL nd'.wts++[.int .u64 (x:Int)] by simp[ZL]];exact hA2.row) (fun y hy=>by
  rcases hA2.own with e|e
  · exact .inl (by rw[←e];exact hy)
  · exact .inr (e y hy))
 refine⟨n2,e4,?_⟩;have hB3:=hB.trans hB2;rw[show(R.putN k nd').putN k n2=R.putN k n2 by simp[Zd.putN,List.set_set]]at hB3;exact hB3
theorem Zjy (w:World)(b:Nat)(R:Zd)(k i:Int)(h:Ref w b R)(hf:R.Fit)(hl:∀nd∈R.nodes,DlvB R nd):
 Calls Tryz.prog 58 #[.pointer (some ⟨b,0,none⟩),.int .i64 k,.int .i64 i] w fun e w'=>Um w b R k i e w':=by
 have hm:=hf.nmax;have HLK:Hid (Calls Tryz.prog 113 #[.pointer (some ⟨b,0,none⟩),.int .i64 k,.int .i64 i] w fun e w'=>e=.returned (.int .i64 (Yh R k i))∧w=w'):=Ziu w b R k i h hm;by_cases hz:Yh R k i=0
 · obtain⟨j,m,nd,rfl,rfl,hnd,hm2⟩:=Za8 hz;obtain⟨hk,hnd'⟩:=List.getElem?_eq_some_iff.mp hnd;have hmem:=List.mem_of_getElem? hnd;have hD:=hl nd hmem;obtain⟨g,cap,hv,ho,hgl⟩:=h.nodes.block (by omega);have c3:=h.c3;rw[hv]at c3;have hrf:=h.fls nd hmem;obtain⟨gf,cf,hvf,hof,hgfl⟩:=hrf.block (by omega);have a3:=h.nodes.cell ho (j*7+3) _ (by rw[Zy R.nodes j hk 3 (by omega)];rfl);rw[hnd',hvf]at a3;have p0:=hrf.cell hof m _ (Zaj hm2);obtain⟨t,ht⟩:∃t,t=nd.fls[m]:=⟨_,rfl⟩;rw[←ht]at p0;have htm:nd.fls[m]?=some t:=by rw[ht];exact List.getElem?_eq_getElem hm2
   have htl:t<R.past.length:=hD.fs t (List.mem_of_getElem? htm);have hgb:g≠b:=fun e=>h.nodes.ne_block h.blk (by decide) (by rw[ho,e]);have hbg:b≠g:=Ne.symm hgb;have hfl:=hD.fl;have hwl:=hD.wl;have hpm:=hf.pmax;have H1:Hid (∀W,Za (fun _=>False) w W→Calls Tryz.prog 114 #[.slice (some ⟨gf,0,none⟩) nd.fls.length cf,.int .i64 (m:Int)] W fun e w'=>∃ao c',e=.returned (.slice ao (nd.fls.length-1) c')∧w'.cell? ⟨b,3,none⟩=some (.slice (some ⟨g,0,none⟩) R.nodes.length cap)∧w'.cell? ⟨g,j*7+3,none⟩=some (.slice (some ⟨gf,0,none⟩) nd.fls.length cf)∧w'.frozen? ⟨g,j*7+3,none⟩=false∧Hid (Zm w b R j {nd.p with fls:=nd.fls.eraseIdx m} (w'.setCell ⟨g,j*7+3,none⟩ (.slice ao (nd.fls.length-1) c')))):=by
    intro W hW;have hre:=hrf.kept hW (fun _ _=>id);rw[hvf]at hre;refine(Xm hre rfl hm2 hfl).mono fun e w' hp=> ?_;obtain⟨v,e1,r1,k1,o1⟩:=hp;obtain⟨ao,c',hv',_⟩:=r1.form;subst e1 hv';have hkk:Za (fun _=>False) w w':=hW.trans k1 (fun _=>id) (fun _ _=>id);have hsz:=hW.size;refine⟨ao,c',rfl,hkk.hold c3,hkk.hold a3,((h.kept hkk fun _ _=>id).nodes).free ho _,h.setFlB hnd ho _ _ (hkk.mono fun _=>False.elim) ?_ fun x hx=>.inr (by have:=o1 x hx;omega)⟩;rw[List.length_eraseIdx_of_lt hm2];exact r1
   obtain⟨P,hP⟩:∃P:ZD,P={nd.p with fls:=nd.fls.eraseIdx m}:=⟨_,rfl⟩;rw[←hP]at H1;have pw:P.wts=nd.wts:=by rw[hP];rfl
   have pz:P.horizon=nd.horizon:=by rw[hP];rfl
   have pu:P.up=nd.up:=by rw[hP];rfl
   have HCL:Hid (∀(W:World),Zm w b R j P W→∃aw cw,W.cell? ⟨b,3,none⟩=some (.slice (some ⟨g,0,none⟩) R.nodes.length cap)∧W.cell? ⟨g,j*7+2,none⟩=some (.int .u64 (nd.horizon:Int))∧W.cell? ⟨g,j*7,none⟩=some (.bool nd.up)∧W.cell? ⟨g,j*7+4,none⟩=some (.slice aw nd.wts.length cw)∧(∀W2:World,Za (fun _=>False) W W2→Row W2 53 1 (.slice aw nd.wts.length cw) nd.wts.length (ZL nd.wts))∧
    ∀(W2 w':World)(v':Value),Za (fun _=>False) W W2→Zc W2 w' 53 1 (.slice aw nd.wts.length cw) v' nd.wts.length 1 (ZL nd.wts) [.int .u64 (t:Int)]→w'.cell? ⟨b,3,none⟩=some (.slice (some ⟨g,0,none⟩) R.nodes.length cap)∧w'.cell? ⟨g,j*7+4,none⟩=some (.slice aw nd.wts.length cw)∧w'.frozen? ⟨g,j*7+4,none⟩=false∧Hid (Zm w b R j {P with wts:=nd.wts++[t]} (w'.setCell ⟨g,j*7+4,none⟩ v'))):=fun W hT=>by
    obtain⟨_,_,aw,cw,q3,q2,q4,_⟩:=hT.cells hk hv ho;obtain⟨y1,y2⟩:=hT.waitMore hk hv ho q4 t;have q0:=hT.upC hk ho;rw[pz]at q2;rw[pu]at q0;rw[pw]at q4 y1 y2;exact⟨aw,cw,q3,q2,q0,q4,y1,y2⟩
   have HWA:Hid (∀W,Zm w b R j P W→Calls Tryz.prog 115 #[.pointer (some ⟨b,0,none⟩),.int .i64 (j:Int),.int .u64 (t:Int)] W fun e w'=>e=.returned (.int .i64 (YX nd.wts t))∧W=w'):=fun W hT=>by
    have:=hT.waitsC hk hm t (by rw[pw];omega);rw[pw]at this;exact this
   have HHE:Hid (t=nd.horizon+1→∀W,Zm w b R j P W→Calls Tryz.prog 116 #[.pointer (some ⟨b,0,none⟩),.int .i64 (j:Int)] W fun e w'=>e=.returned (.tuple #[])∧Hid (Zm w b R j (Yo R.past P) w')):=fun htz W hT=>by
    have hfx:=hf.fmax nd hmem;have hpf:P.fls=nd.fls.eraseIdx m:=by rw[hP]
    refine hT.hear hk hf ⟨?_,by rw[pz];exact hfx.2.1,fun q hq=> ?_⟩ ⟨by rw[pz];omega,fun q hq=> ?_,by rw[pw];omega,?_,fun e he=> ?_⟩
    · rw[hpf];exact Nat.le_trans (List.length_eraseIdx_le ..) hfx.1
    · rw[hpf]at hq;exact hfx.2.2 q (List.mem_of_mem_eraseIdx hq)
    · rw[pw]at hq;exact(hD.ws q hq).2
    · rw[hP];exact hD.el
    · rw[hP]at he;exact hD.eq e he
   have HRES:Hid (∀(W':World)(p':ZD),YC R.past P t=p'→Zm w b R j p' W'→Um w b R (j:Int) (m:Int) (.returned (.int .i64 0)) W'):=by
    intro W' p' e1 hT;refine .inr ⟨j,m,nd,t,rfl,rfl,hnd,htm,hz,rfl,?_⟩;rw[←hP,e1];exact hT
   rw[hz]at HLK;have hj0:(0:Int)≤(j:Int):=by omega
   have hj1:(j:Int)<(R.nodes.length:Int):=by omega
   have hm0:(0:Int)≤(m:Int):=by omega
   have hm1:(m:Int)<(nd.fls.length:Int):=by omega
   have hhz:=hD.hz;obtain⟨nx,hnx⟩:∃nx,nx=nd.horizon+1:=⟨_,rfl⟩;obtain⟨n4,hn4⟩:∃n4,n4=nx+4:=⟨_,rfl⟩;have HAR:Hid (YC R.past P t=if nd.up=false∨t<nx∨n4<t then P else if t=nx then Yo R.past P else if YX nd.wts t<0 then {P with wts:=nd.wts++[t]}else P):=by
    show _=_;unfold YC;rw[pu,pz,pw,hnx,hn4,hnx]
   have HNO:Hid (t=nx→YX nd.wts t= -1):=fun e=>by
    unfold YX;rw[List.findIdx?_eq_none_iff.mpr (fun x hx=>by have:=(hD.ws x hx).1;simp;omega)]
   have HHE2:Hid (t=nx→∀W,Zm w b R j P W→Calls Tryz.prog 116 #[.pointer (some ⟨b,0,none⟩),.int .i64 (j:Int)] W fun e w'=>e=.returned (.tuple #[])∧Hid (Zm w b R j (Yo R.past P) w')):=fun e=>HHE.out (by omega);have hnI:(nd.horizon:Int)+1=(nx:Int):=by omega
   have h4I:(nx:Int)+4=(n4:Int):=by omega
   have hn4m:n4≤800:=by omega
   have hnxm:nx≤800:=by omega
   have htm8:t≤800:=by omega
   have hzm:nd.horizon≤800:=by omega
   generalize nd.horizon=hz0 at*
   generalize nd.up=up at*
   obtain⟨wts,hwts⟩:∃x,x=nd.wts:=⟨_,rfl⟩;rw[←hwts]at HCL HWA HAR HNO hwl;clear ht hm2 hrf;generalize nd.fls.length=fn at*
   obtain⟨i0,hi,hz0',hz1,hz2⟩:=info_parts Tryz.infoStamp;have HI:Hid (Tryz.prog.info? 53=some i0∧i0.zero=some (.int .u64 0)∧i0.size=1∧i0.bytes=8):=⟨hi,hz0',hz1,hz2⟩;have b1:wts.length+1≤maxLen:=by unfold maxLen;omega
   have b2:(wts.length+1)*8≤140737488355328:=by omega
   clear hi hz0' hz1 hz2 h hf hl hnd hnd' hmem hD hv ho hvf hof hgfl htm htl hfl hz hP pw pz pu HHE hwts hnx hn4 hhz hpm;go_enter Tryz.func58,Tryz.ntmps58
   go_wp2_with (go_at_call 113;refine HLK.out.mono ?_;rintro e w1 ⟨rfl,rfl⟩)
   go_cut [46] (fun _ wx=>Hid (Zm w b R j P wx))
   case first=>
    go_region_with (go_at_call 114;refine(H1.out _ ((Za.refl _ _).drewN _)).mono ?_;rintro e w1 ⟨ao,c',rfl,z3,z5,zf,HB⟩)
    all_goals
     go_wp2
     go_meet
     case rel=>exact HB
   case rest=>
    obtain⟨aw,cw,d3,d2,d0,d4,HY1,HY2⟩:=HCL.out _ hcut.out;have HY1':Hid (∀W2:World,Za (fun _=>False) wc W2→Row W2 53 1 (.slice aw wts.length cw) wts.length (ZL wts)):=HY1;have HY2':Hid (∀(W2 w':World)(v':Value),Za (fun _=>False) wc W2→Zc W2 w' 53 1 (.slice aw wts.length cw) v' wts.length 1 (ZL wts) [.int .u64 (t:Int)]→w'.cell? ⟨b,3,none⟩=some (.slice (some ⟨g,0,none⟩) R.nodes.length cap)∧w'.cell? ⟨g,j*7+4,none⟩=some (.slice aw wts.length cw)∧w'.frozen? ⟨g,j*7+4,none⟩=false∧Hid (Zm w b R j {P with wts:=wts++[t]} (w'.setCell ⟨g,j*7+4,none⟩ v'))):=HY2;clear HY1 HY2 c3 a3 p0;cases up with
    |false=>
     have HA:Hid (YC R.past P t=P):=by show _=_;rw[HAR.out,if_pos (.inl rfl)]
     go_wp2;go_ret;exact HRES.out _ _ HA.out hcut.out
    |true=>
     by_cases hlt:t<nx
     · have HA:Hid (YC R.past P t=P):=by show _=_;rw[HAR.out,if_pos (.inr (.inl hlt))]
       go_wp2;go_ret;exact HRES.out _ _ HA.out hcut.out
     · by_cases hgt:n4<t
       · have HA:Hid (YC R.past P t=P):=by show _=_;rw[HAR.out,if_pos (.inr (.inr hgt))]
         go_wp2;go_ret;exact HRES.out _ _ HA.out hcut.out
       · by_cases heq:t=nx
         · have HA:Hid (YC R.past P t=Yo R.past P):=by show _=_;rw[HAR.out,if_neg (by simp;omega),if_pos heq]
           have HW1:Hid (Calls Tryz.prog 115 #[.pointer (some ⟨b,0,none⟩),.int .i64 (j:Int),.int .u64 (t:Int)] wc fun e w'=>e=.returned (.int .i64 (-1))∧wc=w'):=by have:=HWA.out wc hcut.out;rw[HNO.out heq]at this;exact this
           have HH1:Hid (Calls Tryz.prog 116 #[.pointer (some ⟨b,0,none⟩),.int .i64 (j:Int)] wc fun e w'=>e=.returned (.tuple #[])∧Hid (Zm w b R j (Yo R.past P) w')):=HHE2.out heq wc hcut.out;subst heq
           go_wp2_with first
            |(go_at_call 115;go_loud (refine HW1.out.mono ?_);rintro e w2 ⟨rfl,rfl⟩)
            |(go_at_call 116;refine HH1.out.mono ?_;rintro e w9 ⟨rfl,HT⟩)
           go_ret;exact HRES.out _ _ HA.out HT.out
         · have hneI:((t:Int)==(nx:Int))=false:=beq_eq_false_iff_ne.mpr (by omega);have HA:Hid (YC R.past P t=if YX wts t<0 then {P with wts:=wts++[t]}else P):=by show _=_;rw[HAR.out,if_neg (by simp;omega),if_neg heq]
           obtain⟨wv,hwv⟩:∃wv,wv=YX wts t:=⟨_,rfl⟩;have HW1:Hid (Calls Tryz.prog 115 #[.pointer (some ⟨b,0,none⟩),.int .i64 (j:Int),.int .u64 (t:Int)] wc fun e w'=>e=.returned (.int .i64 wv)∧wc=w'):=by have:=HWA.out wc hcut.out;rw[←hwv]at this;exact this
           rw[←hwv]at HA;clear hwv;by_cases hneg:wv<0
           · have HA2:Hid (YC R.past P t={P with wts:=wts++[t]}):=by show _=_;rw[HA.out,if_pos hneg]
             go_wp2_with (go_at_call 115;go_loud (refine HW1.out.mono ?_);rintro e w2 ⟨rfl,rfl⟩)
             refine Zh6 (F:=fun wx=>Zm w b R j {P with wts:=wts++[t]} wx) (fun _ _ _ _ _ h=>h) hj0 hj1 d3 d4 HI b1 b2 HY1' HY2' ?_;intros
             rename_i hF
             go_wp2;go_ret;exact HRES.out _ _ HA2.out hF
           · have HA2:Hid (YC R.past P t=P):=by show _=_;rw[HA.out,if_neg hneg]
             go_wp2_with (go_at_call 115;go_loud (refine HW1.out.mono ?_);rintro e w2 ⟨rfl,rfl⟩)
             go_ret;exact HRES.out _ _ HA2.out hcut.out
 · have HZ:=hid hz;obtain⟨er,her⟩:∃er,er=Yh R k i:=⟨_,rfl⟩;have hb:((er:Int)==0)=false:=beq_eq_false_iff_ne.mpr (by rw[her];exact hz);have HE:=hid her;rw[←her]at HLK;clear h hl hz her;go_enter Tryz.func58,Tryz.ntmps58
   go_wp2_with (go_at_call 113;refine HLK.out.mono ?_;rintro e w1 ⟨rfl,rfl⟩)
   go_ret;exact .inl ⟨HZ.out,by rw[HE.out];rfl,rfl⟩
theorem ZP.dlv {w:World}{xb cb:Nat}{D:Ze}{R:Zd}(h:ZP w xb cb D R):∀nd∈R.nodes,DlvB R nd:=by
 intro nd hnd;obtain⟨j,hj⟩:=List.getElem?_of_mem hnd;have hjl:=(List.getElem?_eq_some_iff.mp hj).1;have hlen:D.nodes.length=R.nodes.length:=by rw[h.sim.len];show _=(D.nodes.map _).length;rw[List.length_map]
 have hs:D.pu.sites[j]?=some (D.nodes[j]'(by omega)).p:=by show(D.nodes.map _)[j]?=_;rw[List.getElem?_map,List.getElem?_eq_getElem (by omega)];rfl
 generalize (D.nodes[j]'(by omega)).p=s at hs;have hn:=h.sim.node j s nd hs hj;have hg:=h.good.sites s (List.mem_of_getElem? hs);have hpl:=h.sim.plen;have e1:nd.fls=s.flight.map (·.1):=hn.fls;have e2:nd.wts=s.waits.map (·.1):=hn.wts;have e3:nd.ents=s.ents.map (·.e):=hn.ents;have e4:nd.horizon=s.horizon:=hn.hz;have hwl:s.waits.length≤900:=by have:=hg.wl;omega
 refine⟨by rw[e1,List.length_map];have:=hg.fl;omega,fun t ht=> ?_,fun x hx=> ?_,by rw[e2,List.length_map];exact hwl,by rw[e3,List.length_map];have:=hg.el;have:=hg.room6;omega,fun e he=> ?_,hn.top⟩
 · rw[e1]at ht;obtain⟨c,hc,rfl⟩:=List.mem_map.mp ht;exact(hn.flk c hc).1
 · rw[e2]at hx;obtain⟨c,hc,rfl⟩:=List.mem_map.mp hx;have:=hg.ws c hc;rw[e4];exact⟨this.1,by omega⟩
 · rw[e3]at he;obtain⟨x,hx,rfl⟩:=List.mem_map.mp he;have:=(hg.es x hx).q40;unfold maxLen;omega
theorem ZcI (w:World)(pb xb cb:Nat)(a b c:Int)(s:ByteArray)(ao:Option Addr)(n cap:Nat)(D:Ze)(R:Zd)(h:ZP w xb cb D R)(hu:R.uses.length<3000000000000):
 Calls Tryz.prog 17 #[.pointer (some ⟨pb,0,none⟩),.agg #[.pointer (some ⟨xb,0,none⟩),.pointer (some ⟨cb,0,none⟩)],.agg #[.int .i64 14,.int .i64 a,.int .i64 b,.int .i64 c,.string s,.slice ao n cap]] w fun e w'=>Yp w xb cb D R e w':=by
 have hk:=ZW w xb cb 14 a b c s (.slice ao n cap);obtain⟨r,hr⟩:=ZdC (h.kept hk fun _ _=>id) (by omega) b c (fun w2 h2=>Zjy w2 cb R b c h2 h.rfit h.dlv);have H0:Hid (Calls Tryz.prog 57 #[.pointer (some ⟨xb,0,none⟩),.int .i64 b,.int .i64 c] (Zz w xb cb 14 a b c s (.slice ao n cap)) fun e w1=>e=.returned (.int .i64 r)∧Hid (Xt 58 #[.pointer (some ⟨cb,0,none⟩),.int .i64 b,.int .i64 c] (Zz w xb cb 14 a b c s (.slice ao n cap)) w1 xb cb D R (.int .i64 r))):=hr;have HK:=hid hk;have HL:Hid (∀i,D.fp xb i→i<w.heap.size):=h.dev.lt;clear hr hk h hu;go_enter Tryz.func17,Tryz.ntmps17
 go_wp2_with first
  |(go_at_call 57;refine H0.out.mono ?_;rintro e w1 ⟨rfl,ht⟩;have q1:=YD ht.out.1 HL.out;have q2:=YR ht.out.1 HL.out;have q3:=ZbJ ht.out.1 HL.out)
  |(go_at_call 58;refine(ht.out.2 _ (Za.refl _ _)).mono ?_;rintro e w3 ⟨rfl,hz,_⟩;have HZ:Hid (ZR (Zz w xb cb 14 a b c s (.slice ao n cap)) w3 xb cb D R):=hz;clear hz)
 go_ret;exact⟨Z6 (by simp),HZ.out.from HK.out⟩
theorem Zht (w:World)(pb xb cb:Nat)(a b c:Int)(s:ByteArray)(ao:Option Addr)(n cap:Nat)(D:Ze)(R:Zd)(h:ZP w xb cb D R)(hu:R.uses.length<3000000000000):
 Calls Tryz.prog 17 #[.pointer (some ⟨pb,0,none⟩),.agg #[.pointer (some ⟨xb,0,none⟩),.pointer (some ⟨cb,0,none⟩)],.agg #[.int .i64 17,.int .i64 a,.int .i64 b,.int .i64 c,.string s,.slice ao n cap]] w fun e w'=>Yp w xb cb D R e w':=by
 have hk:=ZW w xb cb 17 a b c s (.slice ao n cap);obtain⟨x,r,hr⟩:=Zio (h.kept hk fun _ _=>id) (by omega) b (fun w2 h2=>rask w2 cb R b h2 h.rfit (fun nd hnd=>⟨(h.dlv nd hnd).hz,fun h1=>⟨h1,fun t ht=>((h.dlv nd hnd).ws t ht).2,by have:=(h.dlv nd hnd).wl;show nd.wts.length≤1000;omega,(h.dlv nd hnd).el,(h.dlv nd hnd).eq⟩⟩));have H0:Hid (Calls Tryz.prog 63 #[.pointer (some ⟨xb,0,none⟩),.int .i64 b] (Zz w xb cb 17 a b c s (.slice ao n cap)) fun e w1=>e=.returned (.tuple #[.int .u64 x,.int .i64 r])∧Hid (Xt 64 #[.pointer (some ⟨cb,0,none⟩),.int .i64 b] (Zz w xb cb 17 a b c s (.slice ao n cap)) w1 xb cb D R (.tuple #[.int .u64 x,.int .i64 r]))):=hr;have HK:=hid hk;have HL:Hid (∀i,D.fp xb i→i<w.heap.size):=h.dev.lt;clear hr hk h hu;go_enter Tryz.func17,Tryz.ntmps17
 go_wp2_with first
  |(go_at_call 63;refine H0.out.mono ?_;rintro e w1 ⟨rfl,ht⟩;have q1:=YD ht.out.1 HL.out;have q2:=YR ht.out.1 HL.out)
  |(go_at_call 64;refine(ht.out.2 _ (Za.refl _ _)).mono ?_;rintro e w3 ⟨rfl,hz,_⟩;have HZ:Hid (ZR (Zz w xb cb 17 a b c s (.slice ao n cap)) w3 xb cb D R):=hz;clear hz)
 go_ret;exact⟨Z6 (by simp),HZ.out.from HK.out⟩
end Go.Proofs.YtpfcacedpkaihaaGreat
