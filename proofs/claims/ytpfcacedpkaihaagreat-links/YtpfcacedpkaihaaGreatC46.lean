import Derived.Test.YtpfcacedpkaihaaGreatC44
namespace Go.Proofs.YtpfcacedpkaihaaGreat
open Go.RowKit
set_option maxRecDepth 100000
set_option maxHeartbeats 16000000
theorem ZeE (w:World)(b:Nat)(R:Zd)(t k:Nat)(nd:Zi)(p p':Zh)(h:Ref w b R)(hf:R.Fit)(hp10:R.puts.length≤10)(ht:R.puts[t]?=some p)(hq:p.q.size≤40)(hk:k=YZ p.q.data.toList%R.nodes.length)(hnd:R.nodes[k]?=some nd)(hup:nd.up=true)
 (hl:nd.nms.length=nd.ents.length) (hn:nd.ents.length≤1000) (hu:R.uses.length<4000000000000) (hnx:R.next<4000000000000∧0≤R.next)
 (hnos:∀(t:Nat)(y:Zh),nd.ents[t]?=some y→¬Z0 y p') (hroomc:(nd.ents.length:Int)<R.room)
 (hlate:∀(W:World)(v:Value),Ref W b (R.setPuts (R.puts.eraseIdx t) v)→Calls Tryz.prog 102 #[.pointer (some ⟨b,0,none⟩),.agg #[.bool true,.int .u64 (nd.since:Int),.int .u64 (nd.horizon:Int),nd.fl,nd.wt,nd.en,nd.nm],.agg (Z8 p)] W fun e w'=>e=.returned (.tuple #[.agg (Z8 p'),.bool true])∧Za (fun _=>False) W w'):
 Calls Tryz.prog 46 #[.pointer (some ⟨b,0,none⟩),.int .i64 (t:Int)] w fun e w'=>XR w b R t k nd p' e w':=by
 obtain⟨htl,ht'⟩:=List.getElem?_eq_some_iff.mp ht;obtain⟨hkl,hnd'⟩:=List.getElem?_eq_some_iff.mp hnd;obtain⟨gp,cpp,hvp,hop,hgpl⟩:=h.puts.block (by omega);obtain⟨g,cap,hv,ho,hgl⟩:=h.nodes.block (by omega);have c5:=h.c5;rw[hvp]at c5;have c3:=h.c3;rw[hv]at c3;have hput:∀f,f<6→∀u,(Zk p)[f]?=some u→w.cell? ⟨gp,t*6+f,none⟩=some u:=fun f hf u hu=>h.puts.cell hop _ u (by rw[ZO Zk 6 (fun _=>rfl) R.puts t htl f hf,ht'];exact hu);have q0:w.cell? ⟨gp,t*6,none⟩=some (.string p.q):=hput 0 (by omega) _ rfl;have q1:w.cell? ⟨gp,t*6+1,none⟩=some (.int .i32 p.val):=hput 1 (by omega) _ rfl;have q2:w.cell? ⟨gp,t*6+2,none⟩=some (.int .u64 (p.fr:Int)):=hput 2 (by omega) _ rfl;have q3:w.cell? ⟨gp,t*6+3,none⟩=some (.int .u64 (p.till:Int)):=hput 3 (by omega) _ rfl;have q4:w.cell? ⟨gp,t*6+4,none⟩=some (.bool p.op):=hput 4 (by omega) _ rfl;have q5:w.cell? ⟨gp,t*6+5,none⟩=some (.int .u64 (p.kn:Int)):=hput 5 (by omega) _ rfl;obtain⟨ae,ce,hve,_⟩:=(h.ents nd (List.mem_of_getElem? hnd)).form;obtain⟨am,cm,hvm,_⟩:=(h.nms nd (List.mem_of_getElem? hnd)).form;obtain⟨af,cf,hvf,_⟩:=(h.fls nd (List.mem_of_getElem? hnd)).form;obtain⟨aw,cw,hvw,_⟩:=(h.wts nd (List.mem_of_getElem? hnd)).form;have hgb:g≠b:=fun e=>h.nodes.ne_block h.blk (by decide) (by rw[ho,e]);have hbg:b≠g:=Ne.symm hgb;have hbl:=h.blk.lt;have hn0:=hf.npos;have hn3:=hf.nmax;have HNO:Hid (∀W,W.cell? ⟨b,3,none⟩=some (.slice (some ⟨g,0,none⟩) R.nodes.length cap)→Calls Tryz.prog 93 #[.pointer (some ⟨b,0,none⟩),.string p.q] W fun e w'=>e=.returned (.int .i64 (k:Int))∧W=w'):=fun W hc=>by
  rw[hk];exact Xy W b _ _ _ p.q hc hn0 hn3 hq
 have HN:Hid (∀(W:World)(R1:Zd),Ref W b R1→R1.vn=R.vn→R1.nodes=R.nodes→W.cell? ⟨b,3,none⟩=some (.slice (some ⟨g,0,none⟩) R.nodes.length cap)∧W.cell? ⟨g,k*7,none⟩=some (.bool true)∧W.cell? ⟨g,k*7+1,none⟩=some (.int .u64 (nd.since:Int))∧W.cell? ⟨g,k*7+2,none⟩=some (.int .u64 (nd.horizon:Int))∧W.cell? ⟨g,k*7+3,none⟩=some (.slice af nd.fls.length cf)∧W.cell? ⟨g,k*7+4,none⟩=some (.slice aw nd.wts.length cw)∧W.cell? ⟨g,k*7+5,none⟩=some (.slice ae nd.ents.length ce)∧W.cell? ⟨g,k*7+6,none⟩=some (.slice am nd.nms.length cm)):=by
  intro W R1 hr e1 e2;have hc:∀f,f<7→∀u,(nodeC nd)[f]?=some u→W.cell? ⟨g,k*7+f,none⟩=some u:=fun f hf u hu=>hr.nodes.cell (by rw[e1];exact ho) _ u (by rw[e2,Zy R.nodes k hkl f hf,hnd'];exact hu);refine⟨by rw[hr.c3,e1,hv],?_,hc 1 (by omega) _ rfl,hc 2 (by omega) _ rfl,?_,?_,?_,?_⟩
  · rw[←hup];exact hc 0 (by omega) _ rfl
  · rw[←hvf];exact hc 3 (by omega) _ rfl
  · rw[←hvw];exact hc 4 (by omega) _ rfl
  · rw[←hve];exact hc 5 (by omega) _ rfl
  · rw[←hvm];exact hc 6 (by omega) _ rfl
 have HWO:Hid (∀W,Za (fun _=>False) w W→Calls Tryz.prog 100 #[.slice (some ⟨gp,0,none⟩) R.puts.length cpp,.int .i64 (t:Int)] W fun e w'=>∃ao c',e=.returned (.slice ao (R.puts.length-1) c')∧w'.cell? ⟨b,5,none⟩=some (.slice (some ⟨gp,0,none⟩) R.puts.length cpp)∧w'.frozen? ⟨b,5,none⟩=false∧w'.cell? ⟨b,3,none⟩=some (.slice (some ⟨g,0,none⟩) R.nodes.length cap)∧w'.cell? ⟨g,k*7,none⟩=some (.bool true)∧(∀a v,W.cell? a=some v→w'.cell? a=some v)∧Hid (Za (fun _=>False) W w'∧(∀x,(Value.slice ao (R.puts.length-1) c').ownBlock=some x→W.heap.size≤x)∧Zs w b R (w'.setCell ⟨b,5,none⟩ (.slice ao (R.puts.length-1) c')) (R.setPuts (R.puts.eraseIdx t) (.slice ao (R.puts.length-1) c')))):=by
  intro W hW;have hre:=h.puts.kept hW (fun _ _=>id);rw[hvp]at hre;refine(YP hre rfl htl (by omega)).mono fun e w' hp=> ?_;obtain⟨v,e1,r1,k1,o1⟩:=hp;obtain⟨ao,c',hv',_⟩:=r1.form;subst e1 hv';have hkk:Za (fun _=>False) w w':=hW.trans k1 (fun _=>id) (fun _ _=>id);have hsz:=hW.size;have hrw:=h.kept hkk (fun _ _=>id);obtain⟨n3,n0,_⟩:=HN.out w' R hrw rfl rfl;refine⟨ao,c',rfl,hkk.hold c5,hrw.blk.free 5,n3,n0,fun a v hc=>k1.hold hc,k1,o1,h.setPuts _ _ hkk ?_ fun x hx=>by have:=o1 x hx;omega⟩;rw[List.length_eraseIdx_of_lt htl];exact r1
 have HLT:Hid (∀(W:World)(v:Value),Ref W b (R.setPuts (R.puts.eraseIdx t) v)→Calls Tryz.prog 102 #[.pointer (some ⟨b,0,none⟩),.agg #[.bool true,.int .u64 (nd.since:Int),.int .u64 (nd.horizon:Int),.slice af nd.fls.length cf,.slice aw nd.wts.length cw,.slice ae nd.ents.length ce,.slice am nd.nms.length cm],.agg #[.string p.q,.int .i32 p.val,.int .u64 (p.fr:Int),.int .u64 (p.till:Int),.bool p.op,.int .u64 (p.kn:Int)]] W fun e w'=>e=.returned (.tuple #[.agg #[.string p'.q,.int .i32 p'.val,.int .u64 (p'.fr:Int),.int .u64 (p'.till:Int),.bool p'.op,.int .u64 (p'.kn:Int)],.bool true])∧Za (fun _=>False) W w'):=by
  rw[←hvf,←hvw,←hve,←hvm];exact hlate
 have ht0:(0:Int)≤(t:Int):=by omega
 have ht1:(t:Int)<(R.puts.length:Int):=by omega
 have hd0:decide ((t:Int)<0)=false:=by simp
 have hd1:decide ((R.puts.length:Int)≤(t:Int))=false:=by simp;omega
 have hk0:(0:Int)≤(k:Int):=by omega
 have hk1:(k:Int)<(R.nodes.length:Int):=by omega
 have HH:=hid h;have HHF:=hid hf;have HNOS:=hid hnos;have HVF:Hid (nd.fl=.slice af nd.fls.length cf∧nd.wt=.slice aw nd.wts.length cw∧nd.up=true):=⟨hvf,hvw,hup⟩;have HVE:Hid (R.nodes[k]?=some nd∧R.vn.ownBlock=some g∧nd.en=.slice ae nd.ents.length ce∧nd.nm=.slice am nd.nms.length cm∧nd.nms.length=nd.ents.length):=⟨hnd,ho,hve,hvm,hl⟩;clear h hf hlate hput hvp hop hgpl hve hvm hvf hvw ho hv hnd' hnd hk ht' ht hl hup;go_enter Tryz.func46,Tryz.ntmps46
 go_wp2_with first
  |(go_at_call 100;refine(HWO.out _ (Za.alloc _ _ _)).mono ?_;rintro e w1 ⟨ao,c',rfl,z5,zf,z3,z0,hold,HB⟩;have x0:w1.cell? ⟨w.heap.size,0,none⟩=some (.string p.q):=hold _ _ ((Blk.new w _ _).cell 0);have hbP:b≠w.heap.size:=Nat.ne_of_lt hbl;have hPb:w.heap.size≠b:=Ne.symm hbP;clear hold c5 c3 q0 q1 q2 q3 q4 q5)
  |(go_at_call 93;refine(HNO.out _ (HN.out _ _ HB.out.2.2.1 rfl rfl).1).mono ?_;rintro e w2 ⟨rfl,rfl⟩)
 have HS:Hid (Zq w b R (w1.setCell ⟨b,5,none⟩ (.slice ao (R.puts.length-1) c')) (R.setPuts (R.puts.eraseIdx t) (.slice ao (R.puts.length-1) c')) w.heap.size p):=Vr ⟨HB.out.1,HB.out.2.2⟩ HH.out fun x hx=>(by have:=HB.out.2.1 x hx;simp at this;omega);generalize w1.setCell ⟨b,5,none⟩ (.slice ao (R.puts.length-1) c')=W at HS⊢;obtain⟨v1,hv1⟩:∃v1,v1=Value.slice ao (R.puts.length-1) c':=⟨_,rfl⟩;rw[←hv1]at HS;clear hv1 HB z5 zf z3 z0 x0;obtain⟨n3,m0,m1,m2,m3,m4,m5,m6⟩:=HN.out W _ HS.out.bec.1 rfl rfl;have y0:W.cell? ⟨w.heap.size,0,none⟩=some (.string p.q):=HS.out.box.cell 0;have y1:W.cell? ⟨w.heap.size,1,none⟩=some (.int .i32 p.val):=HS.out.box.cell 1;have y2:W.cell? ⟨w.heap.size,2,none⟩=some (.int .u64 (p.fr:Int)):=HS.out.box.cell 2;have y3:W.cell? ⟨w.heap.size,3,none⟩=some (.int .u64 (p.till:Int)):=HS.out.box.cell 3;have y4:W.cell? ⟨w.heap.size,4,none⟩=some (.bool p.op):=HS.out.box.cell 4;have y5:W.cell? ⟨w.heap.size,5,none⟩=some (.int .u64 (p.kn:Int)):=HS.out.box.cell 5
 go_cut [8] (fun v wx=>v=.bool true∧Hid (Zq w b R wx (R.setPuts (R.puts.eraseIdx t) v1) w.heap.size p'))
 case first=>
  go_region_with (go_at_call 102;refine(HLT.out _ v1 (HS.out.bec.1.drewN _)).mono ?_;rintro e w3 ⟨rfl,hk3⟩;have HS3:Hid (Zq w b R w3 (R.setPuts (R.puts.eraseIdx t) v1) w.heap.size p):=VL HS.out hk3;obtain⟨r3,l0,l1,l2,l3,l4,l5,l6⟩:=HN.out w3 _ HS3.out.bec.1 rfl rfl;have f0:=HS3.out.box.free 0;have f1:=HS3.out.box.free 1;have f2:=HS3.out.box.free 2;have f3:=HS3.out.box.free 3;have f4:=HS3.out.box.free 4;have f5:=HS3.out.box.free 5;have u0:w3.cell? ⟨w.heap.size,0,none⟩=some (.string p.q):=HS3.out.box.cell 0;have u1:w3.cell? ⟨w.heap.size,1,none⟩=some (.int .i32 p.val):=HS3.out.box.cell 1;have u2:w3.cell? ⟨w.heap.size,2,none⟩=some (.int .u64 (p.fr:Int)):=HS3.out.box.cell 2;have u3:w3.cell? ⟨w.heap.size,3,none⟩=some (.int .u64 (p.till:Int)):=HS3.out.box.cell 3;have u4:w3.cell? ⟨w.heap.size,4,none⟩=some (.bool p.op):=HS3.out.box.cell 4;have u5:w3.cell? ⟨w.heap.size,5,none⟩=some (.int .u64 (p.kn:Int)):=HS3.out.box.cell 5;clear y0 y1 y2 y3 y4 y5 n3 m0 m1 m2 m3 m4 m5 m6)
  all_goals
   go_wp2
   go_meet
   case rel=>exact⟨rfl,HS3.out.setBox (Nat.le_refl _) p'⟩
 case rest=>
  obtain⟨rfl,HS4⟩:=hcut;obtain⟨R1,hR1⟩:∃R1,R1=R.setPuts (R.puts.eraseIdx t) v1:=⟨_,rfl⟩;rw[←hR1]at HS4;have HR1:=hid hR1;have HQ1:Hid (R1.vn=R.vn∧R1.nodes=R.nodes∧R1.uses=R.uses∧R1.vs=R.vs∧R1.room=R.room∧R1.next=R.next):=by rw[hR1];exact⟨rfl,rfl,rfl,rfl,rfl,rfl⟩
  clear y0 y1 y2 y3 y4 y5 n3 m0 m1 m2 m3 m4 m5 m6 hR1 HS HLT HWO;have HE:Hid (∀(W:World)(R2:Zd),Ref W b R2→R2.nodes=R.nodes→∀j (hj:j<nd.ents.length),∃ge,ae=some ⟨ge,0,none⟩∧∀f,f<6→W.cell? ⟨ge,j*6+f,none⟩=(Zk nd.ents[j])[f]?):=by
   intro W R2 hr e2 j hj;have hm:nd∈R2.nodes:=by rw[e2];exact List.mem_of_getElem? HVE.out.1
   have hrow:=hr.ents nd hm;obtain⟨ge,cpe,e3,e4,_⟩:=hrow.block (by omega);rw[HVE.out.2.2.1]at e3;injection e3 with e3 _ _;refine⟨ge,e3,fun f hf=> ?_⟩;have hx:=ZO Zk 6 (fun _=>rfl) nd.ents j hj f hf;obtain⟨u,hu⟩:∃u,(Zk nd.ents[j])[f]?=some u:=⟨_,List.getElem?_eq_getElem (show f<6 from hf)⟩;rw[hu]at hx;rw[hu];exact hrow.cell e4 _ _ hx
  go_wp2
  go_loopw [9] (fun jv wr=>∃j:Nat,j≤nd.ents.length∧jv=.int .i64 j∧Hid ((∀(t:Nat)(y:Zh),t<j→nd.ents[t]?=some y→¬Z0 y p')∧Zq w b R wr R1 w.heap.size p')) (fun jv _=>nd.ents.length-(intOf jv).toNat)
  case atStart=>exact⟨0,Nat.zero_le _,rfl,fun t y ht=>absurd ht (Nat.not_lt_zero _),HS4.out⟩
  case round=>
   obtain⟨j,hj,rfl,HL⟩:=hrel;obtain⟨n3,m0,m1,m2,m3,m4,m5,m6⟩:=HN.out wr _ HL.out.2.bec.1 HQ1.out.1 HQ1.out.2.1;have y0:wr.cell? ⟨w.heap.size,0,none⟩=some (.string p'.q):=HL.out.2.box.cell 0;have y2:wr.cell? ⟨w.heap.size,2,none⟩=some (.int .u64 (p'.fr:Int)):=HL.out.2.box.cell 2;by_cases hlt:j<nd.ents.length
   · obtain⟨ge,hae,hcl⟩:=HE.out wr _ HL.out.2.bec.1 HQ1.out.2.1 j hlt;obtain⟨x,hx⟩:∃x,x=nd.ents[j]:=⟨_,rfl⟩;have HX:Hid (nd.ents[j]?=some x):=by show _=_;rw[hx];exact List.getElem?_eq_getElem hlt
     have x0:wr.cell? ⟨ge,j*6,none⟩=some (.string x.q):=(hcl 0 (by omega)).trans (by rw[←hx];rfl);have x1:wr.cell? ⟨ge,j*6+1,none⟩=some (.int .i32 x.val):=(hcl 1 (by omega)).trans (by rw[←hx];rfl);have x2:wr.cell? ⟨ge,j*6+2,none⟩=some (.int .u64 (x.fr:Int)):=(hcl 2 (by omega)).trans (by rw[←hx];rfl);have x3:wr.cell? ⟨ge,j*6+3,none⟩=some (.int .u64 (x.till:Int)):=(hcl 3 (by omega)).trans (by rw[←hx];rfl);have x4:wr.cell? ⟨ge,j*6+4,none⟩=some (.bool x.op):=(hcl 4 (by omega)).trans (by rw[←hx];rfl);have x5:wr.cell? ⟨ge,j*6+5,none⟩=some (.int .u64 (x.kn:Int)):=(hcl 5 (by omega)).trans (by rw[←hx];rfl);have hj0:(0:Int)≤(j:Int):=by omega
     have hj1:(j:Int)<(nd.ents.length:Int):=by omega
     have HAE:=hid hae;have hbs:b<wr.heap.size:=HL.out.2.bec.1.blk.lt;have hPs:w.heap.size<wr.heap.size:=HL.out.2.box.lt;clear hcl hx;subst hae;by_cases hq1:x.q=p'.q
     · have hqb:(x.q.toList==p'.q.toList)=true:=by rw[hq1];exact beq_self_eq_true _
       by_cases hfr:x.fr=p'.fr
       · exact absurd ⟨hq1,hfr⟩ (HNOS.out j x HX.out)
       · have hfb:((x.fr:Int)==(p'.fr:Int))=false:=beq_eq_false_iff_ne.mpr fun e=>hfr (by omega);have HNS:Hid (¬Z0 x p'):=fun h=>hfr h.2;clear hq1 hfr;go_wp2
         go_roundw
         case rel=>exact⟨j+1,by omega,by go_num,VB HL.out.1 HX.out HNS.out,HL.out.2.same (Za.alloc _ _ _)⟩
         case measure=>simp[intOf];omega
     · have hqb:(x.q.toList==p'.q.toList)=false:=beq_eq_false_iff_ne.mpr fun h=>hq1 (XU h);have HNS:Hid (¬Z0 x p'):=fun h=>hq1 h.1;clear hq1;go_wp2
       go_roundw
       case rel=>exact⟨j+1,by omega,by go_num,VB HL.out.1 HX.out HNS.out,HL.out.2.same (Za.alloc _ _ _)⟩
       case measure=>simp[intOf];omega
   · obtain rfl:j=nd.ents.length:=by omega
     clear y0 y2;obtain⟨room,hroom'⟩:∃x,x=R.room:=⟨_,rfl⟩;have r4:wr.cell? ⟨b,4,none⟩=some (.int .i64 room):=by rw[hroom',←HQ1.out.2.2.2.2.1];exact HL.out.2.bec.1.blk.cell 4
     have HNO1:Hid (∀(t:Nat)(y:Zh),nd.ents[t]?=some y→¬Z0 y p'):=fun t y hy=>HL.out.1 t y (List.getElem?_eq_some_iff.mp hy).1 hy;have HGV:Hid (R1.vn=.slice (some ⟨g,0,none⟩) R.nodes.length cap∧R1.vn.ownBlock=some g∧R1.nodes[k]?=some nd):=⟨by
      have:=n3;rw[HL.out.2.bec.1.c3]at this;injection this,by rw[HQ1.out.1];exact HVE.out.2.1,by rw[HQ1.out.2.1];exact HVE.out.1⟩
     by_cases hroom:room≤(nd.ents.length:Int)
     · rw[hroom']at hroom;have:=hroomc;omega
     · obtain⟨R2,hR2⟩:∃R2,R2=R1:=⟨_,rfl⟩;obtain⟨nd1,hnd1⟩:∃nd1,nd1=nd:=⟨_,rfl⟩;have HK2:Hid (((nd.ents.length:Int)<R.room∧nd1=nd)∨(R.room≤(nd.ents.length:Int)∧∃v1 v2,nd1=nd.without (XH R.uses nd).toNat v1 v2)):=.inl ⟨by rw[←hroom'];omega,hnd1⟩;have HP2:Hid (∀(n2:Zi),R2.putN k n2=(R.setPuts (R.puts.eraseIdx t) v1).putN k n2):=fun n2=>by rw[hR2,HR1.out]
       have HG2:Hid (R2.vn=.slice (some ⟨g,0,none⟩) R.nodes.length cap∧R2.vn.ownBlock=some g∧R2.nodes[k]?=some nd1∧R2.uses=R.uses∧R2.vs=R.vs∧R2.next=R.next):=by
        rw[hR2,hnd1];exact⟨HGV.out.1,HGV.out.2.1,HGV.out.2.2,HQ1.out.2.2.1,HQ1.out.2.2.2.1,HQ1.out.2.2.2.2.2⟩
       have HS2:Hid (Zq w b R wr R2 w.heap.size p'):=by rw[hR2];exact HL.out.2
       clear hR2 hnd1 hroom'
       go_wp2_with fail
       go_quiet (fail)
       go_wp2_with fail
       have HS3:Hid (Zq w b R (wr.drewN nq) R2 w.heap.size p'):=HS2.out.same ((Za.refl _ _).drewN nq);clear hroom r4 n3 m0 m1 m2 m3 m4 m5 m6 HS2;generalize wr.drewN nq=W at HS3⊢;obtain⟨i0,hi0,hz0,hz1,hz2⟩:=info_parts Tryz.infoEntry;have HI0:Hid (Tryz.prog.info? 55=some i0∧i0.zero=some (.agg #[.string ByteArray.empty,.int .i32 0,.int .u64 0,.int .u64 0,.bool false,.int .u64 0])∧i0.size=6∧i0.bytes=56):=⟨hi0,hz0,hz1,hz2⟩;obtain⟨i1,hi1,hw1,hw2,hw3⟩:=info_parts Tryz.infoInt;have HI1:Hid (Tryz.prog.info? 3=some i1∧i1.zero=some (.int .i64 0)∧i1.size=1∧i1.bytes=8):=⟨hi1,hw1,hw2,hw3⟩;obtain⟨a1,c1,hve1,_⟩:=(HS3.out.bec.1.ents nd1 (List.mem_of_getElem? HG2.out.2.2.1)).form;have HVE1:=hid hve1;obtain⟨n3,n5,_⟩:=VV HS3.out.bec.1 HG2.out.2.2.1 HG2.out.1 HG2.out.2.1;rw[hve1]at n5;have HLN:Hid (nd1.ents.length≤1000):=by
        rcases HK2.out with⟨_,e⟩|⟨_,v1,v2,e⟩
        · rw[e];exact hn
        · rw[e];exact Nat.le_trans (List.length_eraseIdx_le ..) hn
       obtain⟨len1,hlen1⟩:∃x,x=nd1.ents.length:=⟨_,rfl⟩;have HLE1:=hid hlen1;have k1:len1+1≤maxLen:=by have:=HLN.out;unfold maxLen;omega
       have k2:(len1+1)*56≤140737488355328:=by have:=HLN.out;omega
       rw[←hlen1]at n5;have b0:W.cell? ⟨w.heap.size,0,none⟩=some (.string p'.q):=HS3.out.box.cell 0;have b1:W.cell? ⟨w.heap.size,1,none⟩=some (.int .i32 p'.val):=HS3.out.box.cell 1;have b2:W.cell? ⟨w.heap.size,2,none⟩=some (.int .u64 (p'.fr:Int)):=HS3.out.box.cell 2;have b3:W.cell? ⟨w.heap.size,3,none⟩=some (.int .u64 (p'.till:Int)):=HS3.out.box.cell 3;have b4:W.cell? ⟨w.heap.size,4,none⟩=some (.bool p'.op):=HS3.out.box.cell 4;have b5:W.cell? ⟨w.heap.size,5,none⟩=some (.int .u64 (p'.kn:Int)):=HS3.out.box.cell 5;have HROW:Hid (∀W2:World,Za (fun _=>False) W W2→Row W2 55 6 (.slice a1 len1 c1) len1 (nd1.ents.flatMap Zk)):=fun W2 hk=>by
        rw[HLE1.out,←HVE1.out];exact(HS3.out.bec.1.ents nd1 (List.mem_of_getElem? HG2.out.2.2.1)).kept hk (fun _ _=>id)
       have HAP:Hid (∀(W2 w':World)(v':Value),Za (fun _=>False) W W2→Zc W2 w' 55 6 (.slice a1 len1 c1) v' len1 1 (nd1.ents.flatMap Zk) (Zk p')→w'.cell? ⟨b,3,none⟩=some (.slice (some ⟨g,0,none⟩) R.nodes.length cap)∧w'.cell? ⟨g,k*7+5,none⟩=some (.slice a1 len1 c1)∧w'.cell? ⟨w.heap.size,0,none⟩=some (.string p'.q)∧w'.cell? ⟨w.heap.size,1,none⟩=some (.int .i32 p'.val)∧w'.cell? ⟨w.heap.size,2,none⟩=some (.int .u64 (p'.fr:Int))∧w'.cell? ⟨w.heap.size,3,none⟩=some (.int .u64 (p'.till:Int))∧w'.cell? ⟨w.heap.size,4,none⟩=some (.bool p'.op)∧w'.cell? ⟨w.heap.size,5,none⟩=some (.int .u64 (p'.kn:Int))∧w'.frozen? ⟨g,k*7+5,none⟩=false∧Hid (∃v2,Zq w b R (w'.setCell ⟨g,k*7+5,none⟩ v') (R2.putN k (nd1.setEnts (nd1.ents++[p']) v2)) w.heap.size p')):=fun W2 w' v' hk hA=>by
        rw[HLE1.out,←HVE1.out]at hA;obtain⟨q1,q2,q3,q4,q5⟩:=ZcU HS3.out hk HG2.out.2.2.1 HG2.out.2.1 hA;exact⟨q2 3 _ n3,q1 _ _ n5,q5.cell 0,q5.cell 1,q5.cell 2,q5.cell 3,q5.cell 4,q5.cell 5,q3 _,v',q4⟩
       clear hi0 hz0 hz1 hz2 hi1 hw1 hw2 hw3 hve1 hlen1
       go_cut [9] (fun _ wx=>Hid (∃v',Zq w b R wx (R2.putN k (nd1.setEnts (nd1.ents++[p']) v')) w.heap.size p'))
       case first=>
        refine Zes (F:=fun wx=>∃v',Zq w b R wx (R2.putN k (nd1.setEnts (nd1.ents++[p']) v')) w.heap.size p') (fun _ _ _ _ _ h=>h) hk0 hk1 n3 n5 b0 b1 b2 b3 b4 b5 HI0 k1 k2 HROW HAP ?_;intros
        rename_i hF
        go_wp2
        go_meet
        case rel=>exact hF
       case rest=>
        have HCUT:=hcut;clear hcut;obtain⟨ve,hS4⟩:=HCUT.out;clear HS3 n3 n5 b0 b1 b2 b3 b4 b5 HROW HAP k1 k2 HI0 HCUT;obtain⟨nd2,hnd2⟩:∃nd2,nd2=nd1.setEnts (nd1.ents++[p']) ve:=⟨_,rfl⟩;obtain⟨R3,hR3⟩:∃R3,R3=R2.putN k nd2:=⟨_,rfl⟩;have HN2:=hid hnd2;have HP3:Hid (∀n2:Zi,R3.putN k n2=R2.putN k n2):=fun n2=>by rw[hR3];simp[Zd.putN,List.set_set]
        have hkl2:k<R2.nodes.length:=(List.getElem?_eq_some_iff.mp HG2.out.2.2.1).1;have HG3:Hid (R3.vn=.slice (some ⟨g,0,none⟩) R.nodes.length cap∧R3.vn.ownBlock=some g∧R3.nodes[k]?=some nd2∧R3.uses=R.uses∧R3.vs=R.vs∧R3.next=R.next):=by
         rw[hR3];exact⟨HG2.out.1,HG2.out.2.1,List.getElem?_set_self hkl2,HG2.out.2.2.2.1,HG2.out.2.2.2.2.1,HG2.out.2.2.2.2.2⟩
        rw[←hnd2,←hR3]at hS4;have HS4:=hid hS4;clear hnd2 hR3 hkl2 hS4;obtain⟨nx,hnxx⟩:∃nx,nx=R.next:=⟨_,rfl⟩;have HNX:=hid hnxx;obtain⟨a2,c2,hvm2,_⟩:=(HS4.out.bec.1.nms nd2 (List.mem_of_getElem? HG3.out.2.2.1)).form;have HVM2:=hid hvm2;obtain⟨n3,_,n6⟩:=VV HS4.out.bec.1 HG3.out.2.2.1 HG3.out.1 HG3.out.2.1;rw[hvm2]at n6;have HLM:Hid (nd2.nms.length≤1000):=by
         rw[HN2.out];show nd1.nms.length≤1000;rcases HK2.out with⟨_,e⟩|⟨_,v1,v2,e⟩
         · rw[e];have:=HVE.out.2.2.2.2;omega
         · rw[e];have:=HVE.out.2.2.2.2;have:=List.length_eraseIdx_le nd.nms (XH R.uses nd).toNat;show(nd.nms.eraseIdx _).length≤1000;omega
        obtain⟨len2,hlen2⟩:∃x,x=nd2.nms.length:=⟨_,rfl⟩;have HLE2:=hid hlen2;have k1:len2+1≤maxLen:=by have:=HLM.out;unfold maxLen;omega
        have k2:(len2+1)*8≤140737488355328:=by have:=HLM.out;omega
        rw[←hlen2]at n6;have m7:wc.cell? ⟨b,7,none⟩=some (.int .i64 nx):=by rw[hnxx,←HG3.out.2.2.2.2.2];exact HS4.out.bec.1.blk.cell 7
        have HROW:Hid (∀W2:World,Za (fun _=>False) wc W2→Row W2 3 1 (.slice a2 len2 c2) len2 (ZQ nd2.nms)):=fun W2 hk=>by
         rw[HLE2.out,←HVM2.out];exact(HS4.out.bec.1.nms nd2 (List.mem_of_getElem? HG3.out.2.2.1)).kept hk (fun _ _=>id)
        have HAP:Hid (∀(W2 w':World)(v':Value),Za (fun _=>False) wc W2→Zc W2 w' 3 1 (.slice a2 len2 c2) v' len2 1 (ZQ nd2.nms) [.int .i64 nx]→w'.cell? ⟨b,3,none⟩=some (.slice (some ⟨g,0,none⟩) R.nodes.length cap)∧w'.cell? ⟨g,k*7+6,none⟩=some (.slice a2 len2 c2)∧w'.cell? ⟨b,7,none⟩=some (.int .i64 nx)∧w'.frozen? ⟨g,k*7+6,none⟩=false∧Hid (∃v2,Zq w b R (w'.setCell ⟨g,k*7+6,none⟩ v') (R3.putN k (nd2.setNms (nd2.nms++[nx]) v2)) w.heap.size p')):=fun W2 w' v' hk hA=>by
         rw[HLE2.out,←HVM2.out]at hA;obtain⟨q1,q2,q3,q4⟩:=ZeK HS4.out hk HG3.out.2.2.1 HG3.out.2.1 hA;exact⟨q2 3 _ n3,q1 _ _ n6,q2 7 _ m7,q3 _,v',q4⟩
        clear hvm2 hlen2 hnxx
        go_wp2_with fail
        go_cut [9] (fun _ wx=>Hid (∃v',Zq w b R wx (R3.putN k (nd2.setNms (nd2.nms++[nx]) v')) w.heap.size p'))
        case first=>
         refine Zfh (F:=fun wx=>∃v',Zq w b R wx (R3.putN k (nd2.setNms (nd2.nms++[nx]) v')) w.heap.size p') (fun _ _ _ _ _ h=>h) hk0 hk1 n3 n6 m7 HI1 k1 k2 HROW HAP ?_;intros
         rename_i hF
         go_wp2
         go_meet
         case rel=>exact hF
        case rest=>
         have HCUT:=hcut;clear hcut;obtain⟨vm,hS5⟩:=HCUT.out;clear HS4 n3 n6 m7 HROW HAP k1 k2 HCUT;obtain⟨R4,hR4⟩:∃R4,R4=R3.putN k (nd2.setNms (nd2.nms++[nx]) vm):=⟨_,rfl⟩;have HR4:Hid (R4=R3.putN k (nd2.setNms (nd2.nms++[nx]) vm)∧R4.uses=R.uses∧R4.vs=R.vs∧R4.next=R.next):=by rw[hR4];exact⟨rfl,HG3.out.2.2.2.1,HG3.out.2.2.2.2.1,HG3.out.2.2.2.2.2⟩
         rw[←hR4]at hS5;have HS5:=hid hS5;clear hR4 hS5;obtain⟨a3,c3,hvs3,_⟩:=HS5.out.bec.1.uses.form;have HVS3:=hid hvs3;obtain⟨len3,hlen3⟩:∃x,x=R4.uses.length:=⟨_,rfl⟩;have HLE3:=hid hlen3;have k1:len3+1≤maxLen:=by rw[hlen3,HR4.out.2.1];unfold maxLen;omega
         have k2:(len3+1)*8≤140737488355328:=by rw[hlen3,HR4.out.2.1];omega
         have n6:wc.cell? ⟨b,6,none⟩=some (.slice a3 len3 c3):=by rw[hlen3,←hvs3];exact HS5.out.bec.1.blk.cell 6
         have m7:wc.cell? ⟨b,7,none⟩=some (.int .i64 nx):=by rw[HNX.out,←HR4.out.2.2.2];exact HS5.out.bec.1.blk.cell 7
         have HROW:Hid (∀W2:World,Za (fun _=>False) wc W2→Row W2 3 1 (.slice a3 len3 c3) len3 (ZQ R4.uses)):=fun W2 hk=>by
          rw[HLE3.out,←HVS3.out];exact HS5.out.bec.1.uses.kept hk (fun _ _=>id)
         have HAP:Hid (∀(W2 w':World)(v':Value),Za (fun _=>False) wc W2→Zc W2 w' 3 1 (.slice a3 len3 c3) v' len3 1 (ZQ R4.uses) [.int .i64 nx]→w'.cell? ⟨b,6,none⟩=some (.slice a3 len3 c3)∧w'.cell? ⟨b,7,none⟩=some (.int .i64 nx)∧w'.frozen? ⟨b,6,none⟩=false∧Hid (∃v2,Zs w b R (w'.setCell ⟨b,6,none⟩ v') (R4.pushUse nx v2))):=fun W2 w' v' hk hA=>by
          rw[HLE3.out,←HVS3.out]at hA;obtain⟨_,q2,q3,q4⟩:=Za4 HS5.out hk hA;exact⟨q2 6 _ n6,q2 7 _ m7,q3 _,v',q4⟩
         clear hvs3 hlen3
         go_wp2_with fail
         go_cut [9] (fun _ wx=>Hid (∃v',Zs w b R wx (R4.pushUse nx v')))
         case first=>
          refine Zfn (F:=fun wx=>∃v',Zs w b R wx (R4.pushUse nx v')) (fun _ _ _ _ _ h=>h) n6 m7 HI1 k1 k2 HROW HAP ?_;intros
          rename_i hF
          go_wp2
          go_meet
          case rel=>exact hF
         case rest=>
          have HCUT:=hcut;clear hcut;obtain⟨vs,hB6⟩:=HCUT.out;have HB6:=hid hB6;clear HS5 n6 m7 HROW HAP k1 k2 HCUT hB6;have m7:wc.cell? ⟨b,7,none⟩=some (.int .i64 nx):=by rw[HNX.out,←HR4.out.2.2.2];exact HB6.out.1.blk.cell 7
          have f7:=HB6.out.1.blk.free 7;have HFIN:Hid (XR w b R t k nd p' (.returned (.tuple #[.bool true,.int .i64 0])) (wc.setCell ⟨b,7,none⟩ (.int .i64 (nx+1)))):=by
           refine⟨rfl,.inr ⟨HNO1.out,nd1,v1,ve,vm,vs,HK2.out,?_⟩⟩;have hB:=HB6.out.trans (HB6.out.1.next1 (nx+1));have e1:({R4.pushUse nx vs with next:=nx+1}:Zd)={((R.setPuts (R.puts.eraseIdx t) v1).putN k ((nd1.setEnts (nd1.ents++[p']) ve).setNms (nd1.nms++[R.next]) vm)).pushUse R.next vs with next:=R.next+1}:=by
            rw[HR4.out.1,HP3.out,HP2.out,HN2.out,HNX.out];rfl
           rw[e1]at hB;exact hB
          have hnx1:IntKind.i64.wrap (nx+1)=nx+1:=by
           have:=hnx.1;have:=hnx.2;rw[HNX.out];simp[IntKind.wrap,IntKind.bits,IntKind.signed];omega
          go_wp2;exact bodyPost_ret (v:=.tuple #[.bool true,.int .i64 0]) (by simp[results,Tryz.results46,go_sem]) rfl HFIN.out
end Go.Proofs.YtpfcacedpkaihaaGreat
