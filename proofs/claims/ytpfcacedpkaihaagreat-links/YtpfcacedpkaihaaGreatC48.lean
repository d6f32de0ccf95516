import Derived.Test.YtpfcacedpkaihaaGreatC45
import Derived.Test.YtpfcacedpkaihaaGreatC46
import Derived.Test.YtpfcacedpkaihaaGreatC47
namespace Go.Proofs.YtpfcacedpkaihaaGreat
open Go.RowKit
set_option maxRecDepth 100000
set_option maxHeartbeats 16000000
theorem Zf6 (w:World)(b:Nat)(R:Zd)(i:Int)(h:Ref w b R)(hi:i<0∨(R.puts.length:Int)≤i):
 Calls Tryz.prog 46 #[.pointer (some ⟨b,0,none⟩),.int .i64 i] w fun e w'=>e=.returned (.tuple #[.bool false,.int .i64 10])∧w=w':=by
 obtain⟨ao,cap,hv,_⟩:=h.puts.form;have c5:=h.c5;rw[hv]at c5;by_cases h0:i<0
 · have hd:decide (i<0)=true:=by simpa using h0
   clear hi h hv;go_enter Tryz.func46,Tryz.ntmps46;go_wp2;exact bodyPost_ret (v:=.tuple #[.bool false,.int .i64 10]) (by simp[results,Tryz.results46,go_sem]) rfl ⟨rfl,rfl⟩
 · have hd:decide (i<0)=false:=by simpa using h0
   have h1:(R.puts.length:Int)≤i:=by omega
   have hd1:decide ((R.puts.length:Int)≤i)=true:=by simpa using h1
   clear hi h hv;go_enter Tryz.func46,Tryz.ntmps46;go_wp2;exact bodyPost_ret (v:=.tuple #[.bool false,.int .i64 10]) (by simp[results,Tryz.results46,go_sem]) rfl ⟨rfl,rfl⟩
def ZaZ (w:World)(b:Nat)(R:Zd)(t:Nat)(e:Ending)(w':World):Prop:=e=.returned (.tuple #[.bool false,.int .i64 0])∧∃v,Zs w b R w' (R.setPuts (R.puts.eraseIdx t) v)
theorem ZeH (w:World)(b:Nat)(R:Zd)(t k:Nat)(nd:Zi)(p:Zh)(h:Ref w b R)(hf:R.Fit)(hp10:R.puts.length≤10)(ht:R.puts[t]?=some p)(hq:p.q.size≤40)(hk:k=YZ p.q.data.toList%R.nodes.length)(hnd:R.nodes[k]?=some nd)(hup:nd.up=false):
 Calls Tryz.prog 46 #[.pointer (some ⟨b,0,none⟩),.int .i64 (t:Int)] w fun e w'=>ZaZ w b R t e w':=by
 obtain⟨htl,ht'⟩:=List.getElem?_eq_some_iff.mp ht;obtain⟨hkl,hnd'⟩:=List.getElem?_eq_some_iff.mp hnd;obtain⟨gp,cpp,hvp,hop,hgpl⟩:=h.puts.block (by omega);obtain⟨g,cap,hv,ho,hgl⟩:=h.nodes.block (by omega);have c5:=h.c5;rw[hvp]at c5;have c3:=h.c3;rw[hv]at c3;have hput:∀f,f<6→∀u,(Zk p)[f]?=some u→w.cell? ⟨gp,t*6+f,none⟩=some u:=fun f hf u hu=>h.puts.cell hop _ u (by rw[ZO Zk 6 (fun _=>rfl) R.puts t htl f hf,ht'];exact hu);have q0:w.cell? ⟨gp,t*6,none⟩=some (.string p.q):=hput 0 (by omega) _ rfl;have q1:w.cell? ⟨gp,t*6+1,none⟩=some (.int .i32 p.val):=hput 1 (by omega) _ rfl;have q2:w.cell? ⟨gp,t*6+2,none⟩=some (.int .u64 (p.fr:Int)):=hput 2 (by omega) _ rfl;have q3:w.cell? ⟨gp,t*6+3,none⟩=some (.int .u64 (p.till:Int)):=hput 3 (by omega) _ rfl;have q4:w.cell? ⟨gp,t*6+4,none⟩=some (.bool p.op):=hput 4 (by omega) _ rfl;have q5:w.cell? ⟨gp,t*6+5,none⟩=some (.int .u64 (p.kn:Int)):=hput 5 (by omega) _ rfl;obtain⟨ae,ce,hve,_⟩:=(h.ents nd (List.mem_of_getElem? hnd)).form;obtain⟨am,cm,hvm,_⟩:=(h.nms nd (List.mem_of_getElem? hnd)).form;obtain⟨af,cf,hvf,_⟩:=(h.fls nd (List.mem_of_getElem? hnd)).form;obtain⟨aw,cw,hvw,_⟩:=(h.wts nd (List.mem_of_getElem? hnd)).form;have hgb:g≠b:=fun e=>h.nodes.ne_block h.blk (by decide) (by rw[ho,e]);have hbg:b≠g:=Ne.symm hgb;have hbl:=h.blk.lt;have hn0:=hf.npos;have hn3:=hf.nmax;have HNO:Hid (∀W,W.cell? ⟨b,3,none⟩=some (.slice (some ⟨g,0,none⟩) R.nodes.length cap)→Calls Tryz.prog 93 #[.pointer (some ⟨b,0,none⟩),.string p.q] W fun e w'=>e=.returned (.int .i64 (k:Int))∧W=w'):=fun W hc=>by
  rw[hk];exact Xy W b _ _ _ p.q hc hn0 hn3 hq
 have HN:Hid (∀(W:World)(R1:Zd),Ref W b R1→R1.vn=R.vn→R1.nodes=R.nodes→W.cell? ⟨b,3,none⟩=some (.slice (some ⟨g,0,none⟩) R.nodes.length cap)∧W.cell? ⟨g,k*7,none⟩=some (.bool false)∧W.cell? ⟨g,k*7+1,none⟩=some (.int .u64 (nd.since:Int))∧W.cell? ⟨g,k*7+2,none⟩=some (.int .u64 (nd.horizon:Int))∧W.cell? ⟨g,k*7+3,none⟩=some (.slice af nd.fls.length cf)∧W.cell? ⟨g,k*7+4,none⟩=some (.slice aw nd.wts.length cw)∧W.cell? ⟨g,k*7+5,none⟩=some (.slice ae nd.ents.length ce)∧W.cell? ⟨g,k*7+6,none⟩=some (.slice am nd.nms.length cm)):=by
  intro W R1 hr e1 e2;have hc:∀f,f<7→∀u,(nodeC nd)[f]?=some u→W.cell? ⟨g,k*7+f,none⟩=some u:=fun f hf u hu=>hr.nodes.cell (by rw[e1];exact ho) _ u (by rw[e2,Zy R.nodes k hkl f hf,hnd'];exact hu);refine⟨by rw[hr.c3,e1,hv],?_,hc 1 (by omega) _ rfl,hc 2 (by omega) _ rfl,?_,?_,?_,?_⟩
  · rw[←hup];exact hc 0 (by omega) _ rfl
  · rw[←hvf];exact hc 3 (by omega) _ rfl
  · rw[←hvw];exact hc 4 (by omega) _ rfl
  · rw[←hve];exact hc 5 (by omega) _ rfl
  · rw[←hvm];exact hc 6 (by omega) _ rfl
 have HWO:Hid (∀W,Za (fun _=>False) w W→Calls Tryz.prog 100 #[.slice (some ⟨gp,0,none⟩) R.puts.length cpp,.int .i64 (t:Int)] W fun e w'=>∃ao c',e=.returned (.slice ao (R.puts.length-1) c')∧w'.cell? ⟨b,5,none⟩=some (.slice (some ⟨gp,0,none⟩) R.puts.length cpp)∧w'.frozen? ⟨b,5,none⟩=false∧w'.cell? ⟨b,3,none⟩=some (.slice (some ⟨g,0,none⟩) R.nodes.length cap)∧w'.cell? ⟨g,k*7,none⟩=some (.bool false)∧(∀a v,W.cell? a=some v→w'.cell? a=some v)∧Hid (Za (fun _=>False) W w'∧(∀x,(Value.slice ao (R.puts.length-1) c').ownBlock=some x→W.heap.size≤x)∧Zs w b R (w'.setCell ⟨b,5,none⟩ (.slice ao (R.puts.length-1) c')) (R.setPuts (R.puts.eraseIdx t) (.slice ao (R.puts.length-1) c')))):=by
  intro W hW;have hre:=h.puts.kept hW (fun _ _=>id);rw[hvp]at hre;refine(YP hre rfl htl (by omega)).mono fun e w' hp=> ?_;obtain⟨v,e1,r1,k1,o1⟩:=hp;obtain⟨ao,c',hv',_⟩:=r1.form;subst e1 hv';have hkk:Za (fun _=>False) w w':=hW.trans k1 (fun _=>id) (fun _ _=>id);have hsz:=hW.size;have hrw:=h.kept hkk (fun _ _=>id);obtain⟨n3,n0,_⟩:=HN.out w' R hrw rfl rfl;refine⟨ao,c',rfl,hkk.hold c5,hrw.blk.free 5,n3,n0,fun a v hc=>k1.hold hc,k1,o1,h.setPuts _ _ hkk ?_ fun x hx=>by have:=o1 x hx;omega⟩;rw[List.length_eraseIdx_of_lt htl];exact r1
 have ht0:(0:Int)≤(t:Int):=by omega
 have ht1:(t:Int)<(R.puts.length:Int):=by omega
 have hd0:decide ((t:Int)<0)=false:=by simp
 have hd1:decide ((R.puts.length:Int)≤(t:Int))=false:=by simp;omega
 have hk0:(0:Int)≤(k:Int):=by omega
 have hk1:(k:Int)<(R.nodes.length:Int):=by omega
 clear h hf hput hvp hop hgpl hve hvm hvf hvw ho hv hnd' hnd hk ht' ht hup;go_enter Tryz.func46,Tryz.ntmps46
 go_wp2_with first
  |(go_at_call 100;refine(HWO.out _ (Za.alloc _ _ _)).mono ?_;rintro e w1 ⟨ao,c',rfl,z5,zf,z3,z0,hold,HB⟩;have x0:w1.cell? ⟨w.heap.size,0,none⟩=some (.string p.q):=hold _ _ ((Blk.new w _ _).cell 0);have hbP:b≠w.heap.size:=Nat.ne_of_lt hbl;have hPb:w.heap.size≠b:=Ne.symm hbP;clear hold c5 c3 q0 q1 q2 q3 q4 q5)
  |(go_at_call 93;refine(HNO.out _ (HN.out _ _ HB.out.2.2.1 rfl rfl).1).mono ?_;rintro e w2 ⟨rfl,rfl⟩)
 exact bodyPost_ret (v:=.tuple #[.bool false,.int .i64 0]) (by simp[results,Tryz.results46,go_sem]) rfl ⟨rfl,_,HB.out.2.2⟩
theorem Zee (w:World)(b:Nat)(R:Zd)(t k:Nat)(nd:Zi)(p:Zh)(h:Ref w b R)(hf:R.Fit)(hp10:R.puts.length≤10)(ht:R.puts[t]?=some p)(hq:p.q.size≤40)(hk:k=YZ p.q.data.toList%R.nodes.length)(hnd:R.nodes[k]?=some nd)(hup:nd.up=true)
 (hlate:∀(W:World)(v:Value),Ref W b (R.setPuts (R.puts.eraseIdx t) v)→Calls Tryz.prog 102 #[.pointer (some ⟨b,0,none⟩),.agg #[.bool true,.int .u64 (nd.since:Int),.int .u64 (nd.horizon:Int),nd.fl,nd.wt,nd.en,nd.nm],.agg (Z8 p)] W fun e w'=>(∃y,e=.returned (.tuple #[.agg (Z8 y),.bool false]))∧Za (fun _=>False) W w'):
 Calls Tryz.prog 46 #[.pointer (some ⟨b,0,none⟩),.int .i64 (t:Int)] w fun e w'=>ZaZ w b R t e w':=by
 obtain⟨htl,ht'⟩:=List.getElem?_eq_some_iff.mp ht;obtain⟨hkl,hnd'⟩:=List.getElem?_eq_some_iff.mp hnd;obtain⟨gp,cpp,hvp,hop,hgpl⟩:=h.puts.block (by omega);obtain⟨g,cap,hv,ho,hgl⟩:=h.nodes.block (by omega);have c5:=h.c5;rw[hvp]at c5;have c3:=h.c3;rw[hv]at c3;have hput:∀f,f<6→∀u,(Zk p)[f]?=some u→w.cell? ⟨gp,t*6+f,none⟩=some u:=fun f hf u hu=>h.puts.cell hop _ u (by rw[ZO Zk 6 (fun _=>rfl) R.puts t htl f hf,ht'];exact hu);have q0:w.cell? ⟨gp,t*6,none⟩=some (.string p.q):=hput 0 (by omega) _ rfl;have q1:w.cell? ⟨gp,t*6+1,none⟩=some (.int .i32 p.val):=hput 1 (by omega) _ rfl;have q2:w.cell? ⟨gp,t*6+2,none⟩=some (.int .u64 (p.fr:Int)):=hput 2 (by omega) _ rfl;have q3:w.cell? ⟨gp,t*6+3,none⟩=some (.int .u64 (p.till:Int)):=hput 3 (by omega) _ rfl;have q4:w.cell? ⟨gp,t*6+4,none⟩=some (.bool p.op):=hput 4 (by omega) _ rfl;have q5:w.cell? ⟨gp,t*6+5,none⟩=some (.int .u64 (p.kn:Int)):=hput 5 (by omega) _ rfl;obtain⟨ae,ce,hve,_⟩:=(h.ents nd (List.mem_of_getElem? hnd)).form;obtain⟨am,cm,hvm,_⟩:=(h.nms nd (List.mem_of_getElem? hnd)).form;obtain⟨af,cf,hvf,_⟩:=(h.fls nd (List.mem_of_getElem? hnd)).form;obtain⟨aw,cw,hvw,_⟩:=(h.wts nd (List.mem_of_getElem? hnd)).form;have hgb:g≠b:=fun e=>h.nodes.ne_block h.blk (by decide) (by rw[ho,e]);have hbg:b≠g:=Ne.symm hgb;have hbl:=h.blk.lt;have hn0:=hf.npos;have hn3:=hf.nmax;have HNO:Hid (∀W,W.cell? ⟨b,3,none⟩=some (.slice (some ⟨g,0,none⟩) R.nodes.length cap)→Calls Tryz.prog 93 #[.pointer (some ⟨b,0,none⟩),.string p.q] W fun e w'=>e=.returned (.int .i64 (k:Int))∧W=w'):=fun W hc=>by
  rw[hk];exact Xy W b _ _ _ p.q hc hn0 hn3 hq
 have HN:Hid (∀(W:World)(R1:Zd),Ref W b R1→R1.vn=R.vn→R1.nodes=R.nodes→W.cell? ⟨b,3,none⟩=some (.slice (some ⟨g,0,none⟩) R.nodes.length cap)∧W.cell? ⟨g,k*7,none⟩=some (.bool true)∧W.cell? ⟨g,k*7+1,none⟩=some (.int .u64 (nd.since:Int))∧W.cell? ⟨g,k*7+2,none⟩=some (.int .u64 (nd.horizon:Int))∧W.cell? ⟨g,k*7+3,none⟩=some (.slice af nd.fls.length cf)∧W.cell? ⟨g,k*7+4,none⟩=some (.slice aw nd.wts.length cw)∧W.cell? ⟨g,k*7+5,none⟩=some (.slice ae nd.ents.length ce)∧W.cell? ⟨g,k*7+6,none⟩=some (.slice am nd.nms.length cm)):=by
  intro W R1 hr e1 e2;have hc:∀f,f<7→∀u,(nodeC nd)[f]?=some u→W.cell? ⟨g,k*7+f,none⟩=some u:=fun f hf u hu=>hr.nodes.cell (by rw[e1];exact ho) _ u (by rw[e2,Zy R.nodes k hkl f hf,hnd'];exact hu);refine⟨by rw[hr.c3,e1,hv],?_,hc 1 (by omega) _ rfl,hc 2 (by omega) _ rfl,?_,?_,?_,?_⟩
  · rw[←hup];exact hc 0 (by omega) _ rfl
  · rw[←hvf];exact hc 3 (by omega) _ rfl
  · rw[←hvw];exact hc 4 (by omega) _ rfl
  · rw[←hve];exact hc 5 (by omega) _ rfl
  · rw[←hvm];exact hc 6 (by omega) _ rfl
 have HWO:Hid (∀W,Za (fun _=>False) w W→Calls Tryz.prog 100 #[.slice (some ⟨gp,0,none⟩) R.puts.length cpp,.int .i64 (t:Int)] W fun e w'=>∃ao c',e=.returned (.slice ao (R.puts.length-1) c')∧w'.cell? ⟨b,5,none⟩=some (.slice (some ⟨gp,0,none⟩) R.puts.length cpp)∧w'.frozen? ⟨b,5,none⟩=false∧w'.cell? ⟨b,3,none⟩=some (.slice (some ⟨g,0,none⟩) R.nodes.length cap)∧w'.cell? ⟨g,k*7,none⟩=some (.bool true)∧(∀a v,W.cell? a=some v→w'.cell? a=some v)∧Hid (Za (fun _=>False) W w'∧(∀x,(Value.slice ao (R.puts.length-1) c').ownBlock=some x→W.heap.size≤x)∧Zs w b R (w'.setCell ⟨b,5,none⟩ (.slice ao (R.puts.length-1) c')) (R.setPuts (R.puts.eraseIdx t) (.slice ao (R.puts.length-1) c')))):=by
  intro W hW;have hre:=h.puts.kept hW (fun _ _=>id);rw[hvp]at hre;refine(YP hre rfl htl (by omega)).mono fun e w' hp=> ?_;obtain⟨v,e1,r1,k1,o1⟩:=hp;obtain⟨ao,c',hv',_⟩:=r1.form;subst e1 hv';have hkk:Za (fun _=>False) w w':=hW.trans k1 (fun _=>id) (fun _ _=>id);have hsz:=hW.size;have hrw:=h.kept hkk (fun _ _=>id);obtain⟨n3,n0,_⟩:=HN.out w' R hrw rfl rfl;refine⟨ao,c',rfl,hkk.hold c5,hrw.blk.free 5,n3,n0,fun a v hc=>k1.hold hc,k1,o1,h.setPuts _ _ hkk ?_ fun x hx=>by have:=o1 x hx;omega⟩;rw[List.length_eraseIdx_of_lt htl];exact r1
 have HLT:Hid (∀(W:World)(v:Value),Ref W b (R.setPuts (R.puts.eraseIdx t) v)→Calls Tryz.prog 102 #[.pointer (some ⟨b,0,none⟩),.agg #[.bool true,.int .u64 (nd.since:Int),.int .u64 (nd.horizon:Int),.slice af nd.fls.length cf,.slice aw nd.wts.length cw,.slice ae nd.ents.length ce,.slice am nd.nms.length cm],.agg #[.string p.q,.int .i32 p.val,.int .u64 (p.fr:Int),.int .u64 (p.till:Int),.bool p.op,.int .u64 (p.kn:Int)]] W fun e w'=>∃y:Zh,e=.returned (.tuple #[.agg #[.string y.q,.int .i32 y.val,.int .u64 (y.fr:Int),.int .u64 (y.till:Int),.bool y.op,.int .u64 (y.kn:Int)],.bool false])∧Za (fun _=>False) W w'):=by
  rw[←hvf,←hvw,←hve,←hvm];exact fun W v hr=>(hlate W v hr).mono fun e w' hp=>by obtain⟨⟨y,hy⟩,hk⟩:=hp;exact⟨y,hy,hk⟩
 have ht0:(0:Int)≤(t:Int):=by omega
 have ht1:(t:Int)<(R.puts.length:Int):=by omega
 have hd0:decide ((t:Int)<0)=false:=by simp
 have hd1:decide ((R.puts.length:Int)≤(t:Int))=false:=by simp;omega
 have hk0:(0:Int)≤(k:Int):=by omega
 have hk1:(k:Int)<(R.nodes.length:Int):=by omega
 have HH:=hid h;clear h hf hlate hput hvp hop hgpl hve hvm hvf hvw ho hv hnd' hnd hk ht' ht hup;go_enter Tryz.func46,Tryz.ntmps46
 go_wp2_with first
  |(go_at_call 100;refine(HWO.out _ (Za.alloc _ _ _)).mono ?_;rintro e w1 ⟨ao,c',rfl,z5,zf,z3,z0,hold,HB⟩;have x0:w1.cell? ⟨w.heap.size,0,none⟩=some (.string p.q):=hold _ _ ((Blk.new w _ _).cell 0);have hbP:b≠w.heap.size:=Nat.ne_of_lt hbl;have hPb:w.heap.size≠b:=Ne.symm hbP;clear hold c5 c3 q0 q1 q2 q3 q4 q5)
  |(go_at_call 93;refine(HNO.out _ (HN.out _ _ HB.out.2.2.1 rfl rfl).1).mono ?_;rintro e w2 ⟨rfl,rfl⟩)
 have HS:Hid (Zq w b R (w1.setCell ⟨b,5,none⟩ (.slice ao (R.puts.length-1) c')) (R.setPuts (R.puts.eraseIdx t) (.slice ao (R.puts.length-1) c')) w.heap.size p):=Vr ⟨HB.out.1,HB.out.2.2⟩ HH.out fun x hx=>(by have:=HB.out.2.1 x hx;simp at this;omega);generalize w1.setCell ⟨b,5,none⟩ (.slice ao (R.puts.length-1) c')=W at HS⊢;obtain⟨v1,hv1⟩:∃v1,v1=Value.slice ao (R.puts.length-1) c':=⟨_,rfl⟩;rw[←hv1]at HS;clear hv1 HB z5 zf z3 z0 x0;obtain⟨n3,m0,m1,m2,m3,m4,m5,m6⟩:=HN.out W _ HS.out.bec.1 rfl rfl;have y0:W.cell? ⟨w.heap.size,0,none⟩=some (.string p.q):=HS.out.box.cell 0;have y1:W.cell? ⟨w.heap.size,1,none⟩=some (.int .i32 p.val):=HS.out.box.cell 1;have y2:W.cell? ⟨w.heap.size,2,none⟩=some (.int .u64 (p.fr:Int)):=HS.out.box.cell 2;have y3:W.cell? ⟨w.heap.size,3,none⟩=some (.int .u64 (p.till:Int)):=HS.out.box.cell 3;have y4:W.cell? ⟨w.heap.size,4,none⟩=some (.bool p.op):=HS.out.box.cell 4;have y5:W.cell? ⟨w.heap.size,5,none⟩=some (.int .u64 (p.kn:Int)):=HS.out.box.cell 5
 go_cut [8] (fun v wx=>v=.bool false∧Hid (∃y,Zq w b R wx (R.setPuts (R.puts.eraseIdx t) v1) w.heap.size y))
 case first=>
  go_region_with (go_at_call 102;refine(HLT.out _ v1 (HS.out.bec.1.drewN _)).mono ?_;rintro e w3 ⟨yy,rfl,hk3⟩;have HS3:Hid (Zq w b R w3 (R.setPuts (R.puts.eraseIdx t) v1) w.heap.size p):=VL HS.out hk3;obtain⟨r3,l0,l1,l2,l3,l4,l5,l6⟩:=HN.out w3 _ HS3.out.bec.1 rfl rfl;have f0:=HS3.out.box.free 0;have f1:=HS3.out.box.free 1;have f2:=HS3.out.box.free 2;have f3:=HS3.out.box.free 3;have f4:=HS3.out.box.free 4;have f5:=HS3.out.box.free 5;have u0:w3.cell? ⟨w.heap.size,0,none⟩=some (.string p.q):=HS3.out.box.cell 0;have u1:w3.cell? ⟨w.heap.size,1,none⟩=some (.int .i32 p.val):=HS3.out.box.cell 1;have u2:w3.cell? ⟨w.heap.size,2,none⟩=some (.int .u64 (p.fr:Int)):=HS3.out.box.cell 2;have u3:w3.cell? ⟨w.heap.size,3,none⟩=some (.int .u64 (p.till:Int)):=HS3.out.box.cell 3;have u4:w3.cell? ⟨w.heap.size,4,none⟩=some (.bool p.op):=HS3.out.box.cell 4;have u5:w3.cell? ⟨w.heap.size,5,none⟩=some (.int .u64 (p.kn:Int)):=HS3.out.box.cell 5;clear y0 y1 y2 y3 y4 y5 n3 m0 m1 m2 m3 m4 m5 m6)
  all_goals
   go_wp2
   go_meet
   case rel=>exact⟨rfl,yy,HS3.out.setBox (Nat.le_refl _) yy⟩
 case rest=>
  obtain⟨rfl,HS4⟩:=hcut;clear y0 y1 y2 y3 y4 y5 n3 m0 m1 m2 m3 m4 m5 m6;have HFIN:Hid (ZaZ w b R t (.returned (.tuple #[.bool false,.int .i64 0])) wc):=by
   obtain⟨yy,hS⟩:=HS4.out;exact⟨rfl,v1,hS.bec⟩
  go_wp2;exact bodyPost_ret (v:=.tuple #[.bool false,.int .i64 0]) (by simp[results,Tryz.results46,go_sem]) rfl HFIN.out
theorem rstore (w:World)(b:Nat)(R:Zd)(i:Int)(h:Ref w b R)(hf:R.Fit)(hp10:R.puts.length≤10)(hpq:∀p∈R.puts,p.q.size≤40)(hel:∀nd∈R.nodes,nd.nms.length=nd.ents.length∧nd.ents.length≤1000∧nd.horizon<R.past.length)(hu:R.uses.length<4000000000000)(hr1:1≤R.room)(hnx:R.next<4000000000000∧0≤R.next):
 Calls Tryz.prog 46 #[.pointer (some ⟨b,0,none⟩),.int .i64 i] w fun e w'=>Zai w b R i e w':=by
 by_cases hi:i<0∨(R.puts.length:Int)≤i
 · exact(Zf6 w b R i h hi).mono fun e w' hp=>.inl ⟨hi,hp.1,hp.2⟩
 · obtain⟨t,rfl⟩:∃t:Nat,i=t:=⟨i.toNat,by omega⟩;have htl:t<R.puts.length:=by omega
   obtain⟨p,ht⟩:∃p,R.puts[t]?=some p:=⟨_,List.getElem?_eq_getElem htl⟩;obtain⟨k,hk⟩:∃k,k=YZ p.q.data.toList%R.nodes.length:=⟨_,rfl⟩;have hkl:k<R.nodes.length:=by rw[hk];exact Nat.mod_lt _ hf.npos
   obtain⟨nd,hnd⟩:∃nd,R.nodes[k]?=some nd:=⟨_,List.getElem?_eq_getElem hkl⟩;have hq:=hpq p (List.mem_of_getElem? ht);obtain⟨e1,e2,e3⟩:=hel nd (List.mem_of_getElem? hnd);have no:∀{e w'},ZaZ w b R t e w'→(nd.up=false∨Vz R.past nd.since nd.horizon p=none)→Zai w b R (t:Int) e w':=fun hp hno=>by
    obtain⟨h1,v,h2⟩:=hp;exact .inr ⟨t,k,p,nd,v,rfl,ht,hk,hnd,.inl ⟨hno,h1,h2⟩⟩
   cases hup:nd.up with
   |false=>exact(ZeH w b R t k nd p h hf hp10 ht hq hk hnd hup).mono fun e w' hp=>no hp (.inl hup)
   |true=>
    have hla:∀(W:World)(v:Value),Ref W b (R.setPuts (R.puts.eraseIdx t) v)→Calls Tryz.prog 102 #[.pointer (some ⟨b,0,none⟩),.agg #[.bool true,.int .u64 (nd.since:Int),.int .u64 (nd.horizon:Int),nd.fl,nd.wt,nd.en,nd.nm],.agg (Z8 p)] W fun e w'=>Zfb W R.past nd.since nd.horizon p e w':=fun W v hr=>
     rlate W b (R.setPuts (R.puts.eraseIdx t) v) true nd.since nd.horizon nd.fl nd.wt nd.en nd.nm p hr ⟨hf.pos,hf.pmax,hf.clk0,hf.clk1,hf.rmax,hf.npos,hf.nmax,hf.fmax⟩ e3 (by unfold maxLen;omega)
    cases hL:Vz R.past nd.since nd.horizon p with
    |none=>
     refine(Zee w b R t k nd p h hf hp10 ht hq hk hnd hup fun W v hr=>(hla W v hr).mono fun e w' hp=> ?_).mono fun e w' hp=>no hp (.inr hL);obtain⟨k1,⟨y,h1,_⟩|⟨_,y,h2⟩⟩:=hp
     · rw[hL]at h1;cases h1
     · exact⟨⟨y,h2⟩,k1⟩
    |some y=>
     have hlt:∀(W:World)(v:Value),Ref W b (R.setPuts (R.puts.eraseIdx t) v)→Calls Tryz.prog 102 #[.pointer (some ⟨b,0,none⟩),.agg #[.bool true,.int .u64 (nd.since:Int),.int .u64 (nd.horizon:Int),nd.fl,nd.wt,nd.en,nd.nm],.agg (Z8 p)] W fun e w'=>e=.returned (.tuple #[.agg (Z8 y),.bool true])∧Za (fun _=>False) W w':=fun W v hr=>(hla W v hr).mono fun e w' hp=>by
      obtain⟨k1,⟨y',h1,h2⟩|⟨h1,_⟩⟩:=hp
      · rw[hL]at h1;injection h1 with h1;subst h1;exact⟨h2,k1⟩
      · rw[hL]at h1;cases h1
     have yes:∀{e w'},XR w b R t k nd y e w'→Zai w b R (t:Int) e w':=fun hp=>by
      obtain⟨h1,⟨j,x,nm,v,vs,g1,g2,g3,g4,g5⟩|⟨g1,nd1,v,ve,vm,vs,g2,g3⟩⟩:=hp
      · refine .inr ⟨t,k,p,nd,v,rfl,ht,hk,hnd,.inr ⟨hup,y,_,vs,hL,h1,.inl ⟨j,x,nm,?_,g1,g2,rfl,g5⟩⟩⟩;rw[List.findIdx?_eq_some_iff_getElem];obtain⟨hj,hx⟩:=List.getElem?_eq_some_iff.mp g1;exact⟨hj,by rw[hx];simpa using g3,fun i hi=>by simpa using g4 i nd.ents[i] hi (List.getElem?_eq_getElem (by omega))⟩
      · refine .inr ⟨t,k,p,nd,v,rfl,ht,hk,hnd,.inr ⟨hup,y,_,vs,hL,h1,.inr ⟨?_,_,rfl,?_,g3⟩⟩⟩
        · rw[List.findIdx?_eq_none_iff];intro x hx;obtain⟨i,hi,rfl⟩:=List.getElem_of_mem hx;simpa using g1 i _ (List.getElem?_eq_getElem hi)
        · rcases g2 with⟨g4,rfl⟩|⟨g4,v1,v2,rfl⟩
          · rw[if_neg (by omega)];rfl
          · rw[if_pos g4];rfl
     by_cases hs:∃(t':Nat)(z:Zh),nd.ents[t']?=some z∧Z0 z y
     · exact(ZdI w b R t k nd p y h hf hp10 ht hq hk hnd hup e1 e2 hu hs hlt).mono fun e w' hp=>yes hp
     · have hno:∀(t:Nat)(z:Zh),nd.ents[t]?=some z→¬Z0 z y:=fun t' z hz hs'=>hs ⟨t',z,hz,hs'⟩;by_cases hr:(nd.ents.length:Int)<R.room
       · exact(ZeE w b R t k nd p y h hf hp10 ht hq hk hnd hup e1 e2 hu hnx hno hr hlt).mono fun e w' hp=>yes hp
       · exact(ZeV w b R t k nd p y h hf hp10 ht hq hk hnd hup e1 e2 hu hr1 hnx hno (by omega) hlt).mono fun e w' hp=>yes hp
theorem ZeW {w:World}{xb cb:Nat}{D:Ze}{R:Zd}(h:ZP w xb cb D R)(hu:R.uses.length<3000000000000)(i:Int):
 ∃(x:Bool)(r:Int),Calls Tryz.prog 45 #[.pointer (some ⟨xb,0,none⟩),.int .i64 i] w fun e w1=>e=.returned (.tuple #[.bool x,.int .i64 r])∧
  Xt 46 #[.pointer (some ⟨cb,0,none⟩),.int .i64 i] w w1 xb cb D R (.tuple #[.bool x,.int .i64 r]):=by
 have hnx1:=h.nx1;have hps:R.puts=D.pu.puts:=h.sim.puts;have hroom:1≤R.room:=by
  have hs:=h.good.s1;obtain⟨s,hs'⟩:∃s,D.pu.sites[0]?=some s:=⟨_,List.getElem?_eq_getElem hs⟩;have h1:=h.sim.room s (List.mem_of_getElem? hs');have h2:=(h.good.sites s (List.mem_of_getElem? hs')).room1;omega
 exact ZfB h (by omega) i fun w2 hr=>rstore w2 cb R i hr h.rfit (by rw[hps];exact h.good.qmax) (fun p hp=>(h.good.puts p (by rw[←hps];exact hp)).q40) (fun nd hnd=>by
  have:=h.el nd hnd;exact⟨this.1,by have:=this.2.1;omega,this.2.2.2.2.2.1⟩) (by omega) hroom ⟨by omega,h.nx0⟩
theorem ZbJ {w w1:World}{xb cb:Nat}{kd a b c:Int}{s:ByteArray}{l:Value}{F:Nat→Prop}(k:Za F (Zz w xb cb kd a b c s l) w1)(hF:∀i,F i→i<w.heap.size):w1.cell? ⟨w.heap.size+1,3,none⟩=some (.int .i64 c):=
 k.keep (fun hf=>by have:=hF _ hf;simp at this;omega) (by simp[Zz])
theorem ZfP (w:World)(pb xb cb:Nat)(a b c:Int)(s:ByteArray)(ao:Option Addr)(n cap:Nat)(D:Ze)(R:Zd)(h:ZP w xb cb D R)(hu:R.uses.length<3000000000000):
 Calls Tryz.prog 16 #[.pointer (some ⟨pb,0,none⟩),.agg #[.pointer (some ⟨xb,0,none⟩),.pointer (some ⟨cb,0,none⟩)],.agg #[.int .i64 10,.int .i64 a,.int .i64 b,.int .i64 c,.string s,.slice ao n cap]] w fun e w'=>Yp w xb cb D R e w':=by
 have hk:=ZW w xb cb 10 a b c s (.slice ao n cap);obtain⟨x,r,hr⟩:=ZeW (h.kept hk fun _ _=>id) hu b;have H0:Hid (Calls Tryz.prog 45 #[.pointer (some ⟨xb,0,none⟩),.int .i64 b] (Zz w xb cb 10 a b c s (.slice ao n cap)) fun e w1=>e=.returned (.tuple #[.bool x,.int .i64 r])∧Hid (Xt 46 #[.pointer (some ⟨cb,0,none⟩),.int .i64 b] (Zz w xb cb 10 a b c s (.slice ao n cap)) w1 xb cb D R (.tuple #[.bool x,.int .i64 r]))):=hr;have HK:=hid hk;have HL:Hid (∀i,D.fp xb i→i<w.heap.size):=h.dev.lt;clear hr hk h hu;go_enter Tryz.func16,Tryz.ntmps16
 go_wp2_with first
  |(go_at_call 45;refine H0.out.mono ?_;rintro e w1 ⟨rfl,ht⟩;have q1:=YD ht.out.1 HL.out;have q2:=YR ht.out.1 HL.out)
  |(go_at_call 46;refine(ht.out.2 _ (Za.refl _ _)).mono ?_;rintro e w3 ⟨rfl,hz,_⟩;have HZ:Hid (ZR (Zz w xb cb 10 a b c s (.slice ao n cap)) w3 xb cb D R):=hz;clear hz)
 go_ret;exact⟨Z6 (by simp),HZ.out.from HK.out⟩
theorem ZfH (w:World)(pb xb cb:Nat)(a b c:Int)(s:ByteArray)(ao:Option Addr)(n cap:Nat)(D:Ze)(R:Zd)(h:ZP w xb cb D R)(hu:R.uses.length<3000000000000):
 Calls Tryz.prog 16 #[.pointer (some ⟨pb,0,none⟩),.agg #[.pointer (some ⟨xb,0,none⟩),.pointer (some ⟨cb,0,none⟩)],.agg #[.int .i64 11,.int .i64 a,.int .i64 b,.int .i64 c,.string s,.slice ao n cap]] w fun e w'=>Yp w xb cb D R e w':=by
 have hk:=ZW w xb cb 11 a b c s (.slice ao n cap);obtain⟨r,hr⟩:=Zgg (h.kept hk fun _ _=>id) (by omega) b c;have H0:Hid (Calls Tryz.prog 47 #[.pointer (some ⟨xb,0,none⟩),.int .i64 b,.int .i64 c] (Zz w xb cb 11 a b c s (.slice ao n cap)) fun e w1=>e=.returned (.int .i64 r)∧Hid (Xt 48 #[.pointer (some ⟨cb,0,none⟩),.int .i64 b,.int .i64 c] (Zz w xb cb 11 a b c s (.slice ao n cap)) w1 xb cb D R (.int .i64 r))):=hr;have HK:=hid hk;have HL:Hid (∀i,D.fp xb i→i<w.heap.size):=h.dev.lt;clear hr hk h hu;go_enter Tryz.func16,Tryz.ntmps16
 go_wp2_with first
  |(go_at_call 47;refine H0.out.mono ?_;rintro e w1 ⟨rfl,ht⟩;have q1:=YD ht.out.1 HL.out;have q2:=YR ht.out.1 HL.out;have q3:=ZbJ ht.out.1 HL.out)
  |(go_at_call 48;refine(ht.out.2 _ (Za.refl _ _)).mono ?_;rintro e w3 ⟨rfl,hz,_⟩;have HZ:Hid (ZR (Zz w xb cb 11 a b c s (.slice ao n cap)) w3 xb cb D R):=hz;clear hz)
 go_ret;exact⟨Z6 (by simp),HZ.out.from HK.out⟩
theorem ZfZ (w:World)(pb xb cb:Nat)(a b c:Int)(s:ByteArray)(ao:Option Addr)(n cap:Nat)(D:Ze)(R:Zd)(h:ZP w xb cb D R)(hu:R.uses.length<3000000000000):
 Calls Tryz.prog 17 #[.pointer (some ⟨pb,0,none⟩),.agg #[.pointer (some ⟨xb,0,none⟩),.pointer (some ⟨cb,0,none⟩)],.agg #[.int .i64 15,.int .i64 a,.int .i64 b,.int .i64 c,.string s,.slice ao n cap]] w fun e w'=>Yp w xb cb D R e w':=by
 have hk:=ZW w xb cb 15 a b c s (.slice ao n cap);obtain⟨r,hr⟩:=Zg4 (h.kept hk fun _ _=>id) (by omega) b c;have H0:Hid (Calls Tryz.prog 59 #[.pointer (some ⟨xb,0,none⟩),.int .i64 b,.int .i64 c] (Zz w xb cb 15 a b c s (.slice ao n cap)) fun e w1=>e=.returned (.int .i64 r)∧Hid (Xt 60 #[.pointer (some ⟨cb,0,none⟩),.int .i64 b,.int .i64 c] (Zz w xb cb 15 a b c s (.slice ao n cap)) w1 xb cb D R (.int .i64 r))):=hr;have HK:=hid hk;have HL:Hid (∀i,D.fp xb i→i<w.heap.size):=h.dev.lt;clear hr hk h hu;go_enter Tryz.func17,Tryz.ntmps17
 go_wp2_with first
  |(go_at_call 59;refine H0.out.mono ?_;rintro e w1 ⟨rfl,ht⟩;have q1:=YD ht.out.1 HL.out;have q2:=YR ht.out.1 HL.out;have q3:=ZbJ ht.out.1 HL.out)
  |(go_at_call 60;refine(ht.out.2 _ (Za.refl _ _)).mono ?_;rintro e w3 ⟨rfl,hz,_⟩;have HZ:Hid (ZR (Zz w xb cb 15 a b c s (.slice ao n cap)) w3 xb cb D R):=hz;clear hz)
 go_ret;exact⟨Z6 (by simp),HZ.out.from HK.out⟩
theorem ZcL (w:World)(pb xb cb:Nat)(a b c:Int)(s:ByteArray)(ao:Option Addr)(n cap:Nat)(D:Ze)(R:Zd)(h:ZP w xb cb D R)(hu:R.uses.length<3000000000000):
 Calls Tryz.prog 17 #[.pointer (some ⟨pb,0,none⟩),.agg #[.pointer (some ⟨xb,0,none⟩),.pointer (some ⟨cb,0,none⟩)],.agg #[.int .i64 18,.int .i64 a,.int .i64 b,.int .i64 c,.string s,.slice ao n cap]] w fun e w'=>Yp w xb cb D R e w':=by
 have hk:=ZW w xb cb 18 a b c s (.slice ao n cap);obtain⟨r,hr⟩:=ZdG (h.kept hk fun _ _=>id) (by omega) b;have H0:Hid (Calls Tryz.prog 65 #[.pointer (some ⟨xb,0,none⟩),.int .i64 b] (Zz w xb cb 18 a b c s (.slice ao n cap)) fun e w1=>e=.returned (.int .i64 r)∧Hid (Xt 66 #[.pointer (some ⟨cb,0,none⟩),.int .i64 b] (Zz w xb cb 18 a b c s (.slice ao n cap)) w1 xb cb D R (.int .i64 r))):=hr;have HK:=hid hk;have HL:Hid (∀i,D.fp xb i→i<w.heap.size):=h.dev.lt;clear hr hk h hu;go_enter Tryz.func17,Tryz.ntmps17
 go_wp2_with first
  |(go_at_call 65;refine H0.out.mono ?_;rintro e w1 ⟨rfl,ht⟩;have q1:=YD ht.out.1 HL.out;have q2:=YR ht.out.1 HL.out)
  |(go_at_call 66;refine(ht.out.2 _ (Za.refl _ _)).mono ?_;rintro e w3 ⟨rfl,hz,_⟩;have HZ:Hid (ZR (Zz w xb cb 18 a b c s (.slice ao n cap)) w3 xb cb D R):=hz;clear hz)
 go_ret;exact⟨Z6 (by simp),HZ.out.from HK.out⟩
end Go.Proofs.YtpfcacedpkaihaaGreat
