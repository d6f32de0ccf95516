import Derived.Deep.RegionWith
import Derived.Deep.DeepCutAuto
import Derived.Test.YtpfcacedpkaihaaGreatC15
namespace Go.Proofs.YtpfcacedpkaihaaGreat
open Go.RowKit
set_option maxRecDepth 100000
set_option maxHeartbeats 16000000
def Zi.setEnts (nd:Zi)(l:List Zh)(v:Value):Zi:={nd with ents:=l,en:=v}
def Zi.setNms (nd:Zi)(l:List Int)(v:Value):Zi:={nd with nms:=l,nm:=v}
theorem Ref.setEnts {w w1:World}{b k g:Nat}{R:Zd}{nd:Zi}(h:Ref w b R)(hnd:R.nodes[k]?=some nd)(ho:R.vn.ownBlock=some g)(l:List Zh)(v:Value)(k1:Za (fun j=>nd.en.ownBlock=some j) w w1)(hr:Row w1 55 6 v l.length (l.flatMap Zk))(hown:∀x,v.ownBlock=some x→nd.en.ownBlock=some x∨w.heap.size≤x):
 Ref (w1.setCell ⟨g,k*7+5,none⟩ v) b (R.putN k (nd.setEnts l v))∧Za (R.fp b) w (w1.setCell ⟨g,k*7+5,none⟩ v)∧(∀x,(R.putN k (nd.setEnts l v)).fp b x→R.fp b x∨w.heap.size≤x):=by
 obtain⟨hk,hnd'⟩:=List.getElem?_eq_some_iff.mp hnd;have hrn:Row w1 146 7 R.vn R.nodes.length (R.nodes.flatMap nodeC):=h.nodes.kept k1 fun j hj he=>by
  have:=(h.ents nd (List.mem_of_getElem? hnd)).ne_row h.nodes (by decide) j he;exact this hj
 refine h.putF hnd (f:=2) (r:=⟨55,6,nd.en,nd.ents.length,nd.ents.flatMap Zk⟩) (r':=⟨55,6,v,l.length,l.flatMap Zk⟩) (by omega) rfl rfl k1 hr hown ((Za.setCell w1 _ _).mono fun j hj=>by rw[ho,hj]) ?_;have:=hrn.set ho (k*7+5) v;rw[Zt nodeC 7 (fun _=>rfl) R.nodes k hk 5 (by omega) v (nd.setEnts l v) (by rw[hnd'];rfl)]at this;rw[List.length_set];exact this
theorem Ref.setNms {w w1:World}{b k g:Nat}{R:Zd}{nd:Zi}(h:Ref w b R)(hnd:R.nodes[k]?=some nd)(ho:R.vn.ownBlock=some g)(l:List Int)(v:Value)(k1:Za (fun j=>nd.nm.ownBlock=some j) w w1)(hr:Row w1 3 1 v l.length (ZQ l))(hown:∀x,v.ownBlock=some x→nd.nm.ownBlock=some x∨w.heap.size≤x):
 Ref (w1.setCell ⟨g,k*7+6,none⟩ v) b (R.putN k (nd.setNms l v))∧Za (R.fp b) w (w1.setCell ⟨g,k*7+6,none⟩ v)∧(∀x,(R.putN k (nd.setNms l v)).fp b x→R.fp b x∨w.heap.size≤x):=by
 obtain⟨hk,hnd'⟩:=List.getElem?_eq_some_iff.mp hnd;have hrn:Row w1 146 7 R.vn R.nodes.length (R.nodes.flatMap nodeC):=h.nodes.kept k1 fun j hj he=>by
  have:=(h.nms nd (List.mem_of_getElem? hnd)).ne_row h.nodes (by decide) j he;exact this hj
 refine h.putF hnd (f:=3) (r:=⟨3,1,nd.nm,nd.nms.length,ZQ nd.nms⟩) (r':=⟨3,1,v,l.length,ZQ l⟩) (by omega) rfl rfl k1 hr hown ((Za.setCell w1 _ _).mono fun j hj=>by rw[ho,hj]) ?_;have:=hrn.set ho (k*7+6) v;rw[Zt nodeC 7 (fun _=>rfl) R.nodes k hk 6 (by omega) v (nd.setNms l v) (by rw[hnd'];rfl)]at this;rw[List.length_set];exact this
def Zs (w:World)(b:Nat)(R:Zd)(w':World)(R':Zd):Prop:=Ref w' b R'∧Za (R.fp b) w w'∧∀x,R'.fp b x→R.fp b x∨w.heap.size≤x
theorem Zs.trans {w w1 w2:World}{b:Nat}{R R1 R2:Zd}(h:Zs w b R w1 R1)(h2:Zs w1 b R1 w2 R2):Zs w b R w2 R2:=by
 have hs:=h.2.1.size;refine⟨h2.1,h.2.1.trans h2.2.1 (fun _=>id) (fun k hk hf=> ?_),fun x hx=> ?_⟩
 · rcases h.2.2 k hf with h1|h1
   · exact h1
   · omega
 · rcases h2.2.2 x hx with h1|h1
   · exact h.2.2 x h1
   · exact .inr (by omega)
theorem Zs.drew {w w':World}{b:Nat}{R R':Zd}(h:Zs w b R w' R'):Zs w b R w'.drew R':=⟨h.1.same fun _ _=>rfl,h.2.1.drew,h.2.2⟩
theorem YP {w:World}{ao:Option Addr}{n cap i:Nat}{l:List Zh}(hr:Row w 55 6 (.slice ao n cap) n (l.flatMap Zk))(hl:l.length=n)(hi:i<n)(hn:n≤1000):
 Calls Tryz.prog 100 #[.slice ao n cap,.int .i64 i] w fun e w'=>Xf w n (l.eraseIdx i) e w':=by
 rcases hr.shape with⟨_,h0,_⟩|⟨g,cp,cur,hv',hb,hcp,hcm,_⟩
 · omega
 · injection hv' with e1 _ e2;subst e1;subst e2;exact ZeG w g n cap i l hr hl hi hn hcp hcm
theorem ZbF {w:World}{ao:Option Addr}{n cap i:Nat}{l:List Int}(hr:Row w 3 1 (.slice ao n cap) n (ZQ l))(hl:l.length=n)(hi:i<n)(hn:n≤1000):
 Calls Tryz.prog 147 #[.slice ao n cap,.int .i64 i] w fun e w'=>Xl w n (l.eraseIdx i) e w':=by
 rcases hr.shape with⟨_,h0,_⟩|⟨g,cp,cur,hv',hb,hcp,hcm,_⟩
 · omega
 · injection hv' with e1 _ e2;subst e1;subst e2;exact Zfl w g n cap i l hr hl hi hn hcp hcm
def Zi.without (nd:Zi)(i:Nat)(ve vn:Value):Zi:=(nd.setEnts (nd.ents.eraseIdx i) ve).setNms (nd.nms.eraseIdx i) vn
def Zge (w:World)(b:Nat)(R:Zd)(k:Nat)(nd:Zi)(i:Nat)(e:Ending)(w':World):Prop:=e=.returned (.tuple #[])∧∃ve vn,Zs w b R w' (R.putN k (nd.without i ve vn))
theorem ZgM (w:World)(b:Nat)(R:Zd)(k i:Nat)(nd:Zi)(h:Ref w b R)(hnd:R.nodes[k]?=some nd)(hm:R.nodes.length≤3)(hi:i<nd.ents.length)(hl:nd.nms.length=nd.ents.length)(hn:nd.ents.length≤1000):
 Calls Tryz.prog 104 #[.pointer (some ⟨b,0,none⟩),.int .i64 k,.int .i64 i] w fun e w'=>Zge w b R k nd i e w':=by
 obtain⟨hk,hnd'⟩:=List.getElem?_eq_some_iff.mp hnd;obtain⟨g,cap,hv,ho,hgl⟩:=h.nodes.block (by omega);have c3:=h.c3;rw[hv]at c3;obtain⟨ae,ce,hve,_⟩:=(h.ents nd (List.mem_of_getElem? hnd)).form;obtain⟨am,cm,hvm,_⟩:=(h.nms nd (List.mem_of_getElem? hnd)).form;have a5:=h.nodes.cell ho (k*7+5) _ (by rw[Zy R.nodes k hk 5 (by omega)];rfl);rw[hnd',hve]at a5;have hgb:g≠b:=fun e=>h.nodes.ne_block h.blk (by decide) (by rw[ho,e]);have hbg:b≠g:=Ne.symm hgb;have H1:Hid (∀W,Za (fun _=>False) w W→Calls Tryz.prog 100 #[.slice ae nd.ents.length ce,.int .i64 i] W fun e w'=>∃ao c',e=.returned (.slice ao (nd.ents.length-1) c')∧w'.cell? ⟨b,3,none⟩=some (.slice (some ⟨g,0,none⟩) R.nodes.length cap)∧w'.cell? ⟨g,k*7+5,none⟩=some (.slice ae nd.ents.length ce)∧w'.frozen? ⟨g,k*7+5,none⟩=false∧Hid (Zs w b R (w'.setCell ⟨g,k*7+5,none⟩ (.slice ao (nd.ents.length-1) c')) (R.putN k (nd.setEnts (nd.ents.eraseIdx i) (.slice ao (nd.ents.length-1) c'))))):=by
  intro W hW;have hre:=(h.ents nd (List.mem_of_getElem? hnd)).kept hW (fun _ _=>id);rw[hve]at hre;refine(YP hre rfl hi hn).mono fun e w' hp=> ?_;obtain⟨v,e1,r1,k1,o1⟩:=hp;obtain⟨ao,c',hv',_⟩:=r1.form;subst e1 hv';have hkk:Za (fun _=>False) w w':=hW.trans k1 (fun _=>id) (fun _ _=>id);have hsz:=hW.size;refine⟨ao,c',rfl,hkk.hold c3,hkk.hold a5,((h.kept hkk fun _ _=>id).nodes).free ho _,h.setEnts hnd ho _ _ (hkk.mono fun _=>False.elim) ?_ fun x hx=>.inr (by have:=o1 x hx;omega)⟩;rw[List.length_eraseIdx_of_lt hi];exact r1
 have H2:Hid (∀(v:Value)(W:World),Zs w b R W (R.putN k (nd.setEnts (nd.ents.eraseIdx i) v))→W.cell? ⟨b,3,none⟩=some (.slice (some ⟨g,0,none⟩) R.nodes.length cap)∧W.cell? ⟨g,k*7+6,none⟩=some (.slice am nd.nms.length cm)∧∀W2,Za (fun _=>False) W W2→Calls Tryz.prog 147 #[.slice am nd.nms.length cm,.int .i64 i] W2 fun e w'=>∃ao c',e=.returned (.slice ao (nd.nms.length-1) c')∧w'.cell? ⟨b,3,none⟩=some (.slice (some ⟨g,0,none⟩) R.nodes.length cap)∧w'.cell? ⟨g,k*7+6,none⟩=some (.slice am nd.nms.length cm)∧w'.frozen? ⟨g,k*7+6,none⟩=false∧Hid (∃ve vn,Zs w b R (w'.setCell ⟨g,k*7+6,none⟩ (.slice ao (nd.nms.length-1) c')) (R.putN k (nd.without i ve vn)))):=by
  intro v W hB;obtain⟨n1,hn1⟩:∃n1,n1=nd.setEnts (nd.ents.eraseIdx i) v:=⟨_,rfl⟩;obtain⟨R1,hR1⟩:∃R1,R1=R.putN k n1:=⟨_,rfl⟩;rw[←hn1,←hR1]at hB;have hnd1:R1.nodes[k]?=some n1:=by rw[hR1];exact List.getElem?_set_self hk
  have hlen1:R1.nodes.length=R.nodes.length:=by rw[hR1];exact List.length_set
  have hk1:k<R1.nodes.length:=by omega
  have hvn:R1.vn=R.vn:=by rw[hR1];rfl
  have hnm1:n1.nm=nd.nm:=by rw[hn1];rfl
  have hnms1:n1.nms=nd.nms:=by rw[hn1];rfl
  have ho1:R1.vn.ownBlock=some g:=by rw[hvn];exact ho
  have d3:=hB.1.c3;rw[hvn,hv]at d3;have d6:=hB.1.nodes.cell ho1 (k*7+6) _ (by rw[Zy R1.nodes k hk1 6 (by omega)];rfl);rw[(List.getElem?_eq_some_iff.mp hnd1).2,hnm1,hvm]at d6;refine⟨d3,d6,fun W2 hW=> ?_⟩;have hrm:=(hB.1.nms n1 (List.mem_of_getElem? hnd1)).kept hW (fun _ _=>id);rw[hnm1,hnms1,hvm]at hrm;refine(ZbF hrm rfl (by omega) (by omega)).mono fun e w' hp=> ?_;obtain⟨v',e1,r1,k1,o1⟩:=hp;obtain⟨ao,c',hv',_⟩:=r1.form;subst e1 hv';have hkk:Za (fun _=>False) W w':=hW.trans k1 (fun _=>id) (fun _ _=>id);have hsz:=hW.size;have hz:=hB.1.setNms hnd1 ho1 (nd.nms.eraseIdx i) (.slice ao (nd.nms.length-1) c') (hkk.mono fun _=>False.elim) (by rw[List.length_eraseIdx_of_lt (by omega)];exact r1) fun x hx=>.inr (by have:=o1 x hx;omega);refine⟨ao,c',rfl,hkk.hold d3,hkk.hold d6,((hB.1.kept hkk fun _ _=>id).nodes).free ho1 _,v,.slice ao (nd.nms.length-1) c',?_⟩;have hz2:=hB.trans hz;rw[hR1,hn1]at hz2;simpa[Zd.putN,Zi.without]using hz2
 have hk0:(0:Int)≤(k:Int):=by omega
 have hk1:(k:Int)<(R.nodes.length:Int):=by omega
 have hbl:=h.blk.lt;clear h hv ho hnd' hve hvm hnd hl hi hn;go_enter Tryz.func104,Tryz.ntmps104
 go_wp2_with fail
 go_cut [20] (fun _ wx=>Hid (∃v,Zs w b R wx (R.putN k (nd.setEnts (nd.ents.eraseIdx i) v))))
 case first=>
  go_region_with (go_at_call 100;refine(H1.out _ ((Za.refl _ _).drewN _)).mono ?_;rintro e w1 ⟨ao,c',rfl,z3,z5,zf,HB⟩)
  all_goals
   go_wp2
   go_meet
   case rel=>exact⟨_,HB.out⟩
 case rest=>
  obtain⟨v,hB⟩:=hcut.out;obtain⟨y3,y6,hcall⟩:=H2.out v wc hB;have HC:=hid hcall;clear hcall hB hcut c3 a5
  go_wp2_with fail
  go_region_with (go_at_call 147;refine(HC.out _ ((Za.refl _ _).drewN _)).mono ?_;rintro e w1 ⟨ao,c',rfl,z3,z6,zf,HB⟩)
  all_goals
   go_wp2
   go_end0
   obtain⟨ve,vn,hb⟩:=HB.out;exact⟨rfl,ve,vn,hb⟩
def Zhz (w:World)(b:Nat)(R:Zd)(k i:Int)(e:Ending)(w':World):Prop:=
 ((k<0∨(R.nodes.length:Int)≤k)∧e=.returned (.int .i64 9)∧w=w')∨
 (∃nd,0≤k∧R.nodes[k.toNat]?=some nd∧(i<0∨(nd.ents.length:Int)≤i)∧e=.returned (.int .i64 10)∧w=w')∨
 (∃nd,0≤k∧R.nodes[k.toNat]?=some nd∧0≤i∧i<(nd.ents.length:Int)∧e=.returned (.int .i64 0)∧∃ve vn,Zs w b R w' (R.putN k.toNat (nd.without i.toNat ve vn)))
theorem revict (w:World)(b:Nat)(R:Zd)(k i:Int)(h:Ref w b R)(hm:R.nodes.length≤3)(hl:∀nd∈R.nodes,nd.nms.length=nd.ents.length∧nd.ents.length≤1000):
 Calls Tryz.prog 48 #[.pointer (some ⟨b,0,none⟩),.int .i64 k,.int .i64 i] w fun e w'=>Zhz w b R k i e w':=by
 have hno:=VX w b R k h;by_cases h0:k<0∨(R.nodes.length:Int)≤k
 · rw[decide_eq_true h0]at hno;have H0:=hid hno;have HQ:=hid h0;clear h hl hno h0;go_enter Tryz.func48,Tryz.ntmps48
   go_wp2_with (go_at_call 108;refine H0.out.mono ?_;rintro e w' ⟨rfl,rfl⟩)
   go_ret;exact .inl ⟨HQ.out,rfl,rfl⟩
 · rw[decide_eq_false h0]at hno;obtain⟨j,rfl⟩:∃j:Nat,k=j:=⟨k.toNat,by omega⟩;have hjl:j<R.nodes.length:=by omega
   obtain⟨nd,hnd⟩:∃nd,R.nodes[j]?=some nd:=⟨_,List.getElem?_eq_getElem hjl⟩;have hnd':=(List.getElem?_eq_some_iff.mp hnd).2;obtain⟨hl1,hl2⟩:=hl nd (List.mem_of_getElem? hnd);obtain⟨g,cap,hv,ho,hgl⟩:=h.nodes.block (by omega);have c3:=h.c3;rw[hv]at c3;obtain⟨ae,ce,hve,_⟩:=(h.ents nd (List.mem_of_getElem? hnd)).form;have a5:=h.nodes.cell ho (j*7+5) _ (by rw[Zy R.nodes j hjl 5 (by omega)];rfl);rw[hnd',hve]at a5;have H0:=hid hno;have hj0:(0:Int)≤(j:Int):=by omega
   have hj1:(j:Int)<(R.nodes.length:Int):=by omega
   have HND:Hid (R.nodes[(j:Int).toNat]?=some nd):=by show _=_;rw[Int.toNat_natCast];exact hnd
   by_cases h1:i<0
   · have hd:decide (i<0)=true:=by simpa using h1
     clear h hl hno hve hv ho hnd hnd' hl1 hl2 h0;go_enter Tryz.func48,Tryz.ntmps48
     go_wp2_with (go_at_call 108;refine H0.out.mono ?_;rintro e w' ⟨rfl,rfl⟩)
     go_ret;exact .inr (.inl ⟨nd,by omega,HND.out,.inl h1,rfl,rfl⟩)
   · have hd:decide (i<0)=false:=by simpa using h1
     by_cases h2:(nd.ents.length:Int)≤i
     · have hd1:decide ((nd.ents.length:Int)≤i)=true:=by simpa using h2
       clear h hl hno hve hv ho hnd hnd' hl1 hl2 h0;go_enter Tryz.func48,Tryz.ntmps48
       go_wp2_with (go_at_call 108;refine H0.out.mono ?_;rintro e w' ⟨rfl,rfl⟩)
       go_ret;exact .inr (.inl ⟨nd,by omega,HND.out,.inr h2,rfl,rfl⟩)
     · have hd1:decide ((nd.ents.length:Int)≤i)=false:=by simpa using h2
       obtain⟨t,rfl⟩:∃t:Nat,i=t:=⟨i.toNat,by omega⟩;have htl:t<nd.ents.length:=by omega
       have HF:Hid (Calls Tryz.prog 104 #[.pointer (some ⟨b,0,none⟩),.int .i64 (j:Int),.int .i64 (t:Int)] w fun e w'=>e=.returned (.tuple #[])∧Hid (∃ve vn,Zs w b R w' (R.putN j (nd.without t ve vn)))):=ZgM w b R j t nd h hnd hm htl hl1 hl2;clear h hl hno hve hv ho hnd hnd' hl1 hl2 h0;go_enter Tryz.func48,Tryz.ntmps48
       go_wp2_with first
        |(go_at_call 108;refine H0.out.mono ?_;rintro e w' ⟨rfl,rfl⟩)
        |(go_at_call 104;refine HF.out.mono ?_;rintro e w1 ⟨rfl,HB⟩)
       go_ret;obtain⟨ve,vn,hb⟩:=HB.out;exact .inr (.inr ⟨nd,by omega,HND.out,by omega,by omega,rfl,ve,vn,hb⟩)
def ZF (l:List Zh):Nat→Int
 |0=> -1
 |n+1=>match l[n]? with
  |some x=>if x.op=false∧(ZF l n<0∨∃y,l[(ZF l n).toNat]?=some y∧x.till<y.till)then(n:Int)else ZF l n
  |none=>ZF l n
def Yv (uses nms:List Int):Nat→Nat
 |0=>0
 |n+1=>match nms[n]?,nms[Yv uses nms n]? with
  |some x,some y=>if YY uses x uses.length<YY uses y uses.length then n else Yv uses nms n
  |_,_=>Yv uses nms n
def XH (uses:List Int)(nd:Zi):Int:=if 0≤ZF nd.ents nd.ents.length then ZF nd.ents nd.ents.length else(Yv uses nd.nms nd.ents.length:Int)
theorem Ze0 (l:List Zh)(n:Nat): -1≤ZF l n∧ZF l n<(n:Int):=by
 induction n with
 |zero=>simp[ZF]
 |succ n ih=>
  simp only[ZF]
  split
  · split<;>omega
  · omega
theorem ZeN (uses nms:List Int)(n:Nat):Yv uses nms n=0∨Yv uses nms n<n:=by
 induction n with
 |zero=>simp[Yv]
 |succ n ih=>
  simp only[Yv]
  split
  · split<;>omega
  · omega
theorem rgoes (w:World)(b:Nat)(R:Zd)(nd:Zi)(ae am:Option Addr)(ce cm:Nat)(h:Ref w b R)(hu:R.uses.length≤4611686018427387904)(hve:nd.en=.slice ae nd.ents.length ce)(hvm:nd.nm=.slice am nd.nms.length cm)(hre:Row w 55 6 nd.en nd.ents.length (nd.ents.flatMap Zk))(hrm:Row w 3 1 nd.nm nd.nms.length (ZQ nd.nms))(hl:nd.nms.length=nd.ents.length)(hn:nd.ents.length≤1000)(h1:0<nd.ents.length):
 Calls Tryz.prog 105 #[.pointer (some ⟨b,0,none⟩),.agg #[.bool nd.up,.int .u64 (nd.since:Int),.int .u64 (nd.horizon:Int),nd.fl,nd.wt,.slice ae nd.ents.length ce,.slice am nd.nms.length cm]] w fun e w'=>e=.returned (.int .i64 (XH R.uses nd))∧Za (fun _=>False) w w':=by
 obtain⟨lu,hlu⟩:∃lu:Int→Int,∀x,lu x=YY R.uses x R.uses.length:=⟨fun x=>YY R.uses x R.uses.length,fun _=>rfl⟩;have HLU:Hid (∀W x,Za (fun _=>False) w W→Calls Tryz.prog 148 #[.pointer (some ⟨b,0,none⟩),.int .i64 x] W fun e w'=>e=.returned (.int .i64 (lu x))∧W=w'):=fun W x hW=>by rw[hlu];exact ZiW W b R x (h.kept hW fun _ _=>id) hu
 have HL2:=hid hlu;clear hlu;obtain⟨ge,cpe,e1,e2,_⟩:=hre.block h1;rw[hve]at e1;injection e1 with e1 _ e1c;subst e1;subst e1c;obtain⟨gm,cpm,e3,e4,_⟩:=hrm.block (by omega);rw[hvm]at e3;injection e3 with e3 _ e3c;subst e3;subst e3c;have HE:Hid (∀i (hi:i<nd.ents.length),∀f,f<6→w.cell? ⟨ge,i*6+f,none⟩=(Zk nd.ents[i])[f]?):=fun i hi f hf=>by
  have hx:=ZO Zk 6 (fun _=>rfl) nd.ents i hi f hf;obtain⟨u,hu⟩:∃u,(Zk nd.ents[i])[f]?=some u:=⟨_,List.getElem?_eq_getElem (show f<6 from hf)⟩;rw[hu]at hx;rw[hu];exact hre.cell e2 _ _ hx
 have HM:Hid (∀i (hi:i<nd.nms.length),w.cell? ⟨gm,i,none⟩=some (.int .i64 nd.nms[i])):=fun i hi=>hrm.cell e4 i _ (by rw[ZQ,List.getElem?_map,List.getElem?_eq_getElem hi];rfl);have HLN:=hid hl;have HGO:Hid (XH R.uses nd=if 0≤ZF nd.ents nd.ents.length then ZF nd.ents nd.ents.length else(Yv R.uses nd.nms nd.ents.length:Int)):=rfl;generalize XH R.uses nd=G at*
 generalize nd.fl=fl at*
 generalize nd.wt=wt at*
 clear h hre hrm hve hvm e2 e4 hl hu;go_enter Tryz.func105,Tryz.ntmps105;go_wp2
 go_loopw [5,6] (fun bv iv wr=>∃i:Nat,i≤nd.ents.length∧iv=.int .i64 i∧bv=.int .i64 (ZF nd.ents i)∧Hid (Za (fun _=>False) w wr∧Blk wr w.heap.size 146 #[.bool nd.up,.int .u64 (nd.since:Int),.int .u64 (nd.horizon:Int),fl,wt,.slice (some ⟨ge,0,none⟩) nd.ents.length ce,.slice (some ⟨gm,0,none⟩) nd.nms.length cm])) (fun _ iv _=>nd.ents.length-(intOf iv).toNat)
 case atStart=>exact⟨0,Nat.zero_le _,rfl,rfl,Za.alloc _ _ _,Blk.new _ _ _⟩
 case round=>
  obtain⟨i,hi,rfl,rfl,HB⟩:=hrel;have d5:wr.cell? ⟨w.heap.size,5,none⟩=some (.slice (some ⟨ge,0,none⟩) nd.ents.length ce):=HB.out.2.cell 5;by_cases hlt:i<nd.ents.length
  · obtain⟨x,hx⟩:∃x,x=nd.ents[i]:=⟨_,rfl⟩;have hx':nd.ents[i]?=some x:=by rw[hx];exact List.getElem?_eq_getElem hlt
    have x4:wr.cell? ⟨ge,i*6+4,none⟩=some (.bool x.op):=HB.out.1.hold ((HE.out i hlt 4 (by omega)).trans (by rw[←hx];rfl));have x3:wr.cell? ⟨ge,i*6+3,none⟩=some (.int .u64 (x.till:Int)):=HB.out.1.hold ((HE.out i hlt 3 (by omega)).trans (by rw[←hx];rfl));have hi0:(0:Int)≤(i:Int):=by omega
    have hi1:(i:Int)<(nd.ents.length:Int):=by omega
    have hbl:=Ze0 nd.ents i;have hstep:ZF nd.ents (i+1)=if x.op=false∧(ZF nd.ents i<0∨∃y,nd.ents[(ZF nd.ents i).toNat]?=some y∧x.till<y.till)then(i:Int)else ZF nd.ents i:=by rw[ZF,hx']
    cases hop:x.op with
    |true=>
     rw[hop]at x4;have HS:Hid (ZF nd.ents (i+1)=ZF nd.ents i):=by show _=_;rw[hstep,if_neg (by rw[hop];simp)]
     clear hstep hx hx' hop x3 hbl;generalize ZF nd.ents i=q at*
     go_wp2_with fail
     go_quiet (fail)
     go_wp2
     go_roundw
     case rel=>exact⟨i+1,by omega,by go_num,by rw[HS.out],HB.out.1.drewN _,HB.out.2.same rfl⟩
     case measure=>simp[intOf];omega
    |false=>
     rw[hop]at x4;by_cases hq:ZF nd.ents i<0
     · have HS:Hid (ZF nd.ents (i+1)=(i:Int)):=by show _=_;rw[hstep,if_pos ⟨hop,.inl hq⟩]
       have hd:decide (ZF nd.ents i<0)=true:=by simpa using hq
       clear hstep hx hx' hop x3 hbl;generalize ZF nd.ents i=q at*
       go_wp2_with fail
       go_quiet (fail)
       go_wp2
       go_roundw
       case rel=>exact⟨i+1,by omega,by go_num,by rw[HS.out],HB.out.1.drewN _,HB.out.2.same rfl⟩
       case measure=>simp[intOf];omega
     · obtain⟨j,hj⟩:∃j:Nat,ZF nd.ents i=j:=⟨(ZF nd.ents i).toNat,by omega⟩;have hjl:j<nd.ents.length:=by omega
       obtain⟨y,hy⟩:∃y,y=nd.ents[j]:=⟨_,rfl⟩;have hy':nd.ents[j]?=some y:=by rw[hy];exact List.getElem?_eq_getElem hjl
       have y3:wr.cell? ⟨ge,j*6+3,none⟩=some (.int .u64 (y.till:Int)):=HB.out.1.hold ((HE.out j hjl 3 (by omega)).trans (by rw[←hy];rfl));have hj0:(0:Int)≤(j:Int):=by omega
       have hj1:(j:Int)<(nd.ents.length:Int):=by omega
       have hd:decide ((j:Int)<0)=false:=by simp
       rw[hj,Int.toNat_natCast,hy']at hstep;rw[hj];by_cases hxy:x.till<y.till
       · have HS:Hid (ZF nd.ents (i+1)=(i:Int)):=by show _=_;rw[hstep,if_pos ⟨hop,.inr ⟨y,rfl,hxy⟩⟩]
         have hd2:decide ((x.till:Int)<(y.till:Int))=true:=by simpa using hxy
         clear hstep hx hx' hop hbl hy hy' hj hq
         go_wp2_with fail
         go_quiet (fail)
         go_wp2
         go_roundw
         case rel=>exact⟨i+1,by omega,by go_num,by rw[HS.out],HB.out.1.drewN _,HB.out.2.same rfl⟩
         case measure=>simp[intOf];omega
       · have HS:Hid (ZF nd.ents (i+1)=(j:Int)):=by
          show _=_;rw[hstep,if_neg];rintro⟨_,h1|⟨y',e,h2⟩⟩
          · omega
          · injection e with e;subst e;exact hxy h2
         have hd2:decide ((x.till:Int)<(y.till:Int))=false:=by simpa using hxy
         clear hstep hx hx' hop hbl hy hy' hj hq
         go_wp2_with fail
         go_quiet (fail)
         go_wp2
         go_roundw
         case rel=>exact⟨i+1,by omega,by go_num,by rw[HS.out],HB.out.1.drewN _,HB.out.2.same rfl⟩
         case measure=>simp[intOf];omega
  · have hii:i=nd.ents.length:=by omega
    subst hii;by_cases hq:0≤ZF nd.ents nd.ents.length
    · have hd:decide (0≤ZF nd.ents nd.ents.length)=true:=by simpa using hq
      have HG:Hid (G=ZF nd.ents nd.ents.length):=by show _=_;rw[HGO.out,if_pos hq]
      go_wp2;go_ret;refine⟨?_,HB.out.1⟩;rw[HG.out];rfl
    · have hd:decide (0≤ZF nd.ents nd.ents.length)=false:=by simpa using hq
      have HG:Hid (G=(Yv R.uses nd.nms nd.ents.length:Int)):=by show _=_;rw[HGO.out,if_neg hq]
      clear hq;go_wp2
      go_loopw [5,7] (fun bv iv wr=>∃i:Nat,i≤nd.ents.length∧iv=.int .i64 i∧bv=.int .i64 (Yv R.uses nd.nms i:Int)∧Hid (Za (fun _=>False) w wr∧Blk wr w.heap.size 146 #[.bool nd.up,.int .u64 (nd.since:Int),.int .u64 (nd.horizon:Int),fl,wt,.slice (some ⟨ge,0,none⟩) nd.ents.length ce,.slice (some ⟨gm,0,none⟩) nd.nms.length cm])) (fun _ iv _=>nd.ents.length-(intOf iv).toNat)
      case atStart=>exact⟨0,Nat.zero_le _,rfl,rfl,HB⟩
      case round=>
       obtain⟨i,hi,rfl,rfl,HB2⟩:=hrel;have d5':wr.cell? ⟨w.heap.size,5,none⟩=some (.slice (some ⟨ge,0,none⟩) nd.ents.length ce):=HB2.out.2.cell 5;have d6':wr.cell? ⟨w.heap.size,6,none⟩=some (.slice (some ⟨gm,0,none⟩) nd.nms.length cm):=HB2.out.2.cell 6;by_cases hlt:i<nd.ents.length
       · have hln:=HLN.out;have hb:=ZeN R.uses nd.nms i;have hil:i<nd.nms.length:=by omega
         have hbl:Yv R.uses nd.nms i<nd.nms.length:=by omega
         have x0:wr.cell? ⟨gm,i,none⟩=some (.int .i64 nd.nms[i]):=HB2.out.1.hold (HM.out i hil);have y0:wr.cell? ⟨gm,Yv R.uses nd.nms i,none⟩=some (.int .i64 nd.nms[Yv R.uses nd.nms i]):=HB2.out.1.hold (HM.out _ hbl);have HST:Hid (Yv R.uses nd.nms (i+1)=if lu nd.nms[i]<lu nd.nms[Yv R.uses nd.nms i]then i else Yv R.uses nd.nms i):=by
          show _=_;rw[Yv,List.getElem?_eq_getElem hil,List.getElem?_eq_getElem hbl,HL2.out,HL2.out]
         generalize nd.nms[i]=x at*
         generalize nd.nms[Yv R.uses nd.nms i]=y at*
         have hi0:(0:Int)≤(i:Int):=by omega
         have hi1:(i:Int)<(nd.nms.length:Int):=by omega
         have hb0:(0:Int)≤(Yv R.uses nd.nms i:Int):=by omega
         have hb1:(Yv R.uses nd.nms i:Int)<(nd.nms.length:Int):=by omega
         clear hln hb hil hbl;generalize Yv R.uses nd.nms i=q at*
         by_cases hxy:lu x<lu y
         · have hd2:decide (lu x<lu y)=true:=by simpa using hxy
           have HS:Hid (Yv R.uses nd.nms (i+1)=i):=by show _=_;rw[HST.out,if_pos hxy]
           clear HST hxy
           go_wp2_with (go_at_call 148;refine(HLU.out _ _ HB2.out.1).mono ?_;rintro e w' ⟨rfl,rfl⟩)
           go_roundw
           case rel=>exact⟨i+1,by omega,by go_num,by rw[HS.out],HB2⟩
           case measure=>simp[intOf];omega
         · have hd2:decide (lu x<lu y)=false:=by simpa using hxy
           have HS:Hid (Yv R.uses nd.nms (i+1)=q):=by show _=_;rw[HST.out,if_neg hxy]
           clear HST hxy
           go_wp2_with (go_at_call 148;refine(HLU.out _ _ HB2.out.1).mono ?_;rintro e w' ⟨rfl,rfl⟩)
           go_roundw
           case rel=>exact⟨i+1,by omega,by go_num,by rw[HS.out],HB2⟩
           case measure=>simp[intOf];omega
       · have hii:i=nd.ents.length:=by omega
         subst hii;go_wp2;go_ret;refine⟨?_,HB2.out.1⟩;rw[HG.out];rfl
end Go.Proofs.YtpfcacedpkaihaaGreat
