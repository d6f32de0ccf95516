import Derived.Test.YtpfcacedpkaihaaGreatC26
import Derived.Test.YtpfcacedpkaihaaGreatC25
import Derived.Test.YtpfcacedpkaihaaGreatC14
import Derived.Test.YtpfcacedpkaihaaGreatC18
namespace Go.Proofs.YtpfcacedpkaihaaGreat
open Go.RowKit
set_option maxRecDepth 100000
set_option maxHeartbeats 16000000
theorem Za8 {R:Zd}{k i:Int}(h:Yh R k i=0):∃(j m:Nat)(nd:Zi),k=(j:Int)∧i=(m:Int)∧R.nodes[j]?=some nd∧m<nd.fls.length:=by
 unfold Yh at h
 split at h
 · omega
 · rename_i h0
   obtain⟨j,rfl⟩:∃j:Nat,k=j:=⟨k.toNat,by omega⟩;rw[Int.toNat_natCast]at h;cases hn:R.nodes[j]? with
   |none=>rw[hn]at h;simp at h
   |some nd=>
    rw[hn]at h;dsimp only at h
    split at h
    · omega
    · rename_i h1
      obtain⟨m,rfl⟩:∃m:Nat,i=m:=⟨i.toNat,by omega⟩;exact⟨j,m,nd,rfl,rfl,hn,by omega⟩
def Zjm (w:World)(b:Nat)(R:Zd)(k i:Int)(e:Ending)(w':World):Prop:=
 (Yh R k i≠0∧e=.returned (.int .i64 (Yh R k i))∧w=w')∨
 (∃(j m:Nat)(nd:Zi),k=(j:Int)∧i=(m:Int)∧R.nodes[j]?=some nd∧m<nd.fls.length∧Yh R k i=0∧e=.returned (.int .i64 0)∧Zm w b R j {nd.p with fls:=nd.fls.eraseIdx m} w')
theorem rlose (w:World)(b:Nat)(R:Zd)(k i:Int)(h:Ref w b R)(hm:R.nodes.length≤3)(hl:∀nd∈R.nodes,nd.fls.length≤1000):
 Calls Tryz.prog 60 #[.pointer (some ⟨b,0,none⟩),.int .i64 k,.int .i64 i] w fun e w'=>Zjm w b R k i e w':=by
 have HLK:Hid (Calls Tryz.prog 113 #[.pointer (some ⟨b,0,none⟩),.int .i64 k,.int .i64 i] w fun e w'=>e=.returned (.int .i64 (Yh R k i))∧w=w'):=Ziu w b R k i h hm;by_cases hz:Yh R k i=0
 · obtain⟨j,m,nd,rfl,rfl,hnd,hm2⟩:=Za8 hz;obtain⟨hk,hnd'⟩:=List.getElem?_eq_some_iff.mp hnd;obtain⟨g,cap,hv,ho,hgl⟩:=h.nodes.block (by omega);have c3:=h.c3;rw[hv]at c3;obtain⟨af,cf,hvf,_⟩:=(h.fls nd (List.mem_of_getElem? hnd)).form;have a3:=h.nodes.cell ho (j*7+3) _ (by rw[Zy R.nodes j hk 3 (by omega)];rfl);rw[hnd',hvf]at a3;have hgb:g≠b:=fun e=>h.nodes.ne_block h.blk (by decide) (by rw[ho,e]);have hbg:b≠g:=Ne.symm hgb;have hfl:=hl nd (List.mem_of_getElem? hnd);have H1:Hid (∀W,Za (fun _=>False) w W→Calls Tryz.prog 114 #[.slice af nd.fls.length cf,.int .i64 (m:Int)] W fun e w'=>∃ao c',e=.returned (.slice ao (nd.fls.length-1) c')∧w'.cell? ⟨b,3,none⟩=some (.slice (some ⟨g,0,none⟩) R.nodes.length cap)∧w'.cell? ⟨g,j*7+3,none⟩=some (.slice af nd.fls.length cf)∧w'.frozen? ⟨g,j*7+3,none⟩=false∧Hid (Zm w b R j {nd.p with fls:=nd.fls.eraseIdx m} (w'.setCell ⟨g,j*7+3,none⟩ (.slice ao (nd.fls.length-1) c')))):=by
    intro W hW;have hre:=(h.fls nd (List.mem_of_getElem? hnd)).kept hW (fun _ _=>id);rw[hvf]at hre;refine(Xm hre rfl hm2 hfl).mono fun e w' hp=> ?_;obtain⟨v,e1,r1,k1,o1⟩:=hp;obtain⟨ao,c',hv',_⟩:=r1.form;subst e1 hv';have hkk:Za (fun _=>False) w w':=hW.trans k1 (fun _=>id) (fun _ _=>id);have hsz:=hW.size;refine⟨ao,c',rfl,hkk.hold c3,hkk.hold a3,((h.kept hkk fun _ _=>id).nodes).free ho _,h.setFlB hnd ho _ _ (hkk.mono fun _=>False.elim) ?_ fun x hx=>.inr (by have:=o1 x hx;omega)⟩;rw[List.length_eraseIdx_of_lt hm2];exact r1
   have HND:Hid (R.nodes[j]?=some nd∧m<nd.fls.length∧Yh R (j:Int) (m:Int)=0):=⟨hnd,hm2,hz⟩;rw[hz]at HLK;have hj0:(0:Int)≤(j:Int):=by omega
   have hj1:(j:Int)<(R.nodes.length:Int):=by omega
   clear h hl hnd hnd' hv ho hvf hz hm2;go_enter Tryz.func60,Tryz.ntmps60
   go_wp2_with (go_at_call 113;refine HLK.out.mono ?_;rintro e w1 ⟨rfl,rfl⟩)
   go_region_with (go_at_call 114;refine(H1.out _ ((Za.refl _ _).drewN _)).mono ?_;rintro e w1 ⟨ao,c',rfl,z3,z5,zf,HB⟩)
   all_goals
    go_wp2;go_ret;exact .inr ⟨j,m,nd,rfl,rfl,HND.out.1,HND.out.2.1,HND.out.2.2,rfl,HB.out⟩
 · have HZ:Hid (Yh R k i≠0):=hz;obtain⟨er,her⟩:∃er,er=Yh R k i:=⟨_,rfl⟩;have hb:((er:Int)==0)=false:=beq_eq_false_iff_ne.mpr (by rw[her];exact hz);have HE:=hid her;rw[←her]at HLK;clear h hl hz her;go_enter Tryz.func60,Tryz.ntmps60
   go_wp2_with (go_at_call 113;refine HLK.out.mono ?_;rintro e w1 ⟨rfl,rfl⟩)
   go_ret;exact .inl ⟨HZ.out,by rw[HE.out];rfl,rfl⟩
def Ze3 (w:World)(b:Nat)(R:Zd)(k:Int)(e:Ending)(w':World):Prop:=
 ((k<0∨(R.nodes.length:Int)≤k)∧e=.returned (.int .i64 9)∧w=w')∨
 (∃(j:Nat)(nd:Zi),k=(j:Int)∧R.nodes[j]?=some nd∧e=.returned (.int .i64 0)∧Zm w b R j ⟨false,0,0,[],[],[],[]⟩ w')
theorem ZiB (w:World)(b:Nat)(R:Zd)(k:Int)(h:Ref w b R)(hm:R.nodes.length≤3):
 Calls Tryz.prog 66 #[.pointer (some ⟨b,0,none⟩),.int .i64 k] w fun e w'=>Ze3 w b R k e w':=by
 have hno:=VX w b R k h;by_cases h0:k<0∨(R.nodes.length:Int)≤k
 · rw[decide_eq_true h0]at hno;have H0:=hid hno;have HQ:=hid h0;clear h hno h0;go_enter Tryz.func66,Tryz.ntmps66
   go_wp2_with (go_at_call 108;refine H0.out.mono ?_;rintro e w' ⟨rfl,rfl⟩)
   go_ret;exact .inl ⟨HQ.out,rfl,rfl⟩
 · rw[decide_eq_false h0]at hno;obtain⟨j,rfl⟩:∃j:Nat,k=j:=⟨k.toNat,by omega⟩;have hjl:j<R.nodes.length:=by omega
   obtain⟨nd,hnd⟩:∃nd,R.nodes[j]?=some nd:=⟨_,List.getElem?_eq_getElem hjl⟩;have H0:=hid hno;have HF:Hid (Calls Tryz.prog 123 #[.pointer (some ⟨b,0,none⟩),.int .i64 (j:Int)] w fun e w'=>e=.returned (.tuple #[])∧Hid (Zm w b R j ⟨false,0,0,[],[],[],[]⟩ w')):=(rfall w b R j h hm hjl).mono fun e w' hp=>by
    refine⟨hp.1,zeroN,rfl,hp.2.1,hp.2.2.mono fun x hx=>Ue hx,fun x hx=> ?_⟩;rcases hx with rfl|⟨r,hr,hx⟩
    · exact .inl (.inl rfl)
    · simp only[Zd.rows,Zd.putN,List.mem_cons,List.mem_flatMap]at hr;rcases hr with rfl|rfl|rfl|rfl|rfl|⟨n,hn,hr⟩
      · exact .inl (.inr ⟨_,List.mem_of_getElem? (i:=0) rfl,hx⟩)
      · exact .inl (.inr ⟨_,List.mem_of_getElem? (i:=1) rfl,hx⟩)
      · exact .inl (.inr ⟨_,List.mem_of_getElem? (i:=2) rfl,hx⟩)
      · exact .inl (.inr ⟨_,List.mem_of_getElem? (i:=3) rfl,hx⟩)
      · exact .inl (.inr ⟨_,List.mem_of_getElem? (i:=4) rfl,hx⟩)
      · rcases List.mem_or_eq_of_mem_set hn with hn|rfl
        · exact .inl (.inr ⟨r,YG hn hr,hx⟩)
        · simp only[Z3,zeroN,List.mem_cons,List.not_mem_nil,or_false]at hr;rcases hr with rfl|rfl|rfl|rfl<;>simp[Value.ownBlock]at hx
   have HND:=hid hnd;clear h hno h0 hnd;go_enter Tryz.func66,Tryz.ntmps66
   go_wp2_with first
    |(go_at_call 108;refine H0.out.mono ?_;rintro e w' ⟨rfl,rfl⟩)
    |(go_at_call 123;refine HF.out.mono ?_;rintro e w1 ⟨rfl,HT⟩)
   go_ret;exact .inr ⟨j,nd,rfl,HND.out,rfl,HT.out⟩
def YU (l:List Zj)(t:Nat)(e:Zh):Zh:=if e.op=true∧e.kn<t∧ZU l (Xk e.q) t=true then {e with op:=false,till:=t}else e
def rhearOne (l:List Zj)(p:ZD):ZD:={p with horizon:=p.horizon+1,ents:=p.ents.map (YU l (p.horizon+1))}
def VP (l:List Zj):Nat→ZD→ZD
 |0,p=>rhearOne l p
 |n+1,p=>match p.wts.findIdx? (fun x=>decide (x=p.horizon+1+1))with
  |none=>rhearOne l p
  |some i=>VP l n {rhearOne l p with wts:=p.wts.eraseIdx i}
def Yo (l:List Zj)(p:ZD):ZD:=VP l p.wts.length p
theorem ZfG {l:List Zj}{p:ZD}(h:p.wts.findIdx? (fun x=>decide (x=p.horizon+1+1))=none):Yo l p=rhearOne l p:=by
 unfold Yo;cases hn:p.wts.length with
 |zero=>rfl
 |succ n=>unfold VP;rw[h]
theorem Zf1 {l:List Zj}{p:ZD}{i:Nat}(h:p.wts.findIdx? (fun x=>decide (x=p.horizon+1+1))=some i):Yo l p=Yo l {rhearOne l p with wts:=p.wts.eraseIdx i}:=by
 have hi:i<p.wts.length:=(List.findIdx?_eq_some_iff_getElem.mp h).1;unfold Yo;cases hn:p.wts.length with
 |zero=>omega
 |succ n=>
  rw[VP,h];show _=VP l (p.wts.eraseIdx i).length _;rw[List.length_eraseIdx_of_lt hi,hn];rfl
def ZI (l:List Zj)(t:Nat)(es:List Zh)(i:Nat):List Zh:=(es.take i).map (YU l t)++es.drop i
theorem ZcE (l:List Zj)(t:Nat)(es:List Zh):ZI l t es 0=es:=by simp[ZI]
theorem Zd2 (l:List Zj)(t:Nat)(es:List Zh):ZI l t es es.length=es.map (YU l t):=by simp[ZI]
theorem Zd0 (l:List Zj)(t:Nat)(es:List Zh)(i:Nat)(h:i≤es.length):(ZI l t es i).length=es.length:=by
 unfold ZI;rw[List.length_append,List.length_map,List.length_take,List.length_drop];omega
theorem Zab (l:List Zj)(t:Nat)(es:List Zh)(i:Nat)(h:i<es.length):(ZI l t es i)[i]?=some es[i]:=by
 unfold ZI;have hl:((es.take i).map (YU l t)).length=i:=by rw[List.length_map,List.length_take];omega
 rw[List.getElem?_append_right (by omega),hl,Nat.sub_self,List.getElem?_drop,Nat.add_zero,List.getElem?_eq_getElem h]
theorem Zao (l:List Zj)(t:Nat)(es:List Zh)(i:Nat)(h:i<es.length):ZI l t es (i+1)=(ZI l t es i).set i (YU l t es[i]):=by
 unfold ZI;have hl:((es.take i).map (YU l t)).length=i:=by rw[List.length_map,List.length_take];omega
 rw[List.take_succ_eq_append_getElem h,List.map_append,List.set_append_right _ _ (by omega),hl,Nat.sub_self];have hd:es.drop i=es[i]::es.drop (i+1):=List.drop_eq_getElem_cons h;rw[hd,List.set_cons_zero,List.append_assoc];rfl
theorem Zm.refl {w:World}{b k:Nat}{R:Zd}{nd:Zi}(h:Ref w b R)(hnd:R.nodes[k]?=some nd):Zm w b R k nd.p w:=by
 refine⟨nd,rfl,?_⟩;have e:R.putN k nd=R:=by
  obtain⟨hk,hnd'⟩:=List.getElem?_eq_some_iff.mp hnd;unfold Zd.putN;rw[XT hnd]
 rw[e];exact Zs.kept h (Za.refl _ _)
theorem XS {W:World}{b k g:Nat}{R:Zd}{nd:Zi}(h:Ref W b (R.putN k nd))(hk:k<R.nodes.length)(ho:R.vn.ownBlock=some g)(f:Nat)(hf:f<7)(u:Value)(hu:(nodeC nd)[f]?=some u):W.cell? ⟨g,k*7+f,none⟩=some u:=by
 refine h.nodes.cell ho _ u ?_;show((R.nodes.set k nd).flatMap nodeC)[k*7+f]?=_;rw[Zy (R.nodes.set k nd) k (by simpa using hk) f hf,List.getElem_set_self];exact hu
theorem Zm.kept {w W W':World}{b k:Nat}{R:Zd}{p:ZD}(h:Zm w b R k p W)(kk:Za (fun _=>False) W W'):Zm w b R k p W':=by
 obtain⟨nd,e,hB⟩:=h;exact⟨nd,e,hB.trans (Zs.kept hB.1 kk)⟩
structure Ze4 (R:Zd)(p:ZD):Prop where
 hz:p.horizon+1<R.past.length
 wts:∀t∈p.wts,t<R.past.length
 wl:p.wts.length≤1000
 el:p.ents.length≤1000
 eq:∀e∈p.ents,e.q.size≤maxLen
theorem Zih (l:List Zj)(t:Nat)(e:Zh):(YU l t e).q=e.q:=by unfold YU;split<;>rfl
theorem Fit.putN {R:Zd}{k:Nat}{nd:Zi}(h:R.Fit)(h1:nd.fls.length≤12∧nd.horizon≤700∧∀t∈nd.fls,t≤700):(R.putN k nd).Fit:=
 ⟨h.pos,h.pmax,h.clk0,h.clk1,h.rmax,by show 0<(R.nodes.set k nd).length;rw[List.length_set];exact h.npos,by show(R.nodes.set k nd).length≤3;rw[List.length_set];exact h.nmax,fun n hn=>by
  rcases List.mem_or_eq_of_mem_set hn with hn|rfl
  · exact h.fmax n hn
  · exact h1⟩
theorem Zm.ents {w W:World}{b k ge i:Nat}{R:Zd}{p:ZD}{e:Zh}{nd':Zi}(hk:k<R.nodes.length)(e1:nd'.p=p)(hB:Zs w b R W (R.putN k nd'))(hge:nd'.en.ownBlock=some ge)(hi:i<p.ents.length):Zm w b R k {p with ents:=p.ents.set i e} (set6 W ge (i*6) e):=by
 subst e1;have hnd:(R.putN k nd').nodes[k]?=some nd':=List.getElem?_set_self hk;have hr:=hB.1.ents nd' (List.mem_of_getElem? hnd);have hi':i<nd'.ents.length:=hi;have hz:=hr.set6 hge hi' e;have hT:=hB.1.turnEnts hnd (nd'.ents.set i e) ((Zac W ge (i*6) e).mono fun j hj=>by rw[hj];exact hge) (by rw[List.length_set];exact hz);refine⟨nd'.setEnts (nd'.ents.set i e) nd'.en,rfl,?_⟩;have:=hB.trans hT;rw[show(R.putN k nd').putN k (nd'.setEnts (nd'.ents.set i e) nd'.en)=R.putN k (nd'.setEnts (nd'.ents.set i e) nd'.en) by simp[Zd.putN,List.set_set]]at this;exact this
theorem Zm.cells {w W:World}{b k g cap:Nat}{R:Zd}{p:ZD}(h:Zm w b R k p W)(hk:k<R.nodes.length)(hv:R.vn=.slice (some ⟨g,0,none⟩) R.nodes.length cap)(ho:R.vn.ownBlock=some g):
 ∃ae ce aw cw,W.cell? ⟨b,3,none⟩=some (.slice (some ⟨g,0,none⟩) R.nodes.length cap)∧W.cell? ⟨g,k*7+2,none⟩=some (.int .u64 (p.horizon:Int))∧W.cell? ⟨g,k*7+4,none⟩=some (.slice aw p.wts.length cw)∧W.cell? ⟨g,k*7+5,none⟩=some (.slice ae p.ents.length ce)∧(∀i,W.frozen? ⟨g,i,none⟩=false)∧
  ∀i (hi:i<p.ents.length),∃ge,ae=some ⟨ge,0,none⟩∧ge≠g∧ge≠b∧(∀f u,(Zk p.ents[i])[f]?=some u→W.cell? ⟨ge,i*6+f,none⟩=some u)∧(∀f,W.frozen? ⟨ge,f,none⟩=false)∧∀e,Zm w b R k {p with ents:=p.ents.set i e} (set6 W ge (i*6) e):=by
 obtain⟨nd',e1,hB⟩:=h;subst e1;have hnd:(R.putN k nd').nodes[k]?=some nd':=List.getElem?_set_self hk;have hmem:=List.mem_of_getElem? hnd;obtain⟨ae,ce,hve,_⟩:=(hB.1.ents nd' hmem).form;obtain⟨aw,cw,hvw,_⟩:=(hB.1.wts nd' hmem).form;refine⟨ae,ce,aw,cw,?_,XS hB.1 hk ho 2 (by omega) _ rfl,XS hB.1 hk ho 4 (by omega) _ (by show some nd'.wt=some (Value.slice aw nd'.wts.length cw);rw[←hvw]),XS hB.1 hk ho 5 (by omega) _ (by show some nd'.en=some (Value.slice ae nd'.ents.length ce);rw[←hve]),fun i=>hB.1.nodes.free ho i,fun i hi=> ?_⟩
 · have:=hB.1.c3;have e2:(R.putN k nd').vn=R.vn:=rfl;rw[e2,hv]at this;exact this
 · have hr:=hB.1.ents nd' hmem;have hi':i<nd'.ents.length:=hi;obtain⟨ge,c',e2,e3,_⟩:=hr.block (by omega);have e4:=e2;rw[hve]at e4;injection e4 with e4 _ _;refine⟨ge,e4,fun e=> ?_,fun e=> ?_,fun f u hu=>hr.cell e3 _ u ?_,fun f=>hr.free e3 f,fun e=>Zm.ents hk rfl hB e3 hi⟩
   · have:=hr.ne_row hB.1.nodes (by decide) ge e3;exact this (by rw[e];exact ho)
   · exact hr.ne_block hB.1.blk (by decide) (by rw[e3,e])
   · have hf:f<6:=(List.getElem?_eq_some_iff.mp hu).1;rw[ZO Zk 6 (fun _=>rfl) nd'.ents i hi' f hf];exact hu
theorem Zm.far {w W W':World}{F:Nat→Prop}{b k:Nat}{R:Zd}{p:ZD}(h:Zm w b R k p W)(kk:Za F W W')(hF:∀j,F j→W.heap.size≤j):Zm w b R k p W':=by
 obtain⟨nd,e,hB⟩:=h;have hs:=hB.2.1.size;exact⟨nd,e,hB.1.kept kk (fun j hj hf=>by have:=hB.1.lt j hj;have:=hF j hf;omega),hB.2.1.trans kk (fun _=>id) (fun i hi hf=>by have:=hF i hf;omega),hB.2.2⟩
end Go.Proofs.YtpfcacedpkaihaaGreat
