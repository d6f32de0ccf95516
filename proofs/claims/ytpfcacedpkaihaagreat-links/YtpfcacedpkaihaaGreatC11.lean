import Derived.Test.YtpfcacedpkaihaaGreatC10
import Derived.Test.YtpfcacedpkaihaaGreatC1
namespace Go.Proofs.YtpfcacedpkaihaaGreat
open Go.RowKit
set_option maxRecDepth 100000
set_option maxHeartbeats 16000000
theorem Zhm (w:World)(b:Nat)(ao:Option Addr)(n cap:Nat)(c0:w.cell? ⟨b,0,none⟩=some (.slice ao n cap))(hp:0<n)(hm:n≤701):
 Calls Tryz.prog 77 #[.pointer (some ⟨b,0,none⟩)] w fun e w'=>e=.returned (.int .u64 ((n-1:Nat):Int))∧w=w':=by
 go_enter Tryz.func77,Tryz.ntmps77;go_wp2;go_ret;exact⟨XZ (by omega),rfl⟩
theorem Vv (w:World)(b:Nat)(R:Zd)(h:Ref w b R)(hf:R.Fit):
 Calls Tryz.prog 77 #[.pointer (some ⟨b,0,none⟩)] w fun e w'=>e=.returned (.int .u64 ((R.past.length-1:Nat):Int))∧w=w':=by
 obtain⟨ao,cap,hv,_⟩:=h.past.form;have c0:=h.c0;rw[hv]at c0;have hp:=hf.pos;have hm:=hf.pmax;clear h hf hv;go_enter Tryz.func77,Tryz.ntmps77;go_wp2;go_ret;exact⟨XZ (by omega),rfl⟩
theorem Ref.tick {w:World}{b:Nat}{R:Zd}(h:Ref w b R)(c:Int):Ref (w.setCell ⟨b,1,none⟩ (.int .i64 c)) b {R with clock:=c}:=
 ⟨h.blk.set 1 _,h.all.kept (Za.setCell w ⟨b,1,none⟩ (.int .i64 c)) (by rintro j ⟨r,hr,hj⟩ he;subst he;exact h.ne r hr hj)⟩
theorem rtick (w:World)(b:Nat)(R:Zd)(h:Ref w b R)(hf:R.Fit):
 Calls Tryz.prog 32 #[.pointer (some ⟨b,0,none⟩)] w fun e w'=>
  (R.clock=100000∧e=.returned (.int .i64 6)∧w=w')∨(R.clock<100000∧e=.returned (.int .i64 0)∧Ref w' b {R with clock:=R.clock+1}∧Za (R.fp b) w w'):=by
 have c1:=h.c1;have f1:=h.blk.free 1;have hm0:=hf.clk0;have hm1:=hf.clk1;by_cases hc:R.clock=100000
 · have hc':(R.clock==100000)=true:=beq_iff_eq.mpr hc;have HC:=hid hc;clear hc h hf;go_enter Tryz.func32,Tryz.ntmps32;go_wp2;go_ret;exact .inl ⟨HC.out,rfl,rfl⟩
 · have hc':(R.clock==100000)=false:=beq_eq_false_iff_ne.mpr hc;have HR:=hid h;clear h hf;go_enter Tryz.func32,Tryz.ntmps32;go_wp2;go_ret;exact .inr ⟨by omega,rfl,HR.out.tick _,(Za.setCell _ _ _).mono fun k hk=>.inl hk⟩
def Xp (l:List Zj)(t:Nat)(tick:Int):Bool:=decide (t=l.length-1)||decide (tick≤(l[t+1]?.map Zj.tick).getD 0)
theorem rfresh (w:World)(b:Nat)(R:Zd)(t:Nat)(tick:Int)(h:Ref w b R)(hf:R.Fit)(ht:t<R.past.length):
 Calls Tryz.prog 84 #[.pointer (some ⟨b,0,none⟩),.int .u64 t,.int .i64 tick] w fun e w'=>e=.returned (.bool (Xp R.past t tick))∧w=w':=by
 have hp:=hf.pos;have hm:=hf.pmax;obtain⟨g,cap,hv,ho,_⟩:=h.past.block hp;have c0:=h.c0;rw[hv]at c0;have hn:=fun W (hW:Ref W b R)=>Vv W b R hW hf;have HN:=hid hn;have HR:=hid h;by_cases hc:t=R.past.length-1
 · have hb:(((t:Int))==((R.past.length-1:Nat):Int))=true:=beq_iff_eq.mpr (by omega);have HF:Hid (Xp R.past t tick=true):=by simp[Hid,Xp,hc]
   clear hc h hf hv hn ho;go_enter Tryz.func84,Tryz.ntmps84
   go_wp2_with (go_at_call 77;refine(HN.out _ HR.out).mono ?_;rintro e w' ⟨rfl,rfl⟩)
   go_ret;exact⟨Z6 (by rw[HF.out]),rfl⟩
 · have hb:(((t:Int))==((R.past.length-1:Nat):Int))=false:=beq_eq_false_iff_ne.mpr (by omega);have hlt:t+1<R.past.length:=by omega
   have hcell:=h.past.cell ho ((t+1)*10+9) _ (by rw[Vk R.past (t+1) hlt 9 (by omega)];rfl);obtain⟨tk,htk⟩:∃tk,tk=R.past[t+1].tick:=⟨_,rfl⟩;rw[←htk]at hcell;have HF:Hid (Xp R.past t tick=decide (tick≤tk)):=by simp[Hid,Xp,hc,List.getElem?_eq_getElem hlt,htk]
   clear hc h hf hv hn ho htk;go_enter Tryz.func84,Tryz.ntmps84
   go_wp2_with (go_at_call 77;refine(HN.out _ HR.out).mono ?_;rintro e w' ⟨rfl,rfl⟩)
   go_ret;exact⟨Z6 (by rw[HF.out]),rfl⟩
def Yy (l:List Yj)(r:Int):Bool:=decide (r<0)||decide ((l.length:Int)≤r)||(l[r.toNat]?.map Yj.ended).getD false
theorem Ze8 (w:World)(b:Nat)(R:Zd)(r:Int)(h:Ref w b R)(hf:R.Fit):
 Calls Tryz.prog 86 #[.pointer (some ⟨b,0,none⟩),.int .i64 r] w fun e w'=>e=.returned (.bool (Yy R.rdrs r))∧w=w':=by
 have hm:=hf.rmax;obtain⟨ao,cap,hv,_⟩:=h.rdrs.form;have c2:=h.c2;rw[hv]at c2;by_cases h0:r<0
 · have hd:decide (r<0)=true:=by simpa using h0
   have HF:Hid (Yy R.rdrs r=true):=by simp[Hid,Yy,h0]
   clear h hf hv;go_enter Tryz.func86,Tryz.ntmps86;go_wp2;go_ret;exact⟨Z6 (by rw[HF.out]),rfl⟩
 · have hd:decide (r<0)=false:=by simpa using h0
   by_cases h1:(R.rdrs.length:Int)≤r
   · have hd1:decide ((R.rdrs.length:Int)≤r)=true:=by simpa using h1
     have HF:Hid (Yy R.rdrs r=true):=by simp[Hid,Yy,h1]
     clear h hf hv;go_enter Tryz.func86,Tryz.ntmps86;go_wp2;go_ret;exact⟨Z6 (by rw[HF.out]),rfl⟩
   · have hd1:decide ((R.rdrs.length:Int)≤r)=false:=by simpa using h1
     obtain⟨j,rfl⟩:∃j:Nat,r=j:=⟨r.toNat,by omega⟩;have hlt:j<R.rdrs.length:=by omega
     obtain⟨g,cap',hv',ho,_⟩:=h.rdrs.block (by omega);rw[hv]at hv';injection hv' with e1 _ e2;subst e1;have hcell:=h.rdrs.cell ho (j*3+2) _ (by rw[Un R.rdrs j hlt 2 (by omega)];rfl);obtain⟨en,hen⟩:∃en,en=R.rdrs[j].ended:=⟨_,rfl⟩;rw[←hen]at hcell;have HF:Hid (Yy R.rdrs j=en):=by
      have a:¬(j:Int)<0:=by omega
      have c:¬(R.rdrs.length:Int)≤(j:Int):=by omega
      show Yy R.rdrs j=en;simp only[Yy,a,c,decide_false,Bool.false_or,Int.toNat_natCast,List.getElem?_eq_getElem hlt,hen];rfl
     clear h hf hv ho hen;go_enter Tryz.func86,Tryz.ntmps86;go_wp2;go_ret;exact⟨Z6 (by rw[HF.out]),rfl⟩
def Zd.endR (R:Zd)(j:Nat)(x:Yj):Zd:={R with rdrs:=R.rdrs.set j {x with ended:=true}}
theorem Ref.endR {w:World}{b:Nat}{R:Zd}(h:Ref w b R)(j g:Nat)(x:Yj)(hx:R.rdrs[j]?=some x)(ho:R.vr.ownBlock=some g):Ref (w.setCell ⟨g,j*3+2,none⟩ (.bool true)) b (R.endR j x):=by
 have k:=Za.setCell w ⟨g,j*3+2,none⟩ (.bool true);obtain⟨hj,hx'⟩:=List.getElem?_eq_some_iff.mp hx;have e:(R.rdrs.flatMap YO).set (j*3+2) (.bool true)=(R.rdrs.set j {x with ended:=true}).flatMap YO:=
  Zt YO 3 (fun _=>rfl) R.rdrs j hj 2 (by omega) (.bool true) {x with ended:=true} (by rw[hx'];rfl)
 refine h.turn 1 ⟨162,3,R.vr,R.rdrs.length,R.rdrs.flatMap YO⟩ ⟨162,3,R.vr,(R.rdrs.set j {x with ended:=true}).length,(R.rdrs.set j {x with ended:=true}).flatMap YO⟩ rfl (k.mono fun i hi=>by show R.vr.ownBlock=some i;rw[ho,hi]) ?_ rfl rfl rfl;show Row _ _ 3 R.vr (R.rdrs.set j _).length ((R.rdrs.set j _).flatMap YO);rw[List.length_set,←e];exact h.rdrs.set ho _ _
theorem rend (w:World)(b:Nat)(R:Zd)(r:Int)(h:Ref w b R)(hf:R.Fit):
 Calls Tryz.prog 37 #[.pointer (some ⟨b,0,none⟩),.int .i64 r] w fun e w'=>
  (Yy R.rdrs r=true∧e=.returned (.tuple #[.agg #[.int .u64 0,.int .u64 0],.int .i64 8])∧Below w.heap.size w w')∨
  (∃(j:Nat)(x:Yj),r=j∧R.rdrs[j]?=some x∧x.ended=false∧e=.returned (.tuple #[.agg #[.int .u64 (x.lo:Int),.int .u64 (x.hi:Int)],.int .i64 0])∧Ref w' b (R.endR j x)∧Za (R.fp b) w w'):=by
 have HG:Hid (∀W,Ref W b R→Calls Tryz.prog 86 #[.pointer (some ⟨b,0,none⟩),.int .i64 r] W fun e w'=>e=.returned (.bool (Yy R.rdrs r))∧W=w'):=fun W hW=>Ze8 W b R r hW hf;have hlt0:=h.lt;have hb:=h.blk.lt;have hR1:Ref (w.alloc (.cells #[.int .u64 0,.int .u64 0] 88)) b R:=h.kept (Za.alloc w _ (fun _=>False)) (fun _ _=>id);have HR1:=hid hR1;cases hg:Yy R.rdrs r with
 |true=>
  rw[hg]at HG;clear h hR1 hf hlt0;go_enter Tryz.func37,Tryz.ntmps37
  go_wp2_with (go_at_call 86;refine(HG.out _ HR1.out).mono ?_;rintro e w' ⟨rfl,rfl⟩)
  refine bodyPost_ret (v:=.tuple #[.agg #[.int .u64 0,.int .u64 0],.int .i64 8]) (by simp[results,Tryz.results37,go_sem]) rfl (.inl ⟨by trivial,rfl,?_⟩);exact((((Below.refl _ _).alloc (Nat.le_refl _) _)))
 |false=>
  rw[hg]at HG;have hz:¬r<0:=by intro hh;simp[Yy,hh]at hg
  have hz1:¬(R.rdrs.length:Int)≤r:=by intro hh;simp[Yy,hh]at hg
  obtain⟨j,rfl⟩:∃j:Nat,r=j:=⟨r.toNat,by omega⟩;have hlt:j<R.rdrs.length:=by omega
  have hm:=hf.rmax;have hen:R.rdrs[j].ended=false:=by
   simp only[Yy,hz,hz1,decide_false,Bool.false_or,Int.toNat_natCast,List.getElem?_eq_getElem hlt]at hg;exact hg
  obtain⟨g,cap,hv,ho,hgl⟩:=h.rdrs.block (by omega);have c2:=h.c2;rw[hv]at c2;have q0:=h.rdrs.cell ho (j*3) _ (by have:=Un R.rdrs j hlt 0 (by omega);rw[Nat.add_zero]at this;rw[this];rfl);have q1:=h.rdrs.cell ho (j*3+1) _ (by rw[Un R.rdrs j hlt 1 (by omega)];rfl);have q2:=h.rdrs.cell ho (j*3+2) _ (by rw[Un R.rdrs j hlt 2 (by omega)];rfl);have f2:=h.rdrs.free ho (j*3+2);have hnb:g≠b:=fun e=>h.rdrs.ne_block h.blk (by decide) (by rw[ho,e]);obtain⟨x,hx⟩:∃x,x=R.rdrs[j]:=⟨_,rfl⟩;rw[←hx]at q0 q1 q2;have HX:Hid (R.rdrs[j]?=some x∧x.ended=false):=⟨by rw[hx];exact List.getElem?_eq_getElem hlt,by rw[hx];exact hen⟩;have hE:=h.endR j g x HX.out.1 ho;have HE:Hid (∀c,Ref ((w.setCell ⟨g,j*3+2,none⟩ (.bool true)).alloc c) b (R.endR j x)):=fun c=>hE.kept (Za.alloc _ _ (fun _=>False)) (fun _ _=>id);clear hE;have HO:=hid ho;clear h hR1 hf hlt0 hv ho hx hen hg;go_enter Tryz.func37,Tryz.ntmps37
  go_wp2_with (go_at_call 86;refine(HG.out _ HR1.out).mono ?_;rintro e w' ⟨rfl,rfl⟩)
  refine bodyPost_ret (v:=.tuple #[.agg #[.int .u64 (x.lo:Int),.int .u64 (x.hi:Int)],.int .i64 0]) (by simp[results,Tryz.results37,go_sem]) rfl (.inr ⟨j,x,rfl,HX.out.1,HX.out.2,rfl,HE.out _,?_⟩);exact((Za.setCell w _ _).mono fun k hk=>Zbr (by rw[HO.out,hk])).trans (Za.alloc _ _ (fun _=>False)) (fun _=>id) (fun _ _=>False.elim)
theorem Zfq (l:List Yj)(j:Nat)(h:j<l.length):YH (l.take (j+1))=YH (l.take j)+if l[j].ended then 0 else 1:=by
 rw[List.take_succ_eq_append_getElem h,YH,List.filter_append,List.length_append];cases hh:l[j].ended<;>simp[YH,hh]
theorem ZiI (l:List Yj)(j:Nat):YH (l.take j)≤l.length:=by
 unfold YH;exact Nat.le_trans (List.length_filter_le _ _) (by simp;omega)
theorem Tryz.infoReader :(Tryz.prog.info? 162).map (fun i=>(i.zero,i.size,i.bytes))=some (some (.agg #[.int .u64 0,.int .u64 0,.bool false]),3,24):=by kernel_rfl
def Zd.beginR (R:Zd)(lo:Nat)(v:Value):Zd:={R with rdrs:=R.rdrs++[⟨lo,R.past.length-1,false⟩],vr:=v}
theorem Ref.beginR {w w':World}{b:Nat}{R:Zd}(h:Ref w b R)(lo:Nat)(v:Value)(hA:Zc w w' 162 3 R.vr v R.rdrs.length 1 (R.rdrs.flatMap YO) [.int .u64 (lo:Int),.int .u64 ((R.past.length-1:Nat):Int),.bool false]):
 Ref (w'.setCell ⟨b,2,none⟩ v) b (R.beginR lo v)∧Za (R.fp b) w (w'.setCell ⟨b,2,none⟩ v)∧(∀k,(R.beginR lo v).fp b k→R.fp b k∨w.heap.size≤k):=by
 refine h.put 1 2 ⟨162,3,R.vr,R.rdrs.length,R.rdrs.flatMap YO⟩ ⟨162,3,v,(R.rdrs++[(⟨lo,R.past.length-1,false⟩:Yj)]).length,(R.rdrs++[(⟨lo,R.past.length-1,false⟩:Yj)]).flatMap YO⟩ rfl hA.kept ?_ (fun x hx=>hA.own.imp (fun e=>by show R.vr.ownBlock=some x;rw[←e];exact hx) (fun e=>e x hx)) rfl (by dsimp only;decide) rfl;show Row _ _ 3 v (R.rdrs++[_]).length ((R.rdrs++[_]).flatMap YO);rw[List.length_append,List.flatMap_append];exact hA.row
theorem Zfw (w:World)(b:Nat)(limit:Int)(hl:limit<0∨100000<limit):
 Calls Tryz.prog 35 #[.pointer (some ⟨b,0,none⟩),.int .i64 limit] w fun e w'=>e=.returned (.tuple #[.int .i64 0,.int .i64 10])∧w=w':=by
 by_cases h0:limit<0
 · have hd:decide (limit<0)=true:=by simpa using h0
   go_enter Tryz.func35,Tryz.ntmps35;go_wp2;go_ret2;exact⟨rfl,rfl⟩
 · have hd:decide (limit<0)=false:=by simpa using h0
   have h1:100000<limit:=by omega
   go_enter Tryz.func35,Tryz.ntmps35;go_wp2;go_ret2;exact⟨rfl,rfl⟩
def Zfi (l:List Zj)(tick:Int)(t:Nat):Prop:=t<l.length∧Xp l t tick=true∧∀i,i<t→Xp l i tick=false
def cellN (w:World)(a:Addr):Nat:=match w.cell? a with
 |some (.int _ n)=>n.toNat
 |_=>0
theorem Ref.drewN {w:World}{b:Nat}{R:Zd}(h:Ref w b R)(n:Nat):Ref (w.drewN n) b R:=h.same fun _ _=>rfl
theorem Zfx (l:List Zj)(tick:Int)(t:Nat)(h:l.length≤t+1)(ht:t<l.length):Xp l t tick=true:=by
 have:t=l.length-1:=by omega
 simp[Xp,this]
theorem Zfk (a b:Int)(c:Bool):∀u∈[Value.int .u64 a,Value.int .u64 b,Value.bool c],u.oneCell'=true:=by
 intro u hu;simp at hu;rcases hu with rfl|rfl|rfl<;>rfl
theorem Zcu (w:World)(a b c:Value)(t:TypeId):∀j u,[a,b,c][j]?=some u→(w.alloc (.cells #[a,b,c] t)).cell? ((⟨w.heap.size,0,none⟩:Addr).add j)=some u:=by
 intro j u hj
 match j,hj with
 |0,hj=>simp at hj;subst hj;simp[Addr.add]
 |1,hj=>simp at hj;subst hj;simp[Addr.add]
 |2,hj=>simp at hj;subst hj;simp[Addr.add]
 |j+3,hj=>simp at hj
theorem Zit {W w':World}{b:Nat}{R:Zd}{v v':Value}{news:List Value}{n:Nat}{xs:List Value}(h:Ref W b R)(hv:R.vr=v)(hA:Zc W w' 162 3 v v' n 1 xs news):
 w'.cell? ⟨b,2,none⟩=some v∧w'.frozen? ⟨b,2,none⟩=false:=by
 have nb:¬v.ownBlock=some b:=fun e=>h.rdrs.ne_block h.blk (by decide) (by rw[hv,e]);have blk1:=h.blk.kept hA.kept nb;exact⟨by rw[blk1.cell 2,←hv];rfl,blk1.free 2⟩
theorem ZhR {wr w:World}{j:Nat}{n:Int}{T:TypeId}(h:Blk wr w.heap.size T #[.int .u64 (j:Int),.int .u64 n])(k:Za (fun _=>False) w wr):
 Blk (wr.setCell ⟨w.heap.size,0,none⟩ (.int .u64 ((j:Int)+1))) w.heap.size T #[.int .u64 ((j+1:Nat):Int),.int .u64 n]∧Za (fun _=>False) w (wr.setCell ⟨w.heap.size,0,none⟩ (.int .u64 ((j:Int)+1)))∧
 cellN (wr.setCell ⟨w.heap.size,0,none⟩ (.int .u64 ((j:Int)+1))) ⟨w.heap.size,0,none⟩=j+1:=by
 have hb:=h.set 0 (.int .u64 ((j:Int)+1));have e:(#[.int .u64 (j:Int),.int .u64 n]:Array Value).setIfInBounds 0 (.int .u64 ((j:Int)+1))=#[.int .u64 ((j+1:Nat):Int),.int .u64 n]:=by simp
 rw[e]at hb;refine⟨hb,k.trans (Za.setCell _ _ _) (fun _=>id) (fun i hi he=>by simp at he;omega),?_⟩;have hc:=hb.cell 0;simp at hc;simp[cellN,hc]
def Zg1 (w:World)(b:Nat)(R:Zd)(limit:Int)(e:Ending)(w':World):Prop:=
 (6≤YH R.rdrs∧e=.returned (.tuple #[.int .i64 0,.int .i64 7])∧w=w')∨
 (YH R.rdrs<6∧200≤R.rdrs.length∧e=.returned (.tuple #[.int .i64 0,.int .i64 6])∧w=w')∨
 (YH R.rdrs<6∧R.rdrs.length<200∧∃lo v,Zfi R.past (R.clock-limit) lo∧e=.returned (.tuple #[.int .i64 (R.rdrs.length:Int),.int .i64 0])∧Ref w' b (R.beginR lo v)∧Za (R.fp b) w w'∧
  (∀k,(R.beginR lo v).fp b k→R.fp b k∨w.heap.size≤k))
theorem Zfu (w:World)(b:Nat)(R:Zd)(limit:Int)(h:Ref w b R)(hf:R.Fit)(hl0:0≤limit)(hl1:limit≤100000):
 Calls Tryz.prog 35 #[.pointer (some ⟨b,0,none⟩),.int .i64 limit] w fun e w'=>Zg1 w b R limit e w':=by
 have hm:=hf.rmax;have hc0:=hf.clk0;have hc1:=hf.clk1;obtain⟨ao,cap,hv,hno⟩:=h.rdrs.form;have c2:=h.c2;rw[hv]at c2;have HR:=hid h;have HF:Hid R.Fit:=hf;have HV:=hid hv;have HCELL:Hid (∀k (hk:k<R.rdrs.length),∃g,ao=some ⟨g,0,none⟩∧w.cell? ⟨g,k*3+2,none⟩=some (.bool R.rdrs[k].ended)):=by
  intro k hk;obtain⟨g,cap',hv',ho,_⟩:=h.rdrs.block (by omega);rw[hv]at hv';injection hv' with e1 _ _;exact⟨g,e1,h.rdrs.cell ho (k*3+2) _ (by rw[Un R.rdrs k hk 2 (by omega)];rfl)⟩
 clear h hf hv hno;go_enter Tryz.func35,Tryz.ntmps35;go_wp2
 go_loop [6,7] (fun n i=>∃k:Nat,k≤R.rdrs.length∧i=.int .i64 k∧n=.int .i64 (YH (R.rdrs.take k):Nat)) (fun _ i=>R.rdrs.length-(intOf i).toNat)
 case atStart=>exact⟨0,Nat.zero_le _,rfl,rfl⟩
 case round=>
  obtain⟨k,hk,rfl,rfl⟩:=hrel;have ho:=ZiI R.rdrs k;by_cases hlt:k<R.rdrs.length
  · obtain⟨g,hg,hcell⟩:=HCELL.out k hlt;have hs:=Zfq R.rdrs k hlt;cases hen:R.rdrs[k].ended with
    |true=>
     rw[hen]at hcell;have HS:Hid (YH (R.rdrs.take (k+1))=YH (R.rdrs.take k)):=by show _=_;rw[hen]at hs;simpa using hs
     clear hs hen;rw[hg]at c2;go_wp2
     go_round
     case rel=>exact⟨k+1,by omega,by go_num,by rw[HS.out]⟩
     case measure=>simp[intOf];omega
    |false=>
     rw[hen]at hcell;have HS:Hid (YH (R.rdrs.take (k+1))=YH (R.rdrs.take k)+1):=by show _=_;rw[hen]at hs;simpa using hs
     clear hs hen;rw[hg]at c2;go_wp2
     go_round
     case rel=>exact⟨k+1,by omega,by go_num,by rw[HS.out];go_num⟩
     case measure=>simp[intOf];omega
  · have hk':k=R.rdrs.length:=by omega
    subst hk';rw[List.take_length]at ho⊢;by_cases h6:6≤YH R.rdrs
    · go_wp2;go_ret2;exact .inl ⟨h6,rfl,rfl⟩
    · by_cases h200:200≤R.rdrs.length
      · go_wp2;go_ret2;exact .inr (.inl ⟨by omega,h200,rfl,rfl⟩)
      · go_wp2_with (go_at_call 77;refine(Vv _ b R HR.out HF.out).mono ?_;rintro e w' ⟨rfl,rfl⟩)
        have hp1:=HF.out.pmax;have hp0:=HF.out.pos;obtain⟨i0,hi,hz0,hz1,hz2⟩:=info_parts Tryz.infoReader;have HI:Hid (Tryz.prog.info? 162=some i0∧i0.zero=some (.agg #[.int .u64 0,.int .u64 0,.bool false])∧i0.size=3∧i0.bytes=24):=⟨hi,hz0,hz1,hz2⟩;clear hi hz0 hz1 hz2
        go_loopw [9] (fun _ wr=>∃j:Nat,j<R.past.length∧Hid (∀i,i<j→Xp R.past i (R.clock-limit)=false)∧Hid (Blk wr w.heap.size 88 #[.int .u64 (j:Int),.int .u64 ((R.past.length-1:Nat):Int)])∧Hid (Za (fun _=>False) w wr)∧w.heap.size<wr.heap.size)
         (fun _ wr=>R.past.length-cellN wr ⟨w.heap.size,0,none⟩)
        case atStart=>exact⟨0,hp0,fun i hi=>absurd hi (Nat.not_lt_zero _),Blk.new _ _ _,Za.alloc _ _ _,by simp⟩
        case round=>
         obtain⟨j,hj,HFr,HB,HK,hz⟩:=hrel;have HRr:Hid (Ref wr b R):=HR.out.kept HK.out (fun _ _=>id);have q0:=HB.out.cell 0;have q1:=HB.out.cell 1;have qf:=HB.out.free 0;simp at q0 q1;have d1:=HRr.out.c1;have d2:=HRr.out.c2;rw[HV.out]at d2;have HFC:=fun n=>rfresh (wr.drewN n) b R j (R.clock-limit) (HRr.out.drewN n) HF.out hj;have hms:cellN wr ⟨w.heap.size,0,none⟩=j:=by simp[cellN,q0]
         clear c2;cases hfr:Xp R.past j (R.clock-limit)with
         |true=>
          rw[hfr]at HFC;have HC:Hid (∀n,Calls Tryz.prog 84 #[.pointer (some ⟨b,0,none⟩),.int .u64 j,.int .i64 (R.clock-limit)] (wr.drewN n) fun e w'=>e=.returned (.bool true)∧w'=wr.drewN n):=fun n=>(HFC n).mono fun _ _ h=>⟨h.1,h.2.symm⟩;have HL:=hid hfr;clear HFC hfr hms
          go_wp2_with fail
          go_quiet ((go_at_call 84;exact Calls.quiet_of_same (HC.out _)))
          go_wp2;have HRW:Hid (∀W:World,(∀k,k<wr.heap.size→W.heap[k]?=wr.heap[k]?)→Ref W b R):=fun W hW=>HRr.out.same fun k hk=>hW k (HRr.out.lt k hk);have hbb:b<wr.heap.size:=HRr.out.blk.lt;have HOwn:Hid (∀W:World,(∀k,k<wr.heap.size→W.heap[k]?=wr.heap[k]?)→Row W 162 3 (.slice ao R.rdrs.length cap) R.rdrs.length (R.rdrs.flatMap YO)):=fun W hW=>by rw[←HV.out];exact(HRW.out W hW).rdrs
          have b1:R.rdrs.length+1≤maxLen:=by unfold maxLen;omega
          have b2:(R.rdrs.length+1)*24≤140737488355328:=by omega
          have HALL:Hid (∀(m:Nat)(o:Obj)(k:Nat),k<wr.heap.size→((wr.drewN m).alloc o).heap[k]?=wr.heap[k]?):=fun m o k hk=>Below.heap_alloc (wr.drewN m) o k hk;have dA:∀(m:Nat)(o:Obj),((wr.drewN m).alloc o).cell? ⟨b,2,none⟩=some (.slice ao R.rdrs.length cap):=fun m o=>by rw[(HRW.out _ (HALL.out m o)).c2,HV.out]
          go_region_law (refine Zw rfl (.tmp 66) (.tmp 69) 81 rfl 162 i0 (.agg #[.int .u64 0,.int .u64 0,.bool false]) 3 24 Tryz.underlying81 HI.out.1 HI.out.2.1 HI.out.2.2.1 HI.out.2.2.2 rfl (Nat.succ_pos 2) (.slice ao R.rdrs.length cap) R.rdrs.length (R.rdrs.flatMap YO) rfl (HOwn.out _ (HALL.out _ _)) ⟨wr.heap.size,0,none⟩ 1 1 [.int .u64 j,.int .u64 ((R.past.length-1:Nat):Int),.bool false] rfl rfl (Zcu (wr.drewN _) _ _ _ _) (Zfk _ _ _) b1 b2 ?_;intro v' w' hA;obtain⟨k2,k2f⟩:=Zit (HRW.out _ (HALL.out _ _)) HV.out hA;obtain⟨ao',cap',hv',_⟩:=hA.row.form;subst hv')
          all_goals
           rw[←HV.out]at hA;obtain⟨z1,z2,z3⟩:=Ref.beginR (HRW.out _ (HALL.out _ _)) j _ hA;have HZ:Hid (Ref (w'.setCell ⟨b,2,none⟩ (.slice ao' (R.rdrs.length+1) cap')) b (R.beginR j (.slice ao' (R.rdrs.length+1) cap'))∧Za (R.fp b) w (w'.setCell ⟨b,2,none⟩ (.slice ao' (R.rdrs.length+1) cap'))∧(∀k,(R.beginR j (.slice ao' (R.rdrs.length+1) cap')).fp b k→R.fp b k∨w.heap.size≤k)):=by
            refine⟨z1,((HK.out.drewN _).trans (Za.alloc _ _ (fun _=>False)) (fun _=>id) (fun _ _=>id)).trans z2 (fun _=>False.elim) (fun _ _=>id),fun k hk=>(z3 k hk).imp id fun hh=> ?_⟩;simp only[World.size_alloc]at hh;have h2:=HK.out.size;have h3:wr.heap.size+1≤k:=hh;omega
           clear z1 z2 z3 hA dA d1 d2 q0 q1 qf;go_wp2;go_ret2;exact .inr (.inr ⟨by omega,by omega,j,_,⟨hj,HL.out,HFr.out⟩,rfl,HZ.out⟩)
         |false=>
          rw[hfr]at HFC;have HC:Hid (∀n,Calls Tryz.prog 84 #[.pointer (some ⟨b,0,none⟩),.int .u64 j,.int .i64 (R.clock-limit)] (wr.drewN n) fun e w'=>e=.returned (.bool false)∧w'=wr.drewN n):=fun n=>(HFC n).mono fun _ _ h=>⟨h.1,h.2.symm⟩;have hjl:j+1<R.past.length:=by
           by_cases hh:j+1<R.past.length
           · exact hh
           · rw[Zfx R.past _ j (by omega) hj]at hfr;cases hfr
          have HL:=hid hfr;have HMS:=hid hms;clear HFC hfr hms
          go_wp2_with fail
          go_quiet ((go_at_call 84;exact Calls.quiet_of_same (HC.out _)))
          go_wp2;obtain⟨s1,s2,s3⟩:=ZhR (wr:=wr.drewN nq) (HB.out.same rfl) (HK.out.drewN _)
          go_roundw
          case rel=>
           refine⟨j+1,hjl,fun i hi=> ?_,s1,s2,by simpa using hz⟩;by_cases he:i=j
           · rw[he];exact HL.out
           · exact HFr.out i (by omega)
          case measure=>rw[s3,HMS.out];omega
theorem Zci (w:World)(b:Nat)(R:Zd)(t:Nat)(K:Int)(p:Zj)(h:Ref w b R)(hf:R.Fit)(hp:R.past[t]?=some p):
 Calls Tryz.prog 141 #[.pointer (some ⟨b,0,none⟩),.int .u64 t,.int .u8 K] w fun e w'=>e=.returned (.bool (bits .and .u8 p.keys K !=0))∧w=w':=by
 obtain⟨hlt,hp'⟩:=List.getElem?_eq_some_iff.mp hp;have hm:=hf.pmax;obtain⟨g,cap,hv,ho,_⟩:=h.past.block (by omega);have c0:=h.c0;rw[hv]at c0;have hcell:=h.past.cell ho (t*10+8) _ (by rw[Vk R.past t hlt 8 (by omega),hp'];rfl);clear h hf hv ho hp hp';go_enter Tryz.func141,Tryz.ntmps141;go_wp2;go_ret;exact⟨rfl,rfl⟩
theorem rlast (w:World)(q:Value)(val:Int)(fr till kn hz:Nat)(op:Bool)(hq:∃s,q=.string s)(ht:op=false→1≤till)(hb:till≤701∧kn≤700∧hz≤700):
 Calls Tryz.prog 96 #[.agg #[q,.int .i32 val,.int .u64 fr,.int .u64 till,.bool op,.int .u64 kn],.int .u64 hz] w fun e w'=>e=.returned (.int .u64 (((if op then max kn hz else till-1):Nat):Int))∧Below w.heap.size w w':=by
 obtain⟨s,rfl⟩:=hq;obtain⟨hb1,hb2,hb3⟩:=hb;cases op with
 |false=>
  have h1:1≤till:=ht rfl;clear ht;go_enter Tryz.func96,Tryz.ntmps96;go_wp2;go_ret;exact⟨XZ (by omega),(Below.refl _ _).alloc (Nat.le_refl _) _⟩
 |true=>
  clear ht;by_cases hc:hz<kn
  · go_enter Tryz.func96,Tryz.ntmps96;go_wp2;go_ret;exact⟨XZ (by omega),(Below.refl _ _).alloc (Nat.le_refl _) _⟩
  · go_enter Tryz.func96,Tryz.ntmps96;go_wp2;go_ret;exact⟨XZ (by omega),(Below.refl _ _).alloc (Nat.le_refl _) _⟩
def ZiN (q:ByteArray)(i:Nat):Array Value:=#[.string q,.int .i32 0,.int .u64 0,.int .u64 (i:Int),.bool false,.int .u64 0]
theorem below_drewN {n:Nat}{w w':World}(h:Below n w w')(m:Nat):Below n w (w'.drewN m):=⟨h.os,h.tape,h.output,h.size,h.block⟩
theorem Zkj (w:World)(g n cap i:Nat)(q:ByteArray)(hn:n≤1000000)(hc:∀j,j<n→w.cell? ⟨g,j*6,none⟩=some (.string q)∧w.cell? ⟨g,j*6+1,none⟩=some (.int .i32 0)∧w.cell? ⟨g,j*6+2,none⟩=some (.int .u64 0)∧w.cell? ⟨g,j*6+3,none⟩=some (.int .u64 (i:Int))∧w.cell? ⟨g,j*6+4,none⟩=some (.bool false)∧w.cell? ⟨g,j*6+5,none⟩=some (.int .u64 0))(hg:n=0∨g<w.heap.size):
 Calls Tryz.prog 18 #[.slice (some ⟨g,0,none⟩) n cap,.agg (ZiN q i)] w fun e w'=>e=.returned (.bool true)∧Below w.heap.size w w':=by
 unfold ZiN;have HC:=hid hc;have HG:=hid hg;clear hc hg;go_enter Tryz.func18,Tryz.ntmps18;go_wp2
 go_loopw [5] (fun k wr=>∃j:Nat,j≤n∧k=.int .i64 j∧Hid (Below w.heap.size w wr∧Blk wr w.heap.size 55 (ZiN q i))) (fun k _=>n-(intOf k).toNat)
 case atStart=>exact⟨0,Nat.zero_le _,rfl,(Below.refl _ _).alloc (Nat.le_refl _) _,Blk.new _ _ _⟩
 case round=>
  obtain⟨j,hj,rfl,HB⟩:=hrel;have z0:wr.cell? ⟨w.heap.size,0,none⟩=some (.string q):=HB.out.2.cell 0;have z3:wr.cell? ⟨w.heap.size,3,none⟩=some (.int .u64 (i:Int)):=HB.out.2.cell 3;by_cases hlt:j<n
  · have hgz:g<w.heap.size:=by have:=HG.out;omega
    have hbb:=HB.out.1.block g hgz;obtain⟨a0,a1,a2,a3,a4,a5⟩:=HC.out j hlt;have c0:=(World.cell?_of_block (a:=⟨g,j*6,none⟩) hbb).trans a0;have c1:=(World.cell?_of_block (a:=⟨g,j*6+1,none⟩) hbb).trans a1;have c2:=(World.cell?_of_block (a:=⟨g,j*6+2,none⟩) hbb).trans a2;have c3:=(World.cell?_of_block (a:=⟨g,j*6+3,none⟩) hbb).trans a3;have c4:=(World.cell?_of_block (a:=⟨g,j*6+4,none⟩) hbb).trans a4;have c5:=(World.cell?_of_block (a:=⟨g,j*6+5,none⟩) hbb).trans a5;clear a0 a1 a2 a3 a4 a5 hbb;have hj0:(0:Int)≤(j:Int):=by omega
    have hj1:(j:Int)<(n:Int):=by omega
    go_wp2_with fail
    go_quiet (fail)
    go_wp2
    go_roundw
    case rel=>exact⟨j+1,by omega,by go_num,below_drewN HB.out.1 _,HB.out.2.same rfl⟩
    case measure=>simp[intOf];omega
  · go_wp2;go_ret;exact⟨rfl,HB.out.1⟩
theorem Dev.c0 {w:World}{b:Nat}{D:Ze}(h:Dev w b D):w.cell? ⟨b,0,none⟩=some (.int .i64 D.clock):=h.blk.cell 0
theorem Dev.c1 {w:World}{b:Nat}{D:Ze}(h:Dev w b D):w.cell? ⟨b,1,none⟩=some D.vc:=h.blk.cell 1
theorem Dev.c2 {w:World}{b:Nat}{D:Ze}(h:Dev w b D):w.cell? ⟨b,2,none⟩=some (.int .i64 (D.begun:Int)):=h.blk.cell 2
theorem Za6 (w:World)(b:Nat)(ao:Option Addr)(n cap:Nat)(c1:w.cell? ⟨b,1,none⟩=some (.slice ao n cap))(hm:n≤700):
 Calls Tryz.prog 80 #[.pointer (some ⟨b,0,none⟩)] w fun e w'=>e=.returned (.int .u64 (n:Int))∧w=w':=by
 go_enter Tryz.func80,Tryz.ntmps80;go_wp2;go_ret;exact⟨XZ (by omega),rfl⟩
theorem Zah (w:World)(b:Nat)(D:Ze)(h:Dev w b D)(hf:D.Fit):
 Calls Tryz.prog 80 #[.pointer (some ⟨b,0,none⟩)] w fun e w'=>e=.returned (.int .u64 (D.past.length:Int))∧w=w':=by
 obtain⟨ao,cap,hv,_⟩:=h.past.form;exact Za6 w b ao _ cap (by rw[h.c1,hv]) hf.pmax
theorem Zeu (w:World)(b:Nat)(k:Int)(c0:w.cell? ⟨b,0,none⟩=some (.int .i64 k)):
 Calls Tryz.prog 81 #[.pointer (some ⟨b,0,none⟩)] w fun e w'=>e=.returned (.int .i64 k)∧w=w':=by
 go_enter Tryz.func81,Tryz.ntmps81;go_wp2;go_ret;exact⟨rfl,rfl⟩
def Zbi (w:World)(b:Nat)(D:Ze)(e:Ending)(w':World):Prop:=
 (D.clock=100000∧e=.returned (.int .i64 6)∧w=w')∨(D.clock<100000∧e=.returned (.int .i64 0)∧Dev w' b {D with clock:=D.clock+1}∧Za (D.fp b) w w')
theorem dtick0 (w:World)(b:Nat)(D:Ze)(h:Dev w b D)(hf:D.Fit):
 Calls Tryz.prog 79 #[.pointer (some ⟨b,0,none⟩)] w fun e w'=>Zbi w b D e w':=by
 have c0:=h.c0;have f0:=h.blk.free 0;have hm0:=hf.clk0;have hm1:=hf.clk1;by_cases hc:D.clock<100000
 · have HR:=hid h;clear h hf;go_enter Tryz.func79,Tryz.ntmps79;go_wp2;go_ret;exact .inr ⟨hc,rfl,HR.out.setOwn 0 _ rfl (by simp[Ze.cells]),(Za.setCell _ _ _).mono fun k hk=>.inl hk⟩
 · clear h hf;go_enter Tryz.func79,Tryz.ntmps79;go_wp2;go_ret;exact .inl ⟨by omega,rfl,rfl⟩
def VU (l:List Zj)(t:Nat):Nat→Int:=if t=0 then fun _=>0 else(l[t-1]?.map Zj.st).getD fun _=>0
def stC (s:Nat→Int):Array Value:=#[.int .i32 (s 0),.int .i32 (s 1),.int .i32 (s 2),.int .i32 (s 3),.int .i32 (s 4),.int .i32 (s 5),.int .i32 (s 6),.int .i32 (s 7)]
theorem dat (w:World)(b:Nat)(D:Ze)(t:Nat)(h:Dev w b D)(hf:D.Fit)(ht:t≤D.past.length):
 Calls Tryz.prog 128 #[.pointer (some ⟨b,0,none⟩),.int .u64 t] w fun e w'=>e=.returned (.agg (stC (VU D.past t)))∧Za (fun _=>False) w w':=by
 have hm:=hf.pmax;by_cases h0:t=0
 · subst h0;go_enter Tryz.func128,Tryz.ntmps128;go_wp2;refine bodyPost_ret (v:=.agg (stC (VU D.past 0))) (by simp[results,Tryz.results128,go_sem,stC,VU]) rfl ⟨rfl,?_⟩
   trace_state
   exact(Za.alloc _ _ _).trans (Za.refl _ _) (fun _=>id) (fun _ _=>id)
 · obtain⟨j,rfl⟩:∃j,t=j+1:=⟨t-1,by omega⟩;have hlt:j<D.past.length:=by omega
   obtain⟨g,cap,hv,ho,hgl⟩:=h.past.block (by omega);have c1:=h.c1;rw[hv]at c1;have hbl:=h.blk.lt;have hb:(((j+1:Nat):Int)==0)=false:=beq_eq_false_iff_ne.mpr (by omega);obtain⟨p,hp⟩:∃p,p=D.past[j]:=⟨_,rfl⟩;have HS:∀f (hf:f<10),w.cell? ⟨g,j*10+f,none⟩=(Zx p)[f]? :=by
    intro f hf;have e:=Vk D.past j hlt f hf;rw[←hp]at e;obtain⟨u,hu⟩:∃u,(Zx p)[f]?=some u:=⟨(Zx p)[f]'(by simpa[Zx]using hf),List.getElem?_eq_getElem _⟩;rw[hu];exact h.past.cell ho _ u (e.trans hu)
   have s0:w.cell? ⟨g,j*10,none⟩=some (.int .i32 (p.st 0)):=HS 0 (by omega);have s1:w.cell? ⟨g,j*10+1,none⟩=some (.int .i32 (p.st 1)):=HS 1 (by omega);have s2:w.cell? ⟨g,j*10+2,none⟩=some (.int .i32 (p.st 2)):=HS 2 (by omega);have s3:w.cell? ⟨g,j*10+3,none⟩=some (.int .i32 (p.st 3)):=HS 3 (by omega);have s4:w.cell? ⟨g,j*10+4,none⟩=some (.int .i32 (p.st 4)):=HS 4 (by omega);have s5:w.cell? ⟨g,j*10+5,none⟩=some (.int .i32 (p.st 5)):=HS 5 (by omega);have s6:w.cell? ⟨g,j*10+6,none⟩=some (.int .i32 (p.st 6)):=HS 6 (by omega);have s7:w.cell? ⟨g,j*10+7,none⟩=some (.int .i32 (p.st 7)):=HS 7 (by omega);have HST:Hid (VU D.past (j+1)=p.st):=by simp[Hid,VU,List.getElem?_eq_getElem hlt,hp]
   have HN:Hid (∀W:World,W.cell? ⟨b,1,none⟩=some (.slice (some ⟨g,0,none⟩) D.past.length cap)→Calls Tryz.prog 80 #[.pointer (some ⟨b,0,none⟩)] W fun e w'=>e=.returned (.int .u64 (D.past.length:Int))∧W=w'):=fun W hW=>Za6 W b _ _ _ hW hm;have n1:∀o,(w.alloc o).cell? ⟨b,1,none⟩=some (.slice (some ⟨g,0,none⟩) D.past.length cap):=fun o=>(World.cell?_alloc_past o b 1 hbl).trans c1;clear HS h hf hv ho hp;go_enter Tryz.func128,Tryz.ntmps128
   go_wp2_with (go_at_call 80;refine(HN.out _ (n1 _)).mono ?_;rintro e w' ⟨rfl,rfl⟩)
   refine bodyPost_ret (v:=.agg (stC p.st)) (by simp[results,Tryz.results128,go_sem,stC]) rfl ⟨by rw[HST.out],?_⟩
   trace_state
   exact(Za.alloc _ _ _).trans (Za.refl _ _) (fun _=>id) (fun _ _=>id)
def Zjv (l:List Zj)(tick:Int)(j:Nat):Prop:=j≤l.length∧(∀i (h:i<l.length),i<j→l[i].tick<tick)∧∀(h:j<l.length),tick≤l[j].tick
def ZhI (w:World)(D:Ze)(tick:Int)(e:Ending)(w':World):Prop:=∃j,Zjv D.past tick j∧e=.returned (.int .u64 (j:Int))∧Za (fun _=>False) w w'
theorem dsince (w:World)(b:Nat)(D:Ze)(tick:Int)(h:Dev w b D)(hf:D.Fit):
 Calls Tryz.prog 82 #[.pointer (some ⟨b,0,none⟩),.int .i64 tick] w fun e w'=>ZhI w D tick e w':=by
 have hm:=hf.pmax;obtain⟨ao,cap,hv,hno⟩:=h.past.form;have c1:=h.c1;rw[hv]at c1;have HC:=hid c1;have HCELL:Hid (∀k (hk:k<D.past.length),∃g,ao=some ⟨g,0,none⟩∧∀f,f<10→w.cell? ⟨g,k*10+f,none⟩=(Zx D.past[k])[f]?):=by
  intro k hk;obtain⟨g,cap',hv',ho,_⟩:=h.past.block (by omega);rw[hv]at hv';injection hv' with e1 _ _;refine⟨g,e1,fun f hf=> ?_⟩;have e:=Vk D.past k hk f hf;obtain⟨u,hu⟩:∃u,(Zx D.past[k])[f]?=some u:=⟨(Zx D.past[k])[f]'(by simpa[Zx]using hf),List.getElem?_eq_getElem _⟩;rw[hu];exact h.past.cell ho _ u (e.trans hu)
 clear h hf hv hno;go_enter Tryz.func82,Tryz.ntmps82;go_wp2
 go_loopw [12] (fun i wr=>∃k:Nat,k≤D.past.length∧i=.int .i64 k∧Hid (∀i (h:i<D.past.length),i<k→D.past[i].tick<tick)∧Hid (Za (fun _=>False) w wr)) (fun i _=>D.past.length-(intOf i).toNat)
 case atStart=>exact⟨0,Nat.zero_le _,rfl,fun i _ hi=>absurd hi (Nat.not_lt_zero _),Za.refl _ _⟩
 case round=>
  obtain⟨k,hk,rfl,HB,HK⟩:=hrel;by_cases hlt:k<D.past.length
  · obtain⟨g,hg,hcell⟩:=HCELL.out k hlt;obtain⟨p,hp⟩:∃p,p=D.past[k]:=⟨_,rfl⟩;rw[←hp]at hcell;have s0:wr.cell? ⟨g,k*10,none⟩=some (.int .i32 (p.st 0)):=HK.out.keep id (hcell 0 (by omega));have s1:wr.cell? ⟨g,k*10+1,none⟩=some (.int .i32 (p.st 1)):=HK.out.keep id (hcell 1 (by omega));have s2:wr.cell? ⟨g,k*10+2,none⟩=some (.int .i32 (p.st 2)):=HK.out.keep id (hcell 2 (by omega));have s3:wr.cell? ⟨g,k*10+3,none⟩=some (.int .i32 (p.st 3)):=HK.out.keep id (hcell 3 (by omega));have s4:wr.cell? ⟨g,k*10+4,none⟩=some (.int .i32 (p.st 4)):=HK.out.keep id (hcell 4 (by omega));have s5:wr.cell? ⟨g,k*10+5,none⟩=some (.int .i32 (p.st 5)):=HK.out.keep id (hcell 5 (by omega));have s6:wr.cell? ⟨g,k*10+6,none⟩=some (.int .i32 (p.st 6)):=HK.out.keep id (hcell 6 (by omega));have s7:wr.cell? ⟨g,k*10+7,none⟩=some (.int .i32 (p.st 7)):=HK.out.keep id (hcell 7 (by omega));have s8:wr.cell? ⟨g,k*10+8,none⟩=some (.int .u8 p.keys):=HK.out.keep id (hcell 8 (by omega));have s9:wr.cell? ⟨g,k*10+9,none⟩=some (.int .i64 p.tick):=HK.out.keep id (hcell 9 (by omega));have HP:=hid hp;clear hcell hp c1;subst hg;by_cases ht:tick≤p.tick
    · go_wp2;go_ret;refine⟨k,⟨hk,HB.out,fun _=>by rw[←HP.out];exact ht⟩,XZ (by omega),?_⟩;exact HK.out.trans (Za.alloc _ _ (fun _=>False)) (fun _=>id) (fun _ _=>id)
    · go_wp2
      go_roundw
      case rel=>
       refine⟨k+1,by omega,by go_num,fun i hi hik=> ?_,HK.out.trans (Za.alloc _ _ (fun _=>False)) (fun _=>id) (fun _ _=>id)⟩;by_cases e:i=k
       · subst e;rw[←HP.out];omega
       · exact HB.out i hi (by omega)
      case measure=>simp[intOf];omega
  · have hk':k=D.past.length:=by omega
    subst hk';have HC2:Hid (wr.cell? ⟨b,1,none⟩=some (.slice ao D.past.length cap)):=HK.out.keep id HC.out
    go_wp2_with (go_at_call 80;refine(Za6 _ b _ _ _ HC2.out hm).mono ?_;rintro e w' ⟨rfl,rfl⟩)
    go_ret;exact⟨D.past.length,⟨Nat.le_refl _,HB.out,fun h=>absurd h (Nat.lt_irrefl _)⟩,rfl,HK.out⟩
theorem ZjH {q:Zj}{kk:Nat}{y:Int}(hk:kk≤7):(stC q.st).setIfInBounds kk (.int .i32 y)=stC (Vx q ((kk:Int),y)).st:=by
 have hc:kk=0∨kk=1∨kk=2∨kk=3∨kk=4∨kk=5∨kk=6∨kk=7:=by omega
 rcases hc with rfl|rfl|rfl|rfl|rfl|rfl|rfl|rfl<;>simp[stC,Vx]
theorem stC_at {q:Zj}{kk:Nat}(hk:kk≤7):(stC q.st)[kk]?=some (.int .i32 (q.st kk)):=by
 have hc:kk=0∨kk=1∨kk=2∨kk=3∨kk=4∨kk=5∨kk=6∨kk=7:=by omega
 rcases hc with rfl|rfl|rfl|rfl|rfl|rfl|rfl|rfl<;>rfl
def ZbE (w:World)(p:Zj)(ws:List (Int×Int))(e:Ending)(w':World):Prop:=
 Za (fun _=>False) w w'∧((ws.all Yl=true∧e=.returned (.tuple #[.agg (stC (Yd p ws).st),.int .u8 (Yd p ws).keys,.bool true]))∨
  (ws.all Yl=false∧e=.returned (.tuple #[.agg (stC fun _=>0),.int .u8 0,.bool false])))
theorem ZgH {ws:List (Int×Int)}{k:Nat}(h:k<ws.length)(hb:Yl ws[k]=false):ws.all Yl=false:=by
 cases hh:ws.all Yl with
 |false=>rfl
 |true=>have:=List.all_eq_true.mp hh _ (List.getElem_mem h);rw[hb]at this;cases this
theorem ZiL {ws:List (Int×Int)}{k:Nat}(h:k<ws.length)(ha:(ws.take k).all Yl=true)(hb:Yl ws[k]=true):(ws.take (k+1)).all Yl=true:=by
 rw[List.take_succ_eq_append_getElem h,List.all_append,ha];simp[hb]
theorem Zjq (w:World)(p:Zj)(hp0:p.keys=0)(ao:Option Addr)(n cap:Nat)(ws:List (Int×Int))(hw:Wr w ao n ws)(hn:n≤8):
 Calls Tryz.prog 127 #[.agg (stC p.st),.slice ao n cap] w fun e w'=>ZbE w p ws e w':=by
 have HW:=hid hw;have hl:=hw.len;have HP0:=hid hp0;clear hw hp0;unfold stC;go_enter Tryz.func127,Tryz.ntmps127;go_wp2
 go_loopw [7,12] (fun ks i wr=>∃k:Nat,k≤n∧i=.int .i64 k∧ks=.int .u8 (Yd p (ws.take k)).keys∧Hid ((ws.take k).all Yl=true)∧Hid (Za (fun _=>False) w wr∧Blk wr w.heap.size 141 (stC (Yd p (ws.take k)).st)∧Blk wr (w.heap.size+1) 141 (stC fun _=>0))) (fun _ i _=>n-(intOf i).toNat)
 case atStart=>
  refine⟨0,Nat.zero_le _,rfl,?_,rfl,((Za.alloc w _ (fun _=>False)).trans (Za.alloc _ _ (fun _=>False)) (fun _=>id) (fun _ _=>id)),?_,?_⟩
  · show _=Value.int .u8 p.keys;rw[HP0.out]
  · exact(Blk.new w _ _).kept (Za.alloc _ _ (fun _=>False)) id
  · have:=Blk.new (w.alloc (.cells (stC p.st) 141)) 141 (stC fun _=>0);simp only[World.size_alloc]at this;exact this
 case round=>
  obtain⟨k,hkn,rfl,rfl,HA,HB2⟩:=hrel;obtain⟨q,hq⟩:∃q,q=Yd p (ws.take k):=⟨_,rfl⟩;rw[←hq]at HB2⊢;have HQ:=hid hq;clear hq;have hsz:w.heap.size+1<wr.heap.size:=HB2.out.2.2.lt;have hsz0:w.heap.size<wr.heap.size:=by omega
  by_cases hlt:k<n
  · have hlt':k<ws.length:=by omega
    obtain⟨bl,off,hao,z0,z1⟩:=HW.out.cell k hlt';have hbl:bl<w.heap.size:=World.block_lt_of_cell? w _ z0;have c0:=HB2.out.1.keep id z0;have c1:=HB2.out.1.keep id z1;clear z0 z1;obtain⟨x,hx⟩:∃x,ws[k].1=x:=⟨_,rfl⟩;obtain⟨y,hy⟩:∃y,ws[k].2=y:=⟨_,rfl⟩;rw[hx]at c0;rw[hy]at c1;have hbw:bl<wr.heap.size:=by omega
    have hkx:Yl ws[k]=(decide (0≤x)&&decide (x<8)):=by rw[Yl,hx]
    by_cases hx0:x<0
    · have hd:decide (x<0)=true:=by simpa using hx0
      have HBAD:Hid (ws.all Yl=false):=ZgH hlt' (by rw[hkx];simp;omega);have b0:wr.cell? ⟨w.heap.size+1,0,none⟩=some (.int .i32 0):=HB2.out.2.2.cell 0;have g0:=HB2.out.2.2.free 0;have b1:wr.cell? ⟨w.heap.size+1,1,none⟩=some (.int .i32 0):=HB2.out.2.2.cell 1;have g1:=HB2.out.2.2.free 1;have b2:wr.cell? ⟨w.heap.size+1,2,none⟩=some (.int .i32 0):=HB2.out.2.2.cell 2;have g2:=HB2.out.2.2.free 2;have b3:wr.cell? ⟨w.heap.size+1,3,none⟩=some (.int .i32 0):=HB2.out.2.2.cell 3;have g3:=HB2.out.2.2.free 3;have b4:wr.cell? ⟨w.heap.size+1,4,none⟩=some (.int .i32 0):=HB2.out.2.2.cell 4;have g4:=HB2.out.2.2.free 4;have b5:wr.cell? ⟨w.heap.size+1,5,none⟩=some (.int .i32 0):=HB2.out.2.2.cell 5;have g5:=HB2.out.2.2.free 5;have b6:wr.cell? ⟨w.heap.size+1,6,none⟩=some (.int .i32 0):=HB2.out.2.2.cell 6;have g6:=HB2.out.2.2.free 6;have b7:wr.cell? ⟨w.heap.size+1,7,none⟩=some (.int .i32 0):=HB2.out.2.2.cell 7;have g7:=HB2.out.2.2.free 7;subst hao;clear hkx hx hy;go_wp2;refine bodyPost_ret (v:=.tuple #[.agg (stC fun _=>0),.int .u8 0,.bool false]) (by simp[results,Tryz.results127,go_sem,stC, *]) rfl ⟨?_,.inr ⟨HBAD.out,rfl⟩⟩;exact((((((((HB2.out.1.setNew _ 0 _ (Nat.le_succ _)).setNew _ 1 _ (Nat.le_succ _)).setNew _ 2 _ (Nat.le_succ _)).setNew _ 3 _ (Nat.le_succ _)).setNew _ 4 _ (Nat.le_succ _)).setNew _ 5 _ (Nat.le_succ _)).setNew _ 6 _ (Nat.le_succ _)).setNew _ 7 _ (Nat.le_succ _)).allocNew _
    · by_cases hx8:8≤x
      · have hd:decide (x<0)=false:=by simpa using hx0
        have HBAD:Hid (ws.all Yl=false):=ZgH hlt' (by rw[hkx];simp;omega);have b0:wr.cell? ⟨w.heap.size+1,0,none⟩=some (.int .i32 0):=HB2.out.2.2.cell 0;have g0:=HB2.out.2.2.free 0;have b1:wr.cell? ⟨w.heap.size+1,1,none⟩=some (.int .i32 0):=HB2.out.2.2.cell 1;have g1:=HB2.out.2.2.free 1;have b2:wr.cell? ⟨w.heap.size+1,2,none⟩=some (.int .i32 0):=HB2.out.2.2.cell 2;have g2:=HB2.out.2.2.free 2;have b3:wr.cell? ⟨w.heap.size+1,3,none⟩=some (.int .i32 0):=HB2.out.2.2.cell 3;have g3:=HB2.out.2.2.free 3;have b4:wr.cell? ⟨w.heap.size+1,4,none⟩=some (.int .i32 0):=HB2.out.2.2.cell 4;have g4:=HB2.out.2.2.free 4;have b5:wr.cell? ⟨w.heap.size+1,5,none⟩=some (.int .i32 0):=HB2.out.2.2.cell 5;have g5:=HB2.out.2.2.free 5;have b6:wr.cell? ⟨w.heap.size+1,6,none⟩=some (.int .i32 0):=HB2.out.2.2.cell 6;have g6:=HB2.out.2.2.free 6;have b7:wr.cell? ⟨w.heap.size+1,7,none⟩=some (.int .i32 0):=HB2.out.2.2.cell 7;have g7:=HB2.out.2.2.free 7;subst hao;clear hkx hx hy;go_wp2;refine bodyPost_ret (v:=.tuple #[.agg (stC fun _=>0),.int .u8 0,.bool false]) (by simp[results,Tryz.results127,go_sem,stC, *]) rfl ⟨?_,.inr ⟨HBAD.out,rfl⟩⟩;exact((((((((HB2.out.1.setNew _ 0 _ (Nat.le_succ _)).setNew _ 1 _ (Nat.le_succ _)).setNew _ 2 _ (Nat.le_succ _)).setNew _ 3 _ (Nat.le_succ _)).setNew _ 4 _ (Nat.le_succ _)).setNew _ 5 _ (Nat.le_succ _)).setNew _ 6 _ (Nat.le_succ _)).setNew _ 7 _ (Nat.le_succ _)).allocNew _
      · have hd:decide (x<0)=false:=by simpa using hx0
        obtain⟨kk,rfl⟩:∃kk:Nat,x=kk:=⟨x.toNat,by omega⟩;have HALL:Hid ((ws.take (k+1)).all Yl=true):=ZiL hlt' HA.out (by rw[hkx];simp;omega);have hk7:kk≤7:=by omega
        have HE:Hid (Yd p (ws.take (k+1))=Vx q ((kk:Int),y)):=by
         show _=_;rw[ZaH _ ws k hlt',←HQ.out,←hx,←hy]
        have d0:=HB2.out.2.1.cell kk;rw[stC_at hk7]at d0;have f0:=HB2.out.2.1.free kk;subst hao;clear hkx hx hy;go_wp2
        go_roundw
        case rel=>
         refine⟨k+1,by omega,by go_num,?_,HALL.out,?_⟩
         · rw[HE.out];rfl
         · rw[HE.out,←ZjH hk7];refine⟨(HB2.out.1.setNew _ _ _ (Nat.le_refl _)).allocNew _,(HB2.out.2.1.set kk _).kept (Za.alloc _ _ (fun _=>False)) id,?_⟩;exact(HB2.out.2.2.kept (Za.setCell wr ⟨w.heap.size,kk,none⟩ (.int .i32 y)) (by simp)).kept (Za.alloc _ _ (fun _=>False)) id
        case measure=>simp[intOf];omega
  · have hk':k=ws.length:=by omega
    subst hk';rw[List.take_length]at HQ HA;have b0:wr.cell? ⟨w.heap.size+1,0,none⟩=some (.int .i32 0):=HB2.out.2.2.cell 0;have g0:=HB2.out.2.2.free 0;have d0:wr.cell? ⟨w.heap.size,0,none⟩=some (.int .i32 (q.st 0)):=HB2.out.2.1.cell 0;have b1:wr.cell? ⟨w.heap.size+1,1,none⟩=some (.int .i32 0):=HB2.out.2.2.cell 1;have g1:=HB2.out.2.2.free 1;have d1:wr.cell? ⟨w.heap.size,1,none⟩=some (.int .i32 (q.st 1)):=HB2.out.2.1.cell 1;have b2:wr.cell? ⟨w.heap.size+1,2,none⟩=some (.int .i32 0):=HB2.out.2.2.cell 2;have g2:=HB2.out.2.2.free 2;have d2:wr.cell? ⟨w.heap.size,2,none⟩=some (.int .i32 (q.st 2)):=HB2.out.2.1.cell 2;have b3:wr.cell? ⟨w.heap.size+1,3,none⟩=some (.int .i32 0):=HB2.out.2.2.cell 3;have g3:=HB2.out.2.2.free 3;have d3:wr.cell? ⟨w.heap.size,3,none⟩=some (.int .i32 (q.st 3)):=HB2.out.2.1.cell 3;have b4:wr.cell? ⟨w.heap.size+1,4,none⟩=some (.int .i32 0):=HB2.out.2.2.cell 4;have g4:=HB2.out.2.2.free 4;have d4:wr.cell? ⟨w.heap.size,4,none⟩=some (.int .i32 (q.st 4)):=HB2.out.2.1.cell 4;have b5:wr.cell? ⟨w.heap.size+1,5,none⟩=some (.int .i32 0):=HB2.out.2.2.cell 5;have g5:=HB2.out.2.2.free 5;have d5:wr.cell? ⟨w.heap.size,5,none⟩=some (.int .i32 (q.st 5)):=HB2.out.2.1.cell 5;have b6:wr.cell? ⟨w.heap.size+1,6,none⟩=some (.int .i32 0):=HB2.out.2.2.cell 6;have g6:=HB2.out.2.2.free 6;have d6:wr.cell? ⟨w.heap.size,6,none⟩=some (.int .i32 (q.st 6)):=HB2.out.2.1.cell 6;have b7:wr.cell? ⟨w.heap.size+1,7,none⟩=some (.int .i32 0):=HB2.out.2.2.cell 7;have g7:=HB2.out.2.2.free 7;have d7:wr.cell? ⟨w.heap.size,7,none⟩=some (.int .i32 (q.st 7)):=HB2.out.2.1.cell 7;go_wp2;refine bodyPost_ret (v:=.tuple #[.agg (stC q.st),.int .u8 q.keys,.bool true]) (by simp[results,Tryz.results127,go_sem,stC, *]) rfl ⟨?_,.inl ⟨HA.out,by rw[HQ.out]⟩⟩;exact((((((((HB2.out.1.setNew _ 0 _ (Nat.le_succ _)).setNew _ 1 _ (Nat.le_succ _)).setNew _ 2 _ (Nat.le_succ _)).setNew _ 3 _ (Nat.le_succ _)).setNew _ 4 _ (Nat.le_succ _)).setNew _ 5 _ (Nat.le_succ _)).setNew _ 6 _ (Nat.le_succ _)).setNew _ 7 _ (Nat.le_succ _))
def Zdb (w:World)(l:List Zj)(K:Int)(t:Nat)(e:Ending)(w':World):Prop:=
 e=.returned (.tuple #[.int .u64 (fromN (zeroP::l) K t:Int),.int .u64 (((Yg (zeroP::l) K (l.length-t)).getD 0:Nat):Int)])∧Za (fun _=>False) w w'
theorem dright (w:World)(b:Nat)(D:Ze)(K:Int)(t:Nat)(h:Dev w b D)(hf:D.Fit)(ht:t≤D.past.length):
 Calls Tryz.prog 139 #[.pointer (some ⟨b,0,none⟩),.int .u8 K,.int .u64 t] w fun e w'=>Zdb w D.past K t e w':=by
 have hm:=hf.pmax;obtain⟨ao,cap,hv,hno⟩:=h.past.form;have c1:=h.c1;rw[hv]at c1;have HCELL:Hid (∀k (hk:k<D.past.length),∃g,ao=some ⟨g,0,none⟩∧∀f,f<10→w.cell? ⟨g,k*10+f,none⟩=(Zx D.past[k])[f]?):=by
  intro k hk;obtain⟨g,cap',hv',ho,_⟩:=h.past.block (by omega);rw[hv]at hv';injection hv' with e1 _ _;refine⟨g,e1,fun f hf=> ?_⟩;have e:=Vk D.past k hk f hf;obtain⟨u,hu⟩:∃u,(Zx D.past[k])[f]?=some u:=⟨(Zx D.past[k])[f]'(by simpa[Zx]using hf),List.getElem?_eq_getElem _⟩;rw[hu];exact h.past.cell ho _ u (e.trans hu)
 obtain⟨L,hL⟩:∃L,L=zeroP::D.past:=⟨_,rfl⟩;have hll:L.length=D.past.length+1:=by rw[hL];rfl
 have HT:Hid (∀k (hk:k<D.past.length),ZU L K (k+1)=(bits .and .u8 D.past[k].keys K !=0)):=fun k hk=>Xb K (by rw[hL,List.getElem?_cons_succ];exact List.getElem?_eq_getElem hk);have HPO:Hid (∀(e:Ending)(w':World),e=.returned (.tuple #[.int .u64 (fromN L K t:Int),.int .u64 (((Yg L K (D.past.length-t)).getD 0:Nat):Int)])→Za (fun _=>False) w w'→Zdb w D.past K t e w'):=fun e w' h1 h2=>⟨by rw[←hL];exact h1,h2⟩;clear h hf hv hno hL;go_enter Tryz.func139,Tryz.ntmps139;go_wp2
 go_loopw [8,17] (fun fr i wr=>∃k:Nat,k≤D.past.length∧i=.int .i64 k∧fr=.int .u64 (fromN L K (min k t):Int)∧Hid (∀s,t<s→s≤k→ZU L K s=false)∧Hid (Za (fun _=>False) w wr)) (fun _ i _=>D.past.length-(intOf i).toNat)
 case atStart=>exact⟨0,Nat.zero_le _,rfl,by simp[fromN],fun s h1 h2=>by omega,Za.refl _ _⟩
 case round=>
  obtain⟨k,hk,rfl,rfl,HB,HK⟩:=hrel;have hfl:=ZbW L K (min k t);by_cases hlt:k<D.past.length
  · obtain⟨g,hg,hcell⟩:=HCELL.out k hlt;have HTK:=HT.out k hlt;obtain⟨p,hp⟩:∃p,p=D.past[k]:=⟨_,rfl⟩;rw[←hp]at hcell HTK;have s0:wr.cell? ⟨g,k*10,none⟩=some (.int .i32 (p.st 0)):=HK.out.keep id (hcell 0 (by omega));have s1:wr.cell? ⟨g,k*10+1,none⟩=some (.int .i32 (p.st 1)):=HK.out.keep id (hcell 1 (by omega));have s2:wr.cell? ⟨g,k*10+2,none⟩=some (.int .i32 (p.st 2)):=HK.out.keep id (hcell 2 (by omega));have s3:wr.cell? ⟨g,k*10+3,none⟩=some (.int .i32 (p.st 3)):=HK.out.keep id (hcell 3 (by omega));have s4:wr.cell? ⟨g,k*10+4,none⟩=some (.int .i32 (p.st 4)):=HK.out.keep id (hcell 4 (by omega));have s5:wr.cell? ⟨g,k*10+5,none⟩=some (.int .i32 (p.st 5)):=HK.out.keep id (hcell 5 (by omega));have s6:wr.cell? ⟨g,k*10+6,none⟩=some (.int .i32 (p.st 6)):=HK.out.keep id (hcell 6 (by omega));have s7:wr.cell? ⟨g,k*10+7,none⟩=some (.int .i32 (p.st 7)):=HK.out.keep id (hcell 7 (by omega));have s8:wr.cell? ⟨g,k*10+8,none⟩=some (.int .u8 p.keys):=HK.out.keep id (hcell 8 (by omega));have s9:wr.cell? ⟨g,k*10+9,none⟩=some (.int .i64 p.tick):=HK.out.keep id (hcell 9 (by omega));clear hcell hp c1;subst hg;obtain⟨fr,hfr⟩:∃fr,fr=fromN L K (min k t):=⟨_,rfl⟩;rw[←hfr]at hfl⊢;have HFR:=hid hfr;clear hfr;cases hbz:(bits .and .u8 p.keys K==0)with
    |true=>
     have HTB:Hid (ZU L K (k+1)=false):=by show _=_;rw[HTK];simp[bne,hbz]
     have HNX:Hid (fromN L K (min (k+1) t)=fr):=by
      show _=_;by_cases hkt:k+1≤t
      · rw[Zcr hkt,HTB.out,HFR.out];rfl
      · rw[Zgo (by omega),HFR.out]
     clear HTK;go_wp2
     go_roundw
     case rel=>
      refine⟨k+1,by omega,by go_num,by rw[HNX.out],fun s h1 h2=> ?_,HK.out.allocNew _⟩;by_cases e:s=k+1
      · subst e;exact HTB.out
      · exact HB.out s h1 (by omega)
     case measure=>simp[intOf];omega
    |false=>
     have HTB:Hid (ZU L K (k+1)=true):=by show _=_;rw[HTK];simp[bne,hbz]
     clear HTK;by_cases hkt:k+1≤t
     · have HNX:Hid (fromN L K (min (k+1) t)=k+1):=by show _=_;rw[Zcr hkt,HTB.out];rfl
       go_wp2
       go_roundw
       case rel=>exact⟨k+1,by omega,by go_num,by rw[HNX.out];go_num,fun s h1 h2=>by omega,HK.out.allocNew _⟩
       case measure=>simp[intOf];omega
     · have HNX:Hid (fromN L K t=fr∧Yg L K (D.past.length-t)=some (k+1)):=by
        refine⟨by rw[HFR.out];congr 1;omega,?_⟩;exact ZcY _ (by omega) (by omega) (by omega) HTB.out fun r h1 h2=>HB.out r (by omega) (by omega)
       go_wp2;go_ret2;refine HPO.out _ _ ?_ (HK.out.allocNew _);rw[HNX.out.1,HNX.out.2];rfl
  · have hkk:k=D.past.length:=by omega
    subst hkk;have HNX:Hid (fromN L K (min D.past.length t)=fromN L K t∧Yg L K (D.past.length-t)=none):=by
     refine⟨by congr 1;omega,Zds _ (by omega) fun s h1 h2=>HB.out s (by omega) (by omega)⟩
    go_wp2;go_ret2;refine HPO.out _ _ ?_ HK.out;rw[HNX.out.2,←HNX.out.1];rfl
def zeroN :Zi:=⟨false,0,0,.slice none 0 0,.slice none 0 0,.slice none 0 0,.slice none 0 0,[],[],[],[]⟩
theorem Zgv (w:World)(T size:Nat):Yw.Is w ⟨T,size,.slice none 0 0,0,[]⟩:=Row.nil w T size
theorem Ref.putZero {w w':World}{b k:Nat}{R:Zd}{nd:Zi}(h:Ref w b R)(hnd:R.nodes[k]?=some nd)(kn:Za (fun j=>R.vn.ownBlock=some j) w w')
 (hn:Row w' 146 7 R.vn (R.nodes.set k zeroN).length ((R.nodes.set k zeroN).flatMap nodeC)):Ref w' b (R.putN k zeroN):=by
 obtain⟨hk,hnd'⟩:=List.getElem?_eq_some_iff.mp hnd;have nown:∀(r:Yw)(x:Nat),(Value.slice none 0 0).ownBlock=some x→r.v.ownBlock=some x∨w.heap.size≤x:=fun _ x hx=>by simp[Value.ownBlock]at hx
 have g0:R.rows[(k*4+0)+5]?=_:=Vt hnd 0 (by omega);have g1:R.rows[(k*4+1)+5]?=_:=Vt hnd 1 (by omega);have g2:R.rows[(k*4+2)+5]?=_:=Vt hnd 2 (by omega);have g3:R.rows[(k*4+3)+5]?=_:=Vt hnd 3 (by omega);have a0:=h.all.put _ _ ⟨53,1,.slice none 0 0,0,[]⟩ g0 (Za.refl _ w) (Zgv w _ _) (nown _);have a1:=a0.put ((k*4+1)+5) _ ⟨53,1,.slice none 0 0,0,[]⟩ (by rw[List.getElem?_set_ne (by omega)];exact g1) (Za.refl _ w) (Zgv w _ _) (nown _);have a2:=a1.put ((k*4+2)+5) _ ⟨55,6,.slice none 0 0,0,[]⟩ (by rw[List.getElem?_set_ne (by omega),List.getElem?_set_ne (by omega)];exact g2) (Za.refl _ w) (Zgv w _ _) (nown _);have a3:=a2.put ((k*4+3)+5) _ ⟨3,1,.slice none 0 0,0,[]⟩ (by rw[List.getElem?_set_ne (by omega),List.getElem?_set_ne (by omega),List.getElem?_set_ne (by omega)];exact g3) (Za.refl _ w) (Zgv w _ _) (nown _);have a4:=a3.put 2 R.nodeD (R.putN k zeroN).nodeD (by rw[List.getElem?_set_ne (by omega),List.getElem?_set_ne (by omega),List.getElem?_set_ne (by omega),List.getElem?_set_ne (by omega)];rfl) kn hn (fun x hx=>.inl hx);have s0:=Zt Z3 4 (fun _=>rfl) R.nodes k hk 0 (by omega) ⟨53,1,.slice none 0 0,0,[]⟩ {nd with fl:=.slice none 0 0,fls:=[]} (by rw[hnd'];rfl);have s1:=Zt Z3 4 (fun _=>rfl) (R.nodes.set k {nd with fl:=.slice none 0 0,fls:=[]}) k (by simpa using hk) 1 (by omega) ⟨53,1,.slice none 0 0,0,[]⟩ {nd with fl:=.slice none 0 0,fls:=[],wt:=.slice none 0 0,wts:=[]} (by rw[List.getElem_set_self];rfl);have s2:=Zt Z3 4 (fun _=>rfl) (R.nodes.set k {nd with fl:=.slice none 0 0,fls:=[],wt:=.slice none 0 0,wts:=[]}) k (by simpa using hk) 2 (by omega) ⟨55,6,.slice none 0 0,0,[]⟩ {nd with fl:=.slice none 0 0,fls:=[],wt:=.slice none 0 0,wts:=[],en:=.slice none 0 0,ents:=[]} (by rw[List.getElem_set_self];rfl);have s3:=Zt Z3 4 (fun _=>rfl) (R.nodes.set k {nd with fl:=.slice none 0 0,fls:=[],wt:=.slice none 0 0,wts:=[],en:=.slice none 0 0,ents:=[]}) k (by simpa using hk) 3 (by omega) ⟨3,1,.slice none 0 0,0,[]⟩ zeroN (by rw[List.getElem_set_self];rfl);rw[List.set_set]at s1 s2 s3;have er:(R.putN k zeroN).rows=((((R.rows.set ((k*4+0)+5) ⟨53,1,.slice none 0 0,0,[]⟩).set ((k*4+1)+5) ⟨53,1,.slice none 0 0,0,[]⟩).set ((k*4+2)+5) ⟨55,6,.slice none 0 0,0,[]⟩).set ((k*4+3)+5) ⟨3,1,.slice none 0 0,0,[]⟩).set 2 (R.putN k zeroN).nodeD:=by
  show _::_::_::_::_::(R.nodes.set k zeroN).flatMap Z3=_::_::_::_::_::((((R.nodes.flatMap Z3).set (k*4+0) _).set (k*4+1) _).set (k*4+2) _).set (k*4+3) _;rw[s0,s1,s2,s3];rfl
 exact⟨h.blk.kept kn fun he=>h.nodes.ne_block h.blk (by decide) he,by rw[er];exact a4⟩
theorem ZeY {l:List Zi}{k:Nat}(hk:k<l.length)(nd:Zi):
 (((((((l.flatMap nodeC).set (k*7) (.bool nd.up)).set (k*7+1) (.int .u64 (nd.since:Int))).set (k*7+2) (.int .u64 (nd.horizon:Int))).set (k*7+3) nd.fl).set (k*7+4) nd.wt).set (k*7+5) nd.en).set (k*7+6) nd.nm=(l.set k nd).flatMap nodeC:=by
 obtain⟨y,hy⟩:∃y,y=l[k]:=⟨_,rfl⟩;have s0:=Zt nodeC 7 (fun _=>rfl) l k hk 0 (by omega) (.bool nd.up) {y with up:=nd.up} (by rw[←hy];rfl);have s1:=Zt nodeC 7 (fun _=>rfl) (l.set k {y with up:=nd.up}) k (by simpa using hk) 1 (by omega) (.int .u64 (nd.since:Int)) {y with up:=nd.up,since:=nd.since} (by rw[List.getElem_set_self];rfl);have s2:=Zt nodeC 7 (fun _=>rfl) (l.set k {y with up:=nd.up,since:=nd.since}) k (by simpa using hk) 2 (by omega) (.int .u64 (nd.horizon:Int)) {y with up:=nd.up,since:=nd.since,horizon:=nd.horizon} (by rw[List.getElem_set_self];rfl);have s3:=Zt nodeC 7 (fun _=>rfl) (l.set k {y with up:=nd.up,since:=nd.since,horizon:=nd.horizon}) k (by simpa using hk) 3 (by omega) nd.fl {y with up:=nd.up,since:=nd.since,horizon:=nd.horizon,fl:=nd.fl} (by rw[List.getElem_set_self];rfl);have s4:=Zt nodeC 7 (fun _=>rfl) (l.set k {y with up:=nd.up,since:=nd.since,horizon:=nd.horizon,fl:=nd.fl}) k (by simpa using hk) 4 (by omega) nd.wt {y with up:=nd.up,since:=nd.since,horizon:=nd.horizon,fl:=nd.fl,wt:=nd.wt} (by rw[List.getElem_set_self];rfl);have s5:=Zt nodeC 7 (fun _=>rfl) (l.set k {y with up:=nd.up,since:=nd.since,horizon:=nd.horizon,fl:=nd.fl,wt:=nd.wt}) k (by simpa using hk) 5 (by omega) nd.en {y with up:=nd.up,since:=nd.since,horizon:=nd.horizon,fl:=nd.fl,wt:=nd.wt,en:=nd.en} (by rw[List.getElem_set_self];rfl);have s6:=Zt nodeC 7 (fun _=>rfl) (l.set k {y with up:=nd.up,since:=nd.since,horizon:=nd.horizon,fl:=nd.fl,wt:=nd.wt,en:=nd.en}) k (by simpa using hk) 6 (by omega) nd.nm nd (by rw[List.getElem_set_self];rfl);rw[Nat.add_zero]at s0;rw[List.set_set]at s1 s2 s3 s4 s5 s6;rw[s0,s1,s2,s3,s4,s5,s6]
theorem rfall (w:World)(b:Nat)(R:Zd)(k:Nat)(h:Ref w b R)(hm:R.nodes.length≤3)(hk:k<R.nodes.length):
 Calls Tryz.prog 123 #[.pointer (some ⟨b,0,none⟩),.int .i64 k] w fun e w'=>e=.returned (.tuple #[])∧Ref w' b (R.putN k zeroN)∧Za (fun j=>R.vn.ownBlock=some j) w w':=by
 obtain⟨g,cap,hv,ho,hgl⟩:=h.nodes.block (by omega);have c3:=h.c3;rw[hv]at c3;have a0:=h.nodes.cell ho (k*7) _ (by have:=Zy R.nodes k hk 0 (by omega);rw[Nat.add_zero]at this;rw[this];rfl);have a1:=h.nodes.cell ho (k*7+1) _ (by rw[Zy R.nodes k hk 1 (by omega)];rfl);have a2:=h.nodes.cell ho (k*7+2) _ (by rw[Zy R.nodes k hk 2 (by omega)];rfl);have a3:=h.nodes.cell ho (k*7+3) _ (by rw[Zy R.nodes k hk 3 (by omega)];rfl);have a4:=h.nodes.cell ho (k*7+4) _ (by rw[Zy R.nodes k hk 4 (by omega)];rfl);have a5:=h.nodes.cell ho (k*7+5) _ (by rw[Zy R.nodes k hk 5 (by omega)];rfl);have a6:=h.nodes.cell ho (k*7+6) _ (by rw[Zy R.nodes k hk 6 (by omega)];rfl);have f0:=h.nodes.free ho (k*7);have f1:=h.nodes.free ho (k*7+1);have f2:=h.nodes.free ho (k*7+2);have f3:=h.nodes.free ho (k*7+3);have f4:=h.nodes.free ho (k*7+4);have f5:=h.nodes.free ho (k*7+5);have f6:=h.nodes.free ho (k*7+6);have r0:=(((((((h.nodes.set ho (k*7) (.bool false)).set ho (k*7+1) (.int .u64 0)).set ho (k*7+2) (.int .u64 0)).set ho (k*7+3) (.slice none 0 0)).set ho (k*7+4) (.slice none 0 0)).set ho (k*7+5) (.slice none 0 0)).set ho (k*7+6) (.slice none 0 0));have e0:=ZeY hk zeroN;have k0:Za (fun j=>R.vn.ownBlock=some j) w (((((((w.setCell ⟨g,k*7,none⟩ (.bool false)).setCell ⟨g,k*7+1,none⟩ (.int .u64 0)).setCell ⟨g,k*7+2,none⟩ (.int .u64 0)).setCell ⟨g,k*7+3,none⟩ (.slice none 0 0)).setCell ⟨g,k*7+4,none⟩ (.slice none 0 0)).setCell ⟨g,k*7+5,none⟩ (.slice none 0 0)).setCell ⟨g,k*7+6,none⟩ (.slice none 0 0)):=by
  have one:∀(u:World)(o:Nat)(v:Value),Za (fun j=>R.vn.ownBlock=some j) u (u.setCell ⟨g,o,none⟩ v):=fun u o v=>(Za.setCell u _ _).mono fun j hj=>by rw[ho,hj]
  have tr:∀{a b c:World},Za (fun j=>R.vn.ownBlock=some j) a b→Za (fun j=>R.vn.ownBlock=some j) b c→Za (fun j=>R.vn.ownBlock=some j) a c:=fun p q=>p.trans q (fun _=>id) (fun _ _=>id);exact tr (tr (tr (tr (tr (tr (one _ _ _) (one _ _ _)) (one _ _ _)) (one _ _ _)) (one _ _ _)) (one _ _ _)) (one _ _ _)
 have HZ:=h.putZero (List.getElem?_eq_getElem hk) k0 (by rw[List.length_set,←e0];exact r0);have HZ':Hid (Ref (((((((w.setCell ⟨g,k*7,none⟩ (.bool false)).setCell ⟨g,k*7+1,none⟩ (.int .u64 0)).setCell ⟨g,k*7+2,none⟩ (.int .u64 0)).setCell ⟨g,k*7+3,none⟩ (.slice none 0 0)).setCell ⟨g,k*7+4,none⟩ (.slice none 0 0)).setCell ⟨g,k*7+5,none⟩ (.slice none 0 0)).setCell ⟨g,k*7+6,none⟩ (.slice none 0 0)) b (R.putN k zeroN)):=HZ;have HK:=hid k0;clear r0 e0 k0 HZ h hv ho;go_enter Tryz.func123,Tryz.ntmps123;go_wp2
 go_end0
 exact⟨rfl,HZ'.out,HK.out⟩
theorem Tryz.infoStamp :(Tryz.prog.info? 53).map (fun i=>(i.zero,i.size,i.bytes))=some (some (.int .u64 0),1,8):=by kernel_rfl
def Xv (t:Nat)(l:List Nat):List Nat:=l.filter fun f=>decide (t<f+100)
def V4 (nd:Zi)(t:Nat):Bool:=nd.up&&decide (nd.horizon+40<t)
def leftN (nd:Zi)(t:Nat):Zi:=if V4 nd t then zeroN else {nd with fls:=Xv t nd.fls}
def Xi (nd:Zi)(t:Nat)(v:Value):Zi:={leftN nd t with fl:=v,fls:=if(leftN nd t).fls.length<12 then(leftN nd t).fls++[t]else(leftN nd t).fls}
def X8 (w:World)(b:Nat)(R:Zd)(k:Nat)(nd:Zi)(t:Nat)(e:Ending)(w':World):Prop:=
 e=.returned (.tuple #[])∧∃v,Ref w' b (R.putN k (Xi nd t v))∧Za (R.fp b) w w'∧(∀x,(R.putN k (Xi nd t v)).fp b x→R.fp b x∨w.heap.size≤x)
theorem Zcw (t:Nat)(l:List Nat)(j:Nat)(h:j<l.length):Xv t (l.take (j+1))=if t<l[j]+100 then Xv t (l.take j)++[l[j]]else Xv t (l.take j):=by
 rw[List.take_succ_eq_append_getElem h,Xv,List.filter_append];by_cases hh:t<l[j]+100<;>simp[Xv,hh]
theorem ZaT (t:Nat)(l:List Nat)(j:Nat):(Xv t (l.take j)).length≤l.length:=Nat.le_trans (List.length_filter_le _ _) (by simp;omega)
theorem Zc1 (l:List Nat)(t:Nat):ZL (l++[t])=ZL l++[.int .u64 (t:Int)]:=by simp[ZL]
theorem XC (a:Int):∀u∈[Value.int .u64 a],u.oneCell'=true:=by intro u hu;simp at hu;subst hu;rfl
structure ZeT (w wr:World)(v:Value)(l:List Nat):Prop where
 row:Row wr 53 1 v l.length (ZL l)
 own:∀x,v.ownBlock=some x→w.heap.size≤x
 kept:Za (fun _=>False) w wr
theorem ZeT.push {w wr w1:World}{v v':Value}{l:List Nat}{t:Nat}{o:Obj}(h:ZeT w wr v l)(hA:Zc (wr.alloc o) w1 53 1 v v' l.length 1 (ZL l) [.int .u64 (t:Int)]):ZeT w w1 v' (l++[t]):=by
 refine⟨by rw[Zc1];simpa using hA.row,fun x hx=> ?_,(h.kept.trans (Za.alloc _ _ (fun _=>False)) (fun _=>id) (fun _ _=>id)).trans hA.kept (fun _=>id) (fun j hj hv=> ?_)⟩
 · rcases hA.own with e|e
   · exact h.own x (by rw[←e];exact hx)
   · have h1:=e x hx;have h2:=h.kept.size;simp at h1;omega
 · have:=h.own j hv;omega
theorem ZaC (R:Zd)(k:Nat)(a c:Zi):(R.putN k a).putN k c=R.putN k c:=by simp[Zd.putN,List.set_set]
theorem ZaK {R:Zd}{k:Nat}{nd:Zi}(hk:k<R.nodes.length):(R.putN k nd).nodes[k]?=some nd:=by simp[Zd.putN,hk]
theorem Ref.setFl {w wr:World}{b:Nat}{R:Zd}(h:Ref w b R){k g:Nat}{nd:Zi}(hnd:R.nodes[k]?=some nd)(ho:R.vn.ownBlock=some g)(v:Value)(l:List Nat)(hk:Za (fun _=>False) w wr)(hr:Row wr 53 1 v l.length (ZL l))
 (hnew:∀x,v.ownBlock=some x→w.heap.size≤x):Ref (wr.setCell ⟨g,k*7+3,none⟩ v) b (R.putN k {nd with fl:=v,fls:=l}):=by
 obtain⟨hkl,hnd'⟩:=List.getElem?_eq_some_iff.mp hnd;refine(h.putF (f:=0) (r':=⟨53,1,v,l.length,ZL l⟩) hnd (by omega) rfl rfl (hk.mono fun _=>False.elim) hr (fun x hx=>.inr (hnew x hx)) ((Za.setCell wr ⟨g,k*7+3,none⟩ v).mono fun j hj=>by rw[ho,hj]) ?_).1;rw[List.length_set,←Zt nodeC 7 (fun _=>rfl) R.nodes k hkl 3 (by omega) v {nd with fl:=v,fls:=l} (by rw[hnd'];rfl)];exact(h.nodes.kept hk (fun _ _=>id)).set ho _ _
theorem Ref.pushFl {w w2:World}{b:Nat}{R:Zd}(h:Ref w b R){k g t:Nat}{nd:Zi}(hnd:R.nodes[k]?=some nd)(ho:R.vn.ownBlock=some g){v2:Value}
 (hA:Zc w w2 53 1 nd.fl v2 nd.fls.length 1 (ZL nd.fls) [.int .u64 (t:Int)]):
 Ref (w2.setCell ⟨g,k*7+3,none⟩ v2) b (R.putN k {nd with fl:=v2,fls:=nd.fls++[t]})∧Za (R.fp b) w (w2.setCell ⟨g,k*7+3,none⟩ v2)∧
  (∀x,(R.putN k {nd with fl:=v2,fls:=nd.fls++[t]}).fp b x→R.fp b x∨w.heap.size≤x):=by
 obtain⟨hkl,hnd'⟩:=List.getElem?_eq_some_iff.mp hnd;have rf:=h.fls nd (List.mem_of_getElem? hnd);refine h.putF (f:=0) (r':=⟨53,1,v2,(nd.fls++[t]).length,ZL (nd.fls++[t])⟩) hnd (by omega) rfl rfl hA.kept ?_ (fun x hx=>hA.own.imp (fun e=>by show nd.fl.ownBlock=some x;rw[←e];exact hx) (fun e=>e x hx)) ((Za.setCell w2 ⟨g,k*7+3,none⟩ v2).mono fun j hj=>by rw[ho,hj]) ?_
 · show Row _ _ 1 v2 (nd.fls++[t]).length (ZL (nd.fls++[t]));rw[Zc1];simpa using hA.row
 · rw[List.length_set,←Zt nodeC 7 (fun _=>rfl) R.nodes k hkl 3 (by omega) v2 {nd with fl:=v2,fls:=nd.fls++[t]} (by rw[hnd'];rfl)];exact(h.nodes.kept hA.kept fun j hj he=>rf.ne_row h.nodes (by decide) j he hj).set ho _ _
theorem Zjt {R:Zd}{b k:Nat}{nd y:Zi}{x:Nat}(hnd:R.nodes[k]?=some nd)(hy:Z3 y=(Z3 nd).set 0 ⟨53,1,y.fl,y.fls.length,ZL y.fls⟩)(h:(R.putN k y).fp b x):R.fp b x∨y.fl.ownBlock=some x:=by
 rcases h with h|⟨a,ha,hx⟩
 · exact .inl (.inl h)
 · rw[Zem hnd 0 (by omega) _ hy]at ha;rcases List.mem_or_eq_of_mem_set ha with ha|rfl
   · rcases List.mem_or_eq_of_mem_set ha with ha|rfl
     · exact .inl (.inr ⟨a,ha,hx⟩)
     · exact .inr hx
   · exact .inl (Ue hx)
theorem ZgR {R:Zd}{b k x:Nat}(h:(R.putN k zeroN).fp b x):R.fp b x:=by
 rcases h with h|⟨a,ha,hx⟩
 · exact .inl h
 · simp only[Zd.rows,List.mem_cons,List.mem_flatMap]at ha;rcases ha with rfl|rfl|rfl|rfl|rfl|⟨nd,hn,hr⟩
   · exact ZiY hx
   · exact Zbr hx
   · exact Ue hx
   · exact .inr ⟨_,List.mem_of_getElem? (i:=3) rfl,hx⟩
   · exact .inr ⟨_,List.mem_of_getElem? (i:=4) rfl,hx⟩
   · rcases List.mem_or_eq_of_mem_set hn with hn|rfl
     · exact .inr ⟨a,YG hn hr,hx⟩
     · simp only[Z3,zeroN,List.mem_cons,List.not_mem_nil,or_false]at hr;rcases hr with rfl|rfl|rfl|rfl<;>simp[Value.ownBlock]at hx
theorem Zen {w w2 w':World}{b k g t:Nat}{R:Zd}{nd:Zi}{v':Value}(hR:Ref w2 b (R.putN k zeroN))(hK:Za (R.fp b) w w2)(hfe:V4 nd t=true)(hk:k<R.nodes.length)(ho:R.vn.ownBlock=some g)
 (hA:Zc w2 w' 53 1 (.slice none 0 0) v' 0 1 [] [.int .u64 (t:Int)]):X8 w b R k nd t (.returned (.tuple #[])) (w'.setCell ⟨g,k*7+3,none⟩ v'):=by
 obtain⟨z1,z2,z3⟩:=hR.pushFl (t:=t) (ZaK hk) ho hA;rw[ZaC]at z1 z3;have e:({zeroN with fl:=v',fls:=zeroN.fls++[t]}:Zi)=Xi nd t v':=by simp[Xi,leftN,hfe,zeroN]
 rw[e]at z1 z3;refine⟨rfl,v',z1,hK.trans z2 (fun _=>id) (fun x _ hf=>ZgR hf),fun x hx=> ?_⟩;rcases z3 x hx with h|h
 · exact .inl (ZgR h)
 · exact .inr (Nat.le_trans hK.size h)
theorem ZjD (w:World)(b:Nat)(R:Zd)(k t:Nat)(nd:Zi)(h:Ref w b R)(hf:R.Fit)(hnd:R.nodes[k]?=some nd)(_ht:t≤700)(hfe:V4 nd t=true):
 Calls Tryz.prog 78 #[.pointer (some ⟨b,0,none⟩),.int .i64 k,.int .u64 t] w fun e w'=>X8 w b R k nd t e w':=by
 obtain⟨hk,hnd'⟩:=List.getElem?_eq_some_iff.mp hnd;have hmem:nd∈R.nodes:=List.mem_of_getElem? hnd;have hm:=hf.nmax;obtain⟨hfm,hhz,hft⟩:=hf.fmax nd hmem;obtain⟨g,cap,hv,ho,hgl⟩:=h.nodes.block (by omega);obtain⟨ao,fc,hfl,_⟩:=(h.fls nd hmem).form;obtain⟨i0,hi,hz0,hz1,hz2⟩:=info_parts Tryz.infoStamp;have HI:Hid (Tryz.prog.info? 53=some i0∧i0.zero=some (.int .u64 0)∧i0.size=1∧i0.bytes=8):=⟨hi,hz0,hz1,hz2⟩;clear hi hz0 hz1 hz2;have HR:=hid h;have HV:Hid (R.vn=.slice (some ⟨g,0,none⟩) R.nodes.length cap∧R.vn.ownBlock=some g):=⟨hv,ho⟩;have HN:Hid (R.nodes[k]?=some nd∧nd∈R.nodes∧nd.fl=.slice ao nd.fls.length fc∧R.Fit):=⟨hnd,hmem,hfl,hf⟩;have HFT:=hid hft;have HC:Hid (∀W:World,Ref W b R→W.cell? ⟨b,3,none⟩=some (.slice (some ⟨g,0,none⟩) R.nodes.length cap)∧W.cell? ⟨g,k*7,none⟩=some (.bool nd.up)∧W.cell? ⟨g,k*7+2,none⟩=some (.int .u64 (nd.horizon:Int))∧
  W.cell? ⟨g,k*7+3,none⟩=some (.slice ao nd.fls.length fc)∧W.frozen? ⟨g,k*7+3,none⟩=false):=by
  intro W hW;refine⟨by rw[hW.c3,hv],?_,?_,?_,hW.nodes.free ho _⟩
  · exact hW.nodes.cell ho (k*7) _ (by have:=Zy R.nodes k hk 0 (by omega);rw[Nat.add_zero]at this;rw[this,hnd'];rfl)
  · exact hW.nodes.cell ho (k*7+2) _ (by rw[Zy R.nodes k hk 2 (by omega),hnd'];rfl)
  · exact hW.nodes.cell ho (k*7+3) _ (by rw[Zy R.nodes k hk 3 (by omega),hnd',←hfl];rfl)
 have HFC:Hid (∀W:World,Ref W b R→∀j (hj:j<nd.fls.length),∃gf,ao=some ⟨gf,0,none⟩∧W.cell? ⟨gf,j,none⟩=some (.int .u64 (nd.fls[j]:Int))):=by
  intro W hW j hj;obtain⟨gf,cf,e1,e2,_⟩:=(hW.fls nd hmem).block (by omega);rw[hfl]at e1;injection e1 with e1 _ _;exact⟨gf,e1,(hW.fls nd hmem).cell e2 j _ (by simp[ZL,hj])⟩
 have HC2:Hid (∀(W:World)(nd2:Zi),Ref W b (R.putN k nd2)→W.cell? ⟨b,3,none⟩=some (.slice (some ⟨g,0,none⟩) R.nodes.length cap)∧W.cell? ⟨g,k*7+3,none⟩=some nd2.fl∧W.frozen? ⟨g,k*7+3,none⟩=false):=by
  intro W nd2 hW;refine⟨by rw[hW.c3];show some R.vn=_;rw[hv],?_,hW.nodes.free ho _⟩;refine hW.nodes.cell ho (k*7+3) _ ?_;show((R.nodes.set k nd2).flatMap nodeC)[k*7+3]?=_;rw[Zy (R.nodes.set k nd2) k (by simpa using hk) 3 (by omega),List.getElem_set_self];rfl
 clear h hf hv ho hnd hnd' hmem hfl hft;go_enter Tryz.func78,Tryz.ntmps78;go_wp2
 go_loopw [6,7] (fun v i wr=>∃j:Nat,j≤nd.fls.length∧i=.int .i64 j∧Hid (ZeT w wr v (Xv t (nd.fls.take j)))) (fun _ i _=>nd.fls.length-(intOf i).toNat)
 case atStart=>exact⟨0,Nat.zero_le _,rfl,⟨Row.nil _ _ _,fun x hx=>by simp[Value.ownBlock]at hx,Za.refl _ _⟩⟩
 case round=>
  obtain⟨j,hj,rfl,HFi⟩:=hrel;have HRr:Hid (Ref wr b R):=HR.out.kept HFi.out.kept (fun _ _=>id);obtain⟨c3,a0,a2,a3,f3⟩:=HC.out wr HRr.out;by_cases hlt:j<nd.fls.length
  · obtain⟨gf,hao,hcell⟩:=HFC.out wr HRr.out j hlt;have hs:=Zcw t nd.fls j hlt;have hle:=ZaT t nd.fls j;have htb:=HFT.out nd.fls[j] (List.getElem_mem hlt);obtain⟨x,hx⟩:∃x,x=nd.fls[j]:=⟨_,rfl⟩;rw[←hx]at hcell hs htb;have HS:=hid hs;rw[hao]at a3;clear hs hx;by_cases hgt:t<x+100
    · have hgz:g<wr.heap.size:=HRr.out.nodes.lt g HV.out.2;have hbz:b<wr.heap.size:=HRr.out.blk.lt
      go_wp2_with (at_builtin;refine Zf _ rfl (.tmp 35) (.tmp 47) 144 rfl 53 i0 (.int .u64 0) 1 8 Tryz.underlying144 HI.out.1 HI.out.2.1 HI.out.2.2.1 HI.out.2.2.2 rfl (by decide) _ _ _ rfl (HFi.out.row.kept (Za.alloc _ _ (fun _=>False)) (fun _ _=>id)) ⟨wr.heap.size,0,none⟩ 1 1 [.int .u64 x] rfl rfl (cell_one_new _ _ _) (XC _) (by unfold maxLen;omega) (by omega) ?_;intro v' w1 hA)
      have HP:=HFi.out.push hA
      go_roundw
      case rel=>exact⟨j+1,by omega,by go_num,by rw[HS.out,if_pos hgt];exact HP⟩
      case measure=>simp[intOf];omega
    · go_wp2
      go_roundw
      case rel=>exact⟨j+1,by omega,by go_num,by rw[HS.out,if_neg hgt];exact HFi⟩
      case measure=>simp[intOf];omega
  · have hj':j=nd.fls.length:=by omega
    subst hj';rw[List.take_length]at HFi;obtain⟨l0,hl0⟩:∃l0,l0=Xv t nd.fls:=⟨_,rfl⟩;have hle:=ZaT t nd.fls nd.fls.length;rw[List.take_length,←hl0]at hle;rw[←hl0]at HFi;have HL0:=hid hl0;clear hl0;obtain⟨av,cv,hvv,_⟩:=HFi.out.row.form;subst hvv;have hnew:∀x,(Value.slice av l0.length cv).ownBlock=some x→w.heap.size≤x:=HFi.out.own;have HR1:Hid (Ref (wr.setCell ⟨g,k*7+3,none⟩ (.slice av l0.length cv)) b (R.putN k {nd with fl:=.slice av l0.length cv,fls:=l0})):=by
     exact HR.out.setFl HN.out.1 HV.out.2 _ l0 HFi.out.kept HFi.out.row hnew
    have HK1:Hid (Za (R.fp b) w (wr.setCell ⟨g,k*7+3,none⟩ (.slice av l0.length cv))):=
     HFi.out.kept.trans (Za.setCell wr ⟨g,k*7+3,none⟩ (.slice av l0.length cv)) (fun _=>False.elim) (fun x _ hx=>Ue (by rw[HV.out.2,hx]))
    have hsz:w.heap.size≤(wr.setCell ⟨g,k*7+3,none⟩ (.slice av l0.length cv)).heap.size:=HK1.out.size;have hgz:g<wr.heap.size:=HRr.out.nodes.lt g HV.out.2;have hgb:g≠b:=fun e=>HR.out.nodes.ne_block HR.out.blk (by decide) (by rw[HV.out.2,e]);have hbg:b≠g:=Ne.symm hgb;clear hnew;obtain⟨hup,hhl⟩:nd.up=true∧(nd.horizon:Int)+40<(t:Int):=by simp[V4]at hfe;exact⟨hfe.1,by omega⟩
    have HFE:=hid hfe;rw[hup]at a0;clear hfe hup;have HFALL:Hid (∀W:World,Ref W b (R.putN k {nd with fl:=.slice av l0.length cv,fls:=l0})→Calls Tryz.prog 123 #[.pointer (some ⟨b,0,none⟩),.int .i64 k] W fun e w'=>e=.returned (.tuple #[])∧Ref w' b (R.putN k zeroN)∧Za (fun j=>R.vn.ownBlock=some j) W w'):=by
     intro W hW;have:=rfall W b _ k hW (by simpa[Zd.putN]using hm) (by simpa[Zd.putN]using hk);rw[ZaC]at this;exact this
    go_wp2_with (go_at_call 123;refine(HFALL.out _ HR1.out).mono ?_;rintro e w2 ⟨rfl,hR2,hk2⟩;obtain⟨d3,e3,g3⟩:=HC2.out w2 zeroN hR2;have e4:w2.cell? ⟨g,k*7+3,none⟩=some (.slice none 0 0):=e3;clear e3)
    have HR2:=hid hR2;have HK2:Hid (Za (R.fp b) w w2):=HK1.out.trans hk2 (fun _=>id) (fun x _ hx=>Ue hx);have hb2:b<w2.heap.size:=hR2.blk.lt;have hg2:g<w2.heap.size:=hR2.nodes.lt g HV.out.2;clear hR2 hk2;have qb:∀o:Obj,(w2.alloc o).cell? ⟨b,3,none⟩=some (.slice (some ⟨g,0,none⟩) R.nodes.length cap):=fun o=>(World.cell?_alloc_past _ _ _ hb2).trans d3;have qg:∀o:Obj,(w2.alloc o).cell? ⟨g,k*7+3,none⟩=some (.slice none 0 0):=fun o=>(World.cell?_alloc_past _ _ _ hg2).trans e4;have HAP:Hid (∀(o:Obj)(w':World)(v':Value)(news:List Value),Zc ((w2.alloc o).drew) w' 53 1 (.slice none 0 0) v' 0 1 [] news→w'.cell? ⟨b,3,none⟩=some (.slice (some ⟨g,0,none⟩) R.nodes.length cap)∧w'.cell? ⟨g,k*7+3,none⟩=some (.slice none 0 0)∧w'.frozen? ⟨g,k*7+3,none⟩=false∧Zc w2 w' 53 1 (.slice none 0 0) v' 0 1 [] news):=by
     intro o w' v' news hA;have hk:Za (fun x=>(Value.slice none 0 0).ownBlock=some x) w2 w':=(((Za.alloc w2 o (fun _=>False)).drew).trans hA.kept (fun _=>False.elim) (fun _ _=>id));have hR':Ref w' b (R.putN k zeroN):=HR2.out.kept hk fun x _ hx=>by simp[Value.ownBlock]at hx
     obtain⟨y1,y2,y3⟩:=HC2.out w' zeroN hR';refine⟨y1,y2,y3,hA.row,hk,.inr fun x hx=> ?_⟩;rcases hA.own with e|e
     · rw[e]at hx;simp[Value.ownBlock]at hx
     · have h1:=e x hx;have h2:w2.heap.size+1≤x:=by simpa using h1
       omega
    go_region_law (refine Zw rfl (.tmp 103) (.tmp 105) 144 rfl 53 i0 (.int .u64 0) 1 8 Tryz.underlying144 HI.out.1 HI.out.2.1 HI.out.2.2.1 HI.out.2.2.2 rfl (Nat.succ_pos 0) (.slice none 0 0) 0 [] rfl (Row.nil _ _ _) ⟨w2.heap.size,0,none⟩ 1 1 [.int .u64 t] rfl rfl (fun j u hj=>cell_one_new w2 _ _ j u hj) (XC _) (by decide) (by decide) ?_;intro v' w' hA;obtain⟨p1,p2,p3,p4⟩:=HAP.out _ _ _ _ hA;clear hA;obtain⟨ao',cap',hv',_⟩:=p4.row.form;subst hv')
    all_goals
     have HP4:=hid p4;clear p4 p1 p2 p3 qb qg d3 e4;go_wp2
     go_end0
     exact Zen HR2.out HK2.out HFE.out (by omega) HV.out.2 HP4.out
end Go.Proofs.YtpfcacedpkaihaaGreat
