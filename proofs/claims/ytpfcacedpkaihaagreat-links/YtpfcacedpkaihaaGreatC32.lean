import Derived.Test.YtpfcacedpkaihaaGreatC25
import Derived.Test.YtpfcacedpkaihaaGreatC26
namespace Go.Proofs.YtpfcacedpkaihaaGreat
open Go.RowKit
set_option maxRecDepth 100000
set_option maxHeartbeats 16000000
def wrC (x:Int×Int):List Value:=[.int .i64 x.1,.int .i32 x.2]
def Yq :Int×Int:=(-77,0)
theorem Tryz.infoWrite :(Tryz.prog.info? 152).map (fun i=>(i.zero,i.size,i.bytes))=some (some (.agg #[.int .i64 0,.int .i32 0]),2,16):=by kernel_rfl
theorem Zau (ws:List (Int×Int)):∀u∈ws.flatMap wrC,u.oneCell'=true:=by
 intro u hu;simp[wrC]at hu;obtain⟨a,b,_,rfl|rfl⟩:=hu<;>rfl
theorem Wr.news {w:World}{a:Addr}{n:Nat}{ws:List (Int×Int)}(h:Wr w (some a) n ws):∀j u,(ws.flatMap wrC)[j]?=some u→w.cell? (a.add j)=some u:=by
 intro j u hj;have hl:(ws.flatMap wrC).length=ws.length*2:=YJ wrC 2 (fun _=>rfl) ws;have hlt:j<ws.length*2:=by rw[←hl];exact(List.getElem?_eq_some_iff.mp hj).1
 obtain⟨q,f,rfl,hf⟩:∃q f,j=q*2+f∧f<2:=⟨j/2,j%2,by omega,by omega⟩;have hq:q<ws.length:=by omega
 obtain⟨bl,off,e,c0,c1⟩:=h.cell q hq;injection e with e;subst e;rw[ZO wrC 2 (fun _=>rfl) ws q hq f hf]at hj;have ea:(⟨bl,off,none⟩:Addr).add (q*2+f)=⟨bl,off+(q*2+f),none⟩:=by
  cases hz:q*2+f<;>simp[Addr.add]
 rw[ea];have hc:f=0∨f=1:=by omega
 rcases hc with rfl|rfl
 · simp[wrC]at hj;subst hj;simpa using c0
 · simp[wrC]at hj;subst hj;have:off+(q*2+1)=off+q*2+1:=by omega
   rw[this];exact c1
def Za3 (w:World)(n:Nat)(ws:List (Int×Int))(e:Ending)(w':World):Prop:=
 ∃g cap,e=.returned (.slice (some ⟨g,0,none⟩) n cap)∧n+2≤cap∧w.heap.size≤g∧Row w' 152 2 (.slice (some ⟨g,0,none⟩) (n+2) cap) (n+2) ((ws++[Yq,Yq]).flatMap wrC)∧Za (fun _=>False) w w'
theorem Zar (w:World)(a b c d:Value)(t:TypeId):∀j u,[a,b,c,d][j]?=some u→(w.alloc (.cells #[a,b,c,d] t)).cell? ((⟨w.heap.size,0,none⟩:Addr).add j)=some u:=by
 intro j u hj
 match j,hj with
 |0,hj=>simp at hj;subst hj;simp[Addr.add]
 |1,hj=>simp at hj;subst hj;simp[Addr.add]
 |2,hj=>simp at hj;subst hj;simp[Addr.add]
 |3,hj=>simp at hj;subst hj;simp[Addr.add]
 |j+4,hj=>simp at hj
theorem Zb4 {w w1 w2:World}{n:Nat}{ws:List (Int×Int)}{v v2:Value}{o:Obj}(hk:Za (fun _=>False) w w1)(ho:∀x,v.ownBlock=some x→w.heap.size≤x)
 (hA:Zc (w1.alloc o) w2 152 2 v v2 n 2 (ws.flatMap wrC) [.int .i64 (-77),.int .i32 0,.int .i64 (-77),.int .i32 0]):
 ∃g cap,v2=.slice (some ⟨g,0,none⟩) (n+2) cap∧n+2≤cap∧w.heap.size≤g∧Row w2 152 2 (.slice (some ⟨g,0,none⟩) (n+2) cap) (n+2) ((ws++[Yq,Yq]).flatMap wrC)∧Za (fun _=>False) w w2:=by
 have hA:=hA.of_alloc;have hrow:=hA.row;rcases hrow.shape with⟨_,hn,_⟩|⟨g,cap,cur,hv,hb,hc,_⟩
 · omega
 · refine⟨g,cap,hv,hc,?_,?_,hk.trans hA.kept (fun _=>id) (fun x hx he=> ?_)⟩
   · have hg:v2.ownBlock=some g:=by rw[hv];rfl
     rcases hA.own with e|e
     · exact ho g (by rw[←e];exact hg)
     · exact Nat.le_trans hk.size (e g hg)
   · rw[←hv];have e:(ws++[Yq,Yq]).flatMap wrC=ws.flatMap wrC++[.int .i64 (-77),.int .i32 0,.int .i64 (-77),.int .i32 0]:=by simp[wrC,Yq]
     rw[e];exact hrow
   · have:=ho x he;omega
theorem ZfK (w:World)(a:Addr)(n cap:Nat)(ws:List (Int×Int))(hw:Wr w (some a) n ws)(hreach:n*16≤140737488351232):
 Calls Tryz.prog 27 #[.slice (some a) n cap] w fun e w'=>Za3 w n ws e w':=by
 have HW:=hid hw;have hl:=hw.len;have hlc:(ws.flatMap wrC).length=n*2:=by rw[YJ wrC 2 (fun _=>rfl) ws,hl]
 obtain⟨i0,hi,hz0,hz1,hz2⟩:=info_parts Tryz.infoWrite;have HI:Hid (Tryz.prog.info? 152=some i0∧i0.zero=some (.agg #[.int .i64 0,.int .i32 0])∧i0.size=2∧i0.bytes=16):=⟨hi,hz0,hz1,hz2⟩;have HLC:=hid hlc;clear hi hz0 hz1 hz2 hw hlc;have bm:n+2≤maxLen:=by unfold maxLen;omega
 have bm0:0+n≤maxLen:=by unfold maxLen;omega
 have bb:(n+2)*16≤140737488355328:=by omega
 have bb0:(0+n)*16≤140737488355328:=by omega
 go_enter Tryz.func27,Tryz.ntmps27
 go_wp2_with (first
  |(at_builtin;refine Zf _ rfl (.tmp 4) (.tmp 5) 35 rfl 152 i0 (.agg #[.int .i64 0,.int .i32 0]) 2 16 Tryz.underlying35 HI.out.1 HI.out.2.1 HI.out.2.2.1 HI.out.2.2.2 rfl (by decide) (.slice none 0 0) 0 [] rfl (Row.nil _ _ _) a n cap (ws.flatMap wrC) rfl HLC.out HW.out.news (Zau ws) bm0 bb0 ?_;intro v1 w1 hA1;have H1:Hid (Row w1 152 2 v1 n (ws.flatMap wrC)∧Za (fun _=>False) w w1∧(∀x,v1.ownBlock=some x→w.heap.size≤x)):=⟨by have:=hA1.row;rw[Nat.zero_add,List.nil_append]at this;exact this,hA1.kept.mono (fun k hk=>by simp[Value.ownBlock]at hk),fun x hx=>hA1.own.elim (fun e=>by rw[e]at hx;simp[Value.ownBlock]at hx) (fun e=>e x hx)⟩;clear hA1)
  |(at_builtin;refine Zf _ rfl (.tmp 7) (.tmp 10) 35 rfl 152 i0 (.agg #[.int .i64 0,.int .i32 0]) 2 16 Tryz.underlying35 HI.out.1 HI.out.2.1 HI.out.2.2.1 HI.out.2.2.2 rfl (by decide) _ n (ws.flatMap wrC) rfl (H1.out.1.kept (Za.alloc _ _ (fun _=>False)) (fun _ _=>id)) ⟨w1.heap.size,0,none⟩ 2 2 [.int .i64 (-77),.int .i32 0,.int .i64 (-77),.int .i32 0] rfl rfl (Zar _ _ _ _ _ _) (Zau [Yq,Yq]) bm bb ?_;intro v2 w2 hA2;have H2:=Zb4 H1.out.2.1 H1.out.2.2 hA2;clear hA2;obtain⟨g,cp,hv2,q1,q2,q3,q4⟩:=H2;have HQ:Hid (w.heap.size≤g∧Row w2 152 2 (.slice (some ⟨g,0,none⟩) (n+2) cp) (n+2) ((ws++[Yq,Yq]).flatMap wrC)∧Za (fun _=>False) w w2):=⟨q2,q3,q4⟩;clear q2 q3 q4;subst hv2))
 go_ret;exact⟨g,cp,rfl,by omega,HQ.out.1,HQ.out.2.1,HQ.out.2.2⟩
theorem ZfC (w:World):
 Calls Tryz.prog 27 #[.slice none 0 0] w fun e w'=>Za3 w 0 [] e w':=by
 obtain⟨i0,hi,hz0,hz1,hz2⟩:=info_parts Tryz.infoWrite;have HI:Hid (Tryz.prog.info? 152=some i0∧i0.zero=some (.agg #[.int .i64 0,.int .i32 0])∧i0.size=2∧i0.bytes=16):=⟨hi,hz0,hz1,hz2⟩;clear hi hz0 hz1 hz2;go_enter Tryz.func27,Tryz.ntmps27
 go_wp2_with (first
  |(at_builtin;refine wpList_append_own_none rfl (.tmp 4) (.tmp 5) 35 rfl 0 152 i0 2 Tryz.underlying35 HI.out.1 (.slice none 0 0) 0 [] rfl (World.ownsRow_nil _ _ _ _) rfl ?_)
  |(at_builtin;refine Zf _ rfl (.tmp 7) (.tmp 10) 35 rfl 152 i0 (.agg #[.int .i64 0,.int .i32 0]) 2 16 Tryz.underlying35 HI.out.1 HI.out.2.1 HI.out.2.2.1 HI.out.2.2.2 rfl (by decide) (.slice none 0 0) 0 [] rfl (Row.nil _ _ _) ⟨w.heap.size,0,none⟩ 2 2 [.int .i64 (-77),.int .i32 0,.int .i64 (-77),.int .i32 0] rfl rfl (Zar _ _ _ _ _ _) (Zau [Yq,Yq]) (by unfold maxLen;omega) (by omega) ?_;intro v2 w2 hA2;have H2:=Zb4 (w:=w) (ws:=[]) (Za.refl _ _) (fun x hx=>by simp[Value.ownBlock]at hx) hA2;clear hA2;obtain⟨g,cp,hv2,q1,q2,q3,q4⟩:=H2;have HQ:Hid (w.heap.size≤g∧Row w2 152 2 (.slice (some ⟨g,0,none⟩) (0+2) cp) (0+2) (([]++[Yq,Yq]).flatMap wrC)∧Za (fun _=>False) w w2):=⟨q2,q3,q4⟩;clear q2 q3 q4;subst hv2))
 go_ret;exact⟨g,cp,rfl,by omega,HQ.out.1,HQ.out.2.1,HQ.out.2.2⟩
def Zdo (w:World)(g:Nat)(e:Ending)(w':World):Prop:=e=.returned (.bool true)∧Za (fun x=>x=g) w w'
structure ZcQ (w wr:World)(g k:Nat)(xs:List (Int×Int)):Prop where
 kept:Za (fun x=>x=g) w wr
 cell:∀j (h:j<xs.length),k≤j→wr.cell? ⟨g,j*2,none⟩=some (.int .i64 xs[j].1)∧wr.cell? ⟨g,j*2+1,none⟩=some (.int .i32 xs[j].2)
 free:∀o,wr.frozen? ⟨g,o,none⟩=false
 lt:g<w.heap.size
theorem ZcQ.next {w wr:World}{g k:Nat}{xs:List (Int×Int)}(h:ZcQ w wr g k xs)(o:Obj)(a c:Value)(n:Nat):ZcQ w ((((wr.alloc o).drewN n).setCell ⟨g,k*2,none⟩ a).setCell ⟨g,k*2+1,none⟩ c) g (k+1) xs:=by
 have hlt:g<wr.heap.size:=Nat.lt_of_lt_of_le h.lt h.kept.size;refine⟨((((h.kept.trans (Za.alloc wr o (fun _=>False)) (fun _=>id) (fun _ _=>False.elim)).drewN n).trans (Za.setCell _ ⟨g,k*2,none⟩ a) (fun _=>id) (fun _ _=>id)).trans (Za.setCell _ ⟨g,k*2+1,none⟩ c) (fun _=>id) (fun _ _=>id)),fun j hj hk=> ?_,fun q=> ?_,h.lt⟩
 · obtain⟨c0,c1⟩:=h.cell j hj (by omega);have e1:(⟨g,k*2,none⟩:Addr)≠⟨g,j*2,none⟩:=by intro e;injection e with _ e _;omega
   have e2:(⟨g,k*2+1,none⟩:Addr)≠⟨g,j*2,none⟩:=by intro e;injection e with _ e _;omega
   have e3:(⟨g,k*2,none⟩:Addr)≠⟨g,j*2+1,none⟩:=by intro e;injection e with _ e _;omega
   have e4:(⟨g,k*2+1,none⟩:Addr)≠⟨g,j*2+1,none⟩:=by intro e;injection e with _ e _;omega
   have d0:((wr.alloc o).drewN n).cell? ⟨g,j*2,none⟩=some (.int .i64 xs[j].1):=(World.cell?_alloc_past o g (j*2) hlt).trans c0;have d1:((wr.alloc o).drewN n).cell? ⟨g,j*2+1,none⟩=some (.int .i32 xs[j].2):=(World.cell?_alloc_past o g (j*2+1) hlt).trans c1;constructor
   · rw[World.cell?_setCell_other _ _ _ _ e2,World.cell?_setCell_other _ _ _ _ e1];exact d0
   · rw[World.cell?_setCell_other _ _ _ _ e4,World.cell?_setCell_other _ _ _ _ e3];exact d1
 · rw[World.frozen?_setCell,World.frozen?_setCell];exact(World.frozen?_alloc_past o g q hlt).trans (h.free q)
theorem ZhL (w:World)(g n cap:Nat)(ao:Option Addr)(cl:Nat)(ws:List (Int×Int))(hw:Wr w ao n ws)(hne:0<n→∀a,ao=some a→a.block≠g)(hc:n+2≤cap)(hcm:cap≤maxLen)(hL:ZcQ w w g 0 (ws++[Yq,Yq])):
 Calls Tryz.prog 30 #[.slice (some ⟨g,0,none⟩) n cap,.slice ao n cl] w fun e w'=>Zdo w g e w':=by
 unfold maxLen at hcm;have HW:=hid hw;have HNE:=hid hne;have HL0:=hid hL;have hl:=hw.len;clear hw hne hL;go_enter Tryz.func30,Tryz.ntmps30;go_wp2
 go_loopw [6,7] (fun ok i wr=>∃k:Nat,k≤n+2∧i=.int .i64 k∧ok=.bool true∧Hid (ZcQ w wr g k (ws++[Yq,Yq]))) (fun _ i _=>n+2-(intOf i).toNat)
 case atStart=>exact⟨0,Nat.zero_le _,rfl,rfl,HL0⟩
 case round=>
  obtain⟨k,hk,rfl,rfl,HL⟩:=hrel;by_cases hlt:k<n+2
  · have hlx:k<(ws++[Yq,Yq]).length:=by simp;omega
    obtain⟨c0,c1⟩:=HL.out.cell k hlx (Nat.le_refl _);have f0:=HL.out.free (k*2);have f1:=HL.out.free (k*2+1);have hgz:g<wr.heap.size:=Nat.lt_of_lt_of_le HL.out.lt HL.out.kept.size;by_cases hin:k<n
    · have hlt':k<ws.length:=by omega
      obtain⟨bl,off,hao,z0,z1⟩:=HW.out.cell k hlt';have hbl:bl<w.heap.size:=World.block_lt_of_cell? w _ z0;have hbg:bl≠g:=HNE.out (by omega) _ hao;have hbb:=HL.out.kept.block bl hbl hbg;have y0:=(World.cell?_of_block (a:=⟨bl,off+k*2,none⟩) hbb).trans z0;have y1:=(World.cell?_of_block (a:=⟨bl,off+k*2+1,none⟩) hbb).trans z1;have hbz:bl<wr.heap.size:=Nat.lt_of_lt_of_le hbl HL.out.kept.size;obtain⟨x,hx⟩:∃x,x=ws[k].1:=⟨_,rfl⟩;obtain⟨y,hy⟩:∃y,y=ws[k].2:=⟨_,rfl⟩;have e:(ws++[Yq,Yq])[k]=ws[k]:=List.getElem_append_left hlt';rw[e,←hx]at c0;rw[e,←hy]at c1;rw[←hx]at y0;rw[←hy]at y1;clear hbb z0 z1 hx hy e;subst hao
      go_wp2_with fail
      go_quiet (fail)
      go_wp2
      go_roundw
      case rel=>exact⟨k+1,by omega,by go_num,rfl,HL.out.next _ _ _ _⟩
      case measure=>simp[intOf];omega
    · have e:(ws++[Yq,Yq])[k]=Yq:=by
       rw[List.getElem_append_right (by omega)];have hc2:k-ws.length=0∨k-ws.length=1:=by omega
       rcases hc2 with h|h<;>simp[h]
      rw[e]at c0 c1;have c0':wr.cell? ⟨g,k*2,none⟩=some (.int .i64 (-77)):=c0;have c1':wr.cell? ⟨g,k*2+1,none⟩=some (.int .i32 0):=c1;clear c0 c1 e
      go_wp2_with fail
      go_quiet (fail)
      go_wp2
      go_roundw
      case rel=>exact⟨k+1,by omega,by go_num,rfl,HL.out.next _ _ _ _⟩
      case measure=>simp[intOf];omega
  · go_wp2;go_ret;exact⟨rfl,HL.out.kept⟩
structure Zey (w1:World)(l:Value)(K:Int)(val:Zj→Int):Prop where
 form:∃ao n cap,l=.slice ao n cap
 keys:∀W,Below w1.heap.size w1 W→Calls Tryz.prog 73 #[l] W fun e w'=>e=.returned (.int .u8 K)∧Below W.heap.size W w'
 work:∀(p:Zj),(∀k,-2147483648≤p.st k∧p.st k<2147483648)→∀W,Below w1.heap.size w1 W→Calls Tryz.prog 140 #[l,.agg #[.int .i32 (p.st 0),.int .i32 (p.st 1),.int .i32 (p.st 2),.int .i32 (p.st 3),.int .i32 (p.st 4),.int .i32 (p.st 5),.int .i32 (p.st 6),.int .i32 (p.st 7)]] W fun e w'=>e=.returned (.int .i32 (val p))∧Below W.heap.size W w'
theorem Xy (w:World)(b:Nat)(ao:Option Addr)(n cap:Nat)(q:ByteArray)(c3:w.cell? ⟨b,3,none⟩=some (.slice ao n cap))(hn0:0<n)(hn1:n≤3)(hq:q.size≤40):
 Calls Tryz.prog 93 #[.pointer (some ⟨b,0,none⟩),.string q] w fun e w'=>e=.returned (.int .i64 ((YZ q.data.toList%n:Nat):Int))∧w=w':=by
 have hql:q.data.toList.length=q.size:=by rw[Array.length_toList];rfl
 go_enter Tryz.func93,Tryz.ntmps93;go_wp2
 go_loop [5,6] (fun s i=>∃k:Nat,k≤q.size∧i=.int .i64 k∧s=.int .i64 (YZ (q.data.toList.take k):Nat)) (fun _ i=>q.size-(intOf i).toNat)
 case atStart=>exact⟨0,Nat.zero_le _,rfl,rfl⟩
 case round=>
  obtain⟨k,hk,rfl,rfl⟩:=hrel;have hle:=ZgO q.data.toList k (by omega);by_cases hlt:k<q.size
  · have HS:Hid (YZ (q.data.toList.take (k+1))=YZ (q.data.toList.take k)+q[k].toNat):=by
     show _=_;rw[Za0 q.data.toList k (by omega)];rfl
    have hb:q[k].toNat<256:=UInt8.toNat_lt _;go_wp2
    go_round
    case rel=>exact⟨k+1,by omega,by go_num,by rw[HS.out];go_num⟩
    case measure=>simp[intOf];omega
  · have hkk:k=q.size:=by omega
    subst hkk;rw[List.take_of_length_le (by omega)]at hle⊢;go_wp2;go_ret;exact⟨XZ (by simp),rfl⟩
theorem Zan {w w':World}(k:Za (fun _=>False) w w'):Below w.heap.size w w':=⟨k.os,k.tape,k.output,k.size,fun i hi=>k.block i hi id⟩
theorem Zbw (W:World)(b:Nat)(R:Zd)(nd:Zi)(q:ByteArray)(lo hi:Nat)(h:Ref W b R)(hm:nd∈R.nodes)(hel:nd.ents.length≤1000)(hfi:∀e∈nd.ents,e.Fit)(hz:nd.horizon≤700):
 Calls Tryz.prog 94 #[.agg #[.bool nd.up,.int .u64 (nd.since:Int),.int .u64 (nd.horizon:Int),nd.fl,nd.wt,nd.en,nd.nm],.string q,.agg #[.int .u64 lo,.int .u64 hi]] W fun e w'=>
  e=.returned (.int .i64 (Xz nd.up nd.horizon q lo hi nd.ents nd.ents.length))∧Below W.heap.size W w':=by
 by_cases h0:nd.ents.length=0
 · obtain⟨ao,cap,hv,_⟩:=(h.ents nd hm).form;rw[h0]at hv;rw[hv,h0];exact ZbH W _ _ _ _ _ _ ao cap q lo hi
 · obtain⟨g,cap,hv,_,_⟩:=(h.ents nd hm).block (by omega);have hr:=h.ents nd hm;rw[hv]at hr⊢;exact(Zga W nd g cap nd.nm q lo hi hr hel hfi hz).mono fun e w' hp=>⟨hp.1,Zan hp.2⟩
theorem Zfr (w:World)(b:Nat)(R:Zd)(r:Int)(q:ByteArray)(h:Ref w b R)(hf:R.Fit)(hg:Yy R.rdrs r=true):
 Calls Tryz.prog 39 #[.pointer (some ⟨b,0,none⟩),.int .i64 r,.string q] w fun e w'=>e=.returned (.tuple #[.int .i32 0,.bool false,.int .i64 8])∧Below w.heap.size w w':=by
 have HG:=Ze8 w b R r h hf;rw[hg]at HG;have HG':Hid (Calls Tryz.prog 86 #[.pointer (some ⟨b,0,none⟩),.int .i64 r] w fun e w'=>e=.returned (.bool true)∧w=w'):=HG;clear HG h hf hg;go_enter Tryz.func39,Tryz.ntmps39
 go_wp2_with (go_at_call 86;refine HG'.out.mono ?_;rintro e w' ⟨rfl,rfl⟩)
 exact bodyPost_ret (v:=.tuple #[.int .i32 0,.bool false,.int .i64 8]) (by simp[results,Tryz.results39,go_sem]) rfl ⟨rfl,Below.refl _ _⟩
theorem Zdu (w:World)(b:Nat)(R:Zd)(r:Int)(q:ByteArray)(er:Int)(h:Ref w b R)(hf:R.Fit)(hg:Yy R.rdrs r=false)(her:er≠0)
 (hrd:Calls Tryz.prog 72 #[.string q] w fun e w'=>(∃l,e=.returned (.tuple #[l,.int .i64 er]))∧Below w.heap.size w w'):
 Calls Tryz.prog 39 #[.pointer (some ⟨b,0,none⟩),.int .i64 r,.string q] w fun e w'=>e=.returned (.tuple #[.int .i32 0,.bool false,.int .i64 er])∧Below w.heap.size w w':=by
 have HG:=Ze8 w b R r h hf;rw[hg]at HG;have HG':Hid (Calls Tryz.prog 86 #[.pointer (some ⟨b,0,none⟩),.int .i64 r] w fun e w'=>e=.returned (.bool false)∧w=w'):=HG;have HRD:=hid hrd;have hne:(er==0)=false:=beq_eq_false_iff_ne.mpr her;clear HG h hf hg hrd;go_enter Tryz.func39,Tryz.ntmps39
 go_wp2_with first
  |(go_at_call 86;refine HG'.out.mono ?_;rintro e w' ⟨rfl,rfl⟩)
  |(go_at_call 72;refine HRD.out.mono ?_;rintro e w1 ⟨⟨l,rfl⟩,hb1⟩;have HB1:Hid (Below w.heap.size w w1):=hb1;clear hb1)
 exact bodyPost_ret (v:=.tuple #[.int .i32 0,.bool false,.int .i64 er]) (by simp[results,Tryz.results39,go_sem]) rfl ⟨rfl,HB1.out⟩
theorem Ua {a c d:World}{n:Nat}(h:Below n a c)(hn:n≤a.heap.size)(k:Below c.heap.size c d):Below n a d:=
 ⟨k.os.trans h.os,k.tape.trans h.tape,k.output.trans h.output,Nat.le_trans h.size k.size,fun i hi=>(k.block i (Nat.lt_of_lt_of_le hi (Nat.le_trans hn (by have:=h.size;omega)))).trans (h.block i hi)⟩
structure YB (w w1 W:World)(x:Yj):Prop where
 low:Below w.heap.size w W
 mid:Below w1.heap.size w1 W
 span:Blk W w1.heap.size 88 #[.int .u64 (x.lo:Int),.int .u64 (x.hi:Int)]
 gt:w1.heap.size<W.heap.size
theorem YB.next {w w1 W W':World}{x:Yj}(h:YB w w1 W x)(hb:Below W.heap.size W W'):YB w w1 W' x:=
 ⟨Ua h.low (Nat.le_refl _) hb,Ua h.mid (Nat.le_refl _) hb,h.span.same (hb.block _ h.gt),Nat.lt_of_lt_of_le h.gt (Za.of_below hb (fun _=>False)).size⟩
def Zd.narrow (R:Zd)(j:Nat)(x:Yj)(fr:Nat):Zd:={R with rdrs:=R.rdrs.set j {x with lo:=max x.lo fr}}
def Zd.readR (R:Zd)(j:Nat)(x:Yj)(e:Zh)(v:Value):Zd:=
 {R with rdrs:=R.rdrs.set j {x with lo:=max x.lo e.fr},puts:=if R.puts.length<10 then R.puts++[e]else R.puts,vu:=v}
def Ub (w:World)(b:Nat)(R:Zd)(j:Nat)(x:Yj)(ent:Zh)(e:Ending)(w':World):Prop:=
 e=.returned (.tuple #[.int .i32 ent.val,.bool false,.int .i64 0])∧∃v,Ref w' b (R.readR j x ent v)∧Za (R.fp b) w w'∧(∀y,(R.readR j x ent v).fp b y→R.fp b y∨w.heap.size≤y)
theorem Ref.narrow {w:World}{b:Nat}{R:Zd}(h:Ref w b R)(j g:Nat)(x:Yj)(fr:Nat)(hx:R.rdrs[j]?=some x)(ho:R.vr.ownBlock=some g)(hlt:x.lo<fr):Ref (w.setCell ⟨g,j*3,none⟩ (.int .u64 (fr:Int))) b (R.narrow j x fr):=by
 have k:=Za.setCell w ⟨g,j*3,none⟩ (.int .u64 (fr:Int));obtain⟨hj,hx'⟩:=List.getElem?_eq_some_iff.mp hx;have em:max x.lo fr=fr:=by omega
 have e:(R.rdrs.flatMap YO).set (j*3+0) (.int .u64 (fr:Int))=(R.rdrs.set j {x with lo:=max x.lo fr}).flatMap YO:=
  Zt YO 3 (fun _=>rfl) R.rdrs j hj 0 (by omega) (.int .u64 (fr:Int)) {x with lo:=max x.lo fr} (by rw[hx',em];rfl)
 refine h.turn 1 ⟨162,3,R.vr,R.rdrs.length,R.rdrs.flatMap YO⟩ ⟨162,3,R.vr,(R.rdrs.set j {x with lo:=max x.lo fr}).length,(R.rdrs.set j {x with lo:=max x.lo fr}).flatMap YO⟩ rfl (k.mono fun i hi=>by show R.vr.ownBlock=some i;rw[ho,hi]) ?_ rfl rfl rfl;show Row _ _ 3 R.vr (R.rdrs.set j _).length ((R.rdrs.set j _).flatMap YO);rw[List.length_set,←e];exact h.rdrs.set ho _ _
theorem Zbq {R:Zd}{j:Nat}{x:Yj}{fr:Nat}(hx:R.rdrs[j]?=some x)(hle:fr≤x.lo):R.narrow j x fr=R:=by
 obtain⟨hj,hx'⟩:=List.getElem?_eq_some_iff.mp hx;have em:max x.lo fr=x.lo:=by omega
 have e2:({x with lo:=max x.lo fr}:Yj)=R.rdrs[j]:=by rw[em,hx']
 simp only[Zd.narrow,e2,List.set_getElem_self]
theorem VA {R:Zd}{j:Nat}{x:Yj}{fr b y:Nat}:(R.narrow j x fr).fp b y↔R.fp b y:=by
 have f:∀(R R':Zd),R.vr=R'.vr→R.vp=R'.vp→R.past=R'.past→R.nodes=R'.nodes→R.vn=R'.vn→R.puts=R'.puts→R.vu=R'.vu→R.uses=R'.uses→R.vs=R'.vs→R.fp b y→R'.fp b y:=by
  intro R R' h1 h2 h3 h4 h5 h6 h7 h8 h9 h;rcases h with h|⟨r,hr,hy⟩
  · exact .inl h
  · simp only[Zd.rows,List.mem_cons]at hr;rcases hr with rfl|rfl|rfl|rfl|rfl|hr
    · exact ZiY (by rw[←h2];exact hy)
    · exact Zbr (by rw[←h1];exact hy)
    · exact Ue (by rw[←h5];exact hy)
    · exact .inr ⟨_,List.mem_of_getElem? (i:=3) rfl,by rw[h7]at hy;exact hy⟩
    · exact .inr ⟨_,List.mem_of_getElem? (i:=4) rfl,by rw[h9]at hy;exact hy⟩
    · exact .inr ⟨r,by simp only[Zd.rows,List.mem_cons];rw[←h4];exact .inr (.inr (.inr (.inr (.inr hr)))),hy⟩
 exact⟨f _ _ rfl rfl rfl rfl rfl rfl rfl rfl rfl,f _ _ rfl rfl rfl rfl rfl rfl rfl rfl rfl⟩
structure Xu (w:World)(b:Nat)(R:Zd)(e:Zh)(W:World)(P:Nat):Prop where
 ref:Ref W b R
 kept:Za (R.fp b) w W
 put:Blk W P 55 (Z8 e)
 far:w.heap.size≤P
 away:¬R.fp b P
theorem Xu.drew {w W:World}{b P:Nat}{R:Zd}{e:Zh}(h:Xu w b R e W P):Xu w b R e W.drew P:=⟨h.ref.same fun _ _=>rfl,h.kept.drew,h.put.same rfl,h.far,h.away⟩
theorem Ud {w w5:World}{b:Nat}{R:Zd}{e:Zh}(hb:Below w.heap.size w w5)(hr:Ref w5 b R):Xu w b R e (w5.alloc (.cells (Z8 e) 55)) w5.heap.size:=
 ⟨hr.kept (Za.alloc w5 _ (fun _=>False)) (fun _ _=>id),(Za.of_below hb (R.fp b)).trans (Za.alloc w5 _ (fun _=>False)) (fun _=>id) (fun _ _=>False.elim),Blk.new w5 _ _,(Za.of_below hb (fun _=>False)).size,fun h=>Nat.lt_irrefl _ (hr.lt _ h)⟩
theorem Xu.narrow {w W:World}{b P j g:Nat}{R:Zd}{e:Zh}{x:Yj}(h:Xu w b R e W P)(hx:R.rdrs[j]?=some x)(ho:R.vr.ownBlock=some g)(hlt:x.lo<e.fr):
 Xu w b (R.narrow j x e.fr) e (W.setCell ⟨g,j*3,none⟩ (.int .u64 (e.fr:Int))) P∧Za (R.fp b) w (W.setCell ⟨g,j*3,none⟩ (.int .u64 (e.fr:Int))):=by
 have k:Za (R.fp b) w (W.setCell ⟨g,j*3,none⟩ (.int .u64 (e.fr:Int))):=h.kept.trans (Za.setCell W _ _) (fun _=>id) (fun y _ hy=>Zbr (by rw[ho,hy]));exact⟨⟨h.ref.narrow j g x e.fr hx ho hlt,k.mono fun _ hy=>VA.mpr hy,h.put.kept (Za.setCell W _ _) (fun hp=>h.away (Zbr (by rw[ho,hp]))),h.far,fun hh=>h.away (VA.mp hh)⟩,k⟩
theorem Xu.full {w W:World}{b P j:Nat}{R:Zd}{e:Zh}{x:Yj}(h:Xu w b (R.narrow j x e.fr) e W P)(k:Za (R.fp b) w W)(hf:¬R.puts.length<10):Ub w b R j x e (.returned (.tuple #[.int .i32 e.val,.bool false,.int .i64 0])) W:=by
 have er:R.readR j x e R.vu=R.narrow j x e.fr:=by simp[Zd.readR,Zd.narrow,hf]
 exact⟨rfl,R.vu,by rw[er];exact h.ref,k,fun y hy=>by rw[er]at hy;exact .inl (VA.mp hy)⟩
theorem Uo (e:Zh):∀u∈Zk e,u.oneCell'=true:=by
 intro u hu;simp[Zk]at hu;rcases hu with rfl|rfl|rfl|rfl|rfl|rfl<;>rfl
theorem Zcf (w:World)(e:Zh)(t:TypeId):∀j u,(Zk e)[j]?=some u→(w.alloc (.cells #[.string e.q,.int .i32 e.val,.int .u64 (e.fr:Int),.int .u64 (e.till:Int),.bool e.op,.int .u64 (e.kn:Int)] t)).cell? ((⟨w.heap.size,0,none⟩:Addr).add j)=some u:=by
 intro j u hj;have h:(⟨w.heap.size,0,none⟩:Addr).add j=⟨w.heap.size,j,none⟩:=by cases j<;>simp[Addr.add]
 rw[h,World.cell?_alloc_at _ _ _ _ rfl];simpa[Zk]using hj
theorem ZiM {w W w':World}{b P j:Nat}{R:Zd}{x:Yj}{e:Zh}{v v':Value}{news xs:List Value}{n:Nat}{o:Obj}(h:Xu w b (R.narrow j x e.fr) e W P)(hv:R.vu=v)(hA:Zc ((W.alloc o).drew) w' 55 6 v v' n 1 xs news):
 w'.cell? ⟨b,5,none⟩=some v∧w'.frozen? ⟨b,5,none⟩=false∧w'.cell? ⟨P,1,none⟩=some (.int .i32 e.val)∧Zc W w' 55 6 v v' n 1 xs news:=by
 have hk:Za (fun x=>v.ownBlock=some x) W w':=(((Za.alloc W o (fun _=>False)).drew).trans hA.kept (fun _=>False.elim) (fun _ _=>id));have blk1:=h.ref.blk.kept hk fun e=>h.ref.puts.ne_block h.ref.blk (by decide) (by show R.vu.ownBlock=_;rw[hv,e]);have blk2:=h.put.kept hk fun e=>h.away (.inr ⟨_,List.mem_of_getElem? (i:=3) rfl,by show R.vu.ownBlock=_;rw[hv,e]⟩);refine⟨by rw[blk1.cell 5,←hv];rfl,blk1.free 5,blk2.cell 1,hA.row,hk,?_⟩;rcases hA.own with e|e
 · exact .inl e
 · refine .inr fun x hx=> ?_;have h1:=e x hx;have h2:W.heap.size+1≤x:=by simpa using h1
   omega
theorem Xu.room {w W w':World}{b P j:Nat}{R:Zd}{e:Zh}{x:Yj}{v v':Value}(h:Xu w b (R.narrow j x e.fr) e W P)(k:Za (R.fp b) w W)(hf:R.puts.length<10)(hv:R.vu=v)(hA:Zc W w' 55 6 v v' R.puts.length 1 (R.puts.flatMap Zk) (Zk e)):
 Ub w b R j x e (.returned (.tuple #[.int .i32 e.val,.bool false,.int .i64 0])) (w'.setCell ⟨b,5,none⟩ v'):=by
 have er:R.readR j x e v'=(R.narrow j x e.fr).setPuts (R.puts++[e]) v':=by simp[Zd.readR,Zd.narrow,Zd.setPuts,hf]
 obtain⟨z1,z2,z3⟩:=h.ref.put (R':=(R.narrow j x e.fr).setPuts (R.puts++[e]) v') 3 5 ⟨55,6,R.vu,R.puts.length,R.puts.flatMap Zk⟩ ⟨55,6,v',(R.puts++[e]).length,(R.puts++[e]).flatMap Zk⟩ rfl (by dsimp only;rw[hv];exact hA.kept)
  (by show Row _ _ 6 v' (R.puts++[e]).length ((R.puts++[e]).flatMap Zk)
      rw[List.length_append,List.flatMap_append];simpa using hA.row)
  (fun y hy=>hA.own.imp (fun q=>by show R.vu.ownBlock=some y;rw[hv,←q];exact hy) (fun q=>q y hy)) rfl (by dsimp only;decide) rfl
 refine⟨rfl,v',by rw[er];exact z1,k.trans z2 (fun _=>id) (fun y _ hy=>VA.mp hy),fun y hy=> ?_⟩;rw[er]at hy;exact(z3 y hy).imp VA.mp fun hh=>Nat.le_trans k.size hh
theorem Zfc (w:World)(b:Nat)(R:Zd)(j:Nat)(q:ByteArray)(x:Yj)(p:Zj)(nd:Zi)(K:Int)(val:Zj→Int)(h:Ref w b R)(hf:R.Fit)(hx:R.rdrs[j]?=some x)(hne:x.ended=false)(hp:R.past[x.hi]?=some p)
 (hq:q.size≤40) (hnd:R.nodes[YZ q.data.toList%R.nodes.length]?=some nd) (hel:nd.ents.length≤1000) (hfi:∀e∈nd.ents,e.Fit) (han:Xz nd.up nd.horizon q x.lo x.hi nd.ents nd.ents.length= -1) (hu:R.puts.length≤10) (hbd:∀k,-2147483648≤p.st k∧p.st k<2147483648)
 (hrd:Calls Tryz.prog 72 #[.string q] w fun e w'=>∃l,e=.returned (.tuple #[l,.int .i64 0])∧Below w.heap.size w w'∧Zey w' l K val):
 Calls Tryz.prog 39 #[.pointer (some ⟨b,0,none⟩),.int .i64 j,.string q] w fun e w'=>Ub w b R j x (Uf R.past q K (val p) x.hi) e w':=by
 obtain⟨hj,hx'⟩:=List.getElem?_eq_some_iff.mp hx;have hrm:=hf.rmax;have hg:Yy R.rdrs j=false:=by
  have a:¬(j:Int)<0:=by omega
  have c:¬(R.rdrs.length:Int)≤(j:Int):=by omega
  simp[Yy,a,hx,hne];omega
 have HG:=Ze8 w b R j h hf;rw[hg]at HG;have HG':Hid (Calls Tryz.prog 86 #[.pointer (some ⟨b,0,none⟩),.int .i64 j] w fun e w'=>e=.returned (.bool false)∧w=w'):=HG;have HRD:=hid hrd;have HR:Hid (∀W,Below w.heap.size w W→Ref W b R):=fun W hb=>h.kept (Za.of_below hb (fun _=>False)) fun _ _=>id;obtain⟨k,hk⟩:∃k,k=YZ q.data.toList%R.nodes.length:=⟨_,rfl⟩;rw[←hk]at hnd;obtain⟨hkl,hnd'⟩:=List.getElem?_eq_some_iff.mp hnd;have hnm:=hf.nmax;obtain⟨gr,capr,hvr,hor,_⟩:=h.rdrs.block (by omega);obtain⟨gn,capn,hvn,hon,_⟩:=h.nodes.block (by omega);have HNO:Hid (∀W:World,W.cell? ⟨b,3,none⟩=some (.slice (some ⟨gn,0,none⟩) R.nodes.length capn)→Calls Tryz.prog 93 #[.pointer (some ⟨b,0,none⟩),.string q] W fun e w'=>e=.returned (.int .i64 (k:Int))∧W=w'):=fun W hc=>by rw[hk];exact Xy W b _ R.nodes.length capn q hc (by omega) hnm hq
 obtain⟨ae,ce,hev,_⟩:=(h.ents nd (List.mem_of_getElem? hnd)).form;have hev':nd.en=.slice ae nd.ents.length ce:=hev;obtain⟨af,cf,hfv,_⟩:=(h.fls nd (List.mem_of_getElem? hnd)).form;obtain⟨aw,cw,hwv,_⟩:=(h.wts nd (List.mem_of_getElem? hnd)).form;obtain⟨am,cm,hmv,_⟩:=(h.nms nd (List.mem_of_getElem? hnd)).form;have HC:Hid (∀W,Below w.heap.size w W→W.cell? ⟨b,2,none⟩=some (.slice (some ⟨gr,0,none⟩) R.rdrs.length capr)∧W.cell? ⟨b,3,none⟩=some (.slice (some ⟨gn,0,none⟩) R.nodes.length capn)∧W.cell? ⟨gr,j*3,none⟩=some (.int .u64 (x.lo:Int))∧W.cell? ⟨gr,j*3+1,none⟩=some (.int .u64 (x.hi:Int))∧
  W.cell? ⟨gn,k*7,none⟩=some (.bool nd.up)∧W.cell? ⟨gn,k*7+1,none⟩=some (.int .u64 (nd.since:Int))∧W.cell? ⟨gn,k*7+2,none⟩=some (.int .u64 (nd.horizon:Int))∧W.cell? ⟨gn,k*7+3,none⟩=some (.slice af nd.fls.length cf)∧W.cell? ⟨gn,k*7+4,none⟩=some (.slice aw nd.wts.length cw)∧W.cell? ⟨gn,k*7+5,none⟩=some (.slice ae nd.ents.length ce)∧W.cell? ⟨gn,k*7+6,none⟩=some (.slice am nd.nms.length cm)):=by
  intro W hb;have hr:=HR.out W hb;have hc:∀f,f<3→∀u,(YO x)[f]?=some u→W.cell? ⟨gr,j*3+f,none⟩=some u:=fun f hf u hu=>hr.rdrs.cell hor _ u (by rw[Un R.rdrs j hj f hf,hx'];exact hu);have hn:∀f,f<7→∀u,(nodeC nd)[f]?=some u→W.cell? ⟨gn,k*7+f,none⟩=some u:=fun f hf u hu=>hr.nodes.cell hon _ u (by rw[Zy R.nodes k hkl f hf,hnd'];exact hu);exact⟨by rw[hr.c2,hvr],by rw[hr.c3,hvn],hc 0 (by omega) _ rfl,hc 1 (by omega) _ rfl,hn 0 (by omega) _ rfl,hn 1 (by omega) _ rfl,hn 2 (by omega) _ rfl,by rw[←hfv];exact hn 3 (by omega) _ rfl,by rw[←hwv];exact hn 4 (by omega) _ rfl,by rw[←hev'];exact hn 5 (by omega) _ rfl,by rw[←hmv];exact hn 6 (by omega) _ rfl⟩
 have HANS:Hid (∀W,Below w.heap.size w W→Calls Tryz.prog 94 #[.agg #[.bool nd.up,.int .u64 (nd.since:Int),.int .u64 (nd.horizon:Int),.slice af nd.fls.length cf,.slice aw nd.wts.length cw,.slice ae nd.ents.length ce,.slice am nd.nms.length cm],.string q,.agg #[.int .u64 (x.lo:Int),.int .u64 (x.hi:Int)]] W fun e w'=>e=.returned (.int .i64 (-1))∧Below W.heap.size W w'):=fun W hb=>by
  have:=Zbw W b R nd q x.lo x.hi (HR.out W hb) (List.mem_of_getElem? hnd) hel hfi (hf.fmax nd (List.mem_of_getElem? hnd)).2.1;rw[han,hfv,hwv,hev',hmv]at this;exact this
 have HFit:Hid R.Fit:=hf;have HBD:=hid hbd;have HX:Hid (R.rdrs[j]?=some x∧R.vr.ownBlock=some gr):=⟨hx,hor⟩;have HP:=hid hp;clear hbd HG h hf hg hrd hx hx' hnd hnd' hev hev' hfv hwv hmv hvr hvn hel hfi han hk hne hp;go_enter Tryz.func39,Tryz.ntmps39
 go_wp2_with first
  |(go_at_call 86;refine HG'.out.mono ?_;rintro e w' ⟨rfl,rfl⟩)
  |(go_at_call 72;refine HRD.out.mono ?_;rintro e w1 ⟨l,rfl,hb1,ht1⟩;obtain⟨lo,ln,lc,rfl⟩:=ht1.form;have HB1:Hid (Below w.heap.size w w1∧Zey w1 (.slice lo ln lc) K val):=⟨hb1,ht1⟩;obtain⟨c2,c3,x0,x1,n0,n1,n2,n3,n4,n5,n6⟩:=HC.out w1 hb1;clear hb1 ht1)
 have HB2:Hid (Below w.heap.size w (w1.alloc (.cells #[.int .u64 (x.lo:Int),.int .u64 (x.hi:Int)] 88))∧Blk (w1.alloc (.cells #[.int .u64 (x.lo:Int),.int .u64 (x.hi:Int)] 88)) w1.heap.size 88 #[.int .u64 (x.lo:Int),.int .u64 (x.hi:Int)]∧Below w1.heap.size w1 (w1.alloc (.cells #[.int .u64 (x.lo:Int),.int .u64 (x.hi:Int)] 88))∧w1.heap.size<(w1.alloc (.cells #[.int .u64 (x.lo:Int),.int .u64 (x.hi:Int)] 88)).heap.size):=
  ⟨HB1.out.1.alloc HB1.out.1.size _,Blk.new _ _ _,(Below.refl _ _).alloc (Nat.le_refl _) _,by simp⟩
 clear c2 c3 x0 x1 n0 n1 n2 n3 n4 n5 n6;generalize w1.alloc (.cells #[.int .u64 (x.lo:Int),.int .u64 (x.hi:Int)] 88)=W2 at HB2⊢;obtain⟨c2,c3,x0,x1,n0,n1,n2,n3,n4,n5,n6⟩:=HC.out W2 HB2.out.1;have hk3:(k:Int)<(R.nodes.length:Int):=by omega
 have hk0:(0:Int)≤(k:Int):=by omega
 have y3:=World.new_ne W2 _ c3;have y4:=World.new_ne W2 _ n0;have y5:=World.new_ne W2 _ n1;have y6:=World.new_ne W2 _ n2;have y7:=World.new_ne W2 _ n3;have y8:=World.new_ne W2 _ n4;have y9:=World.new_ne W2 _ n5;have y10:=World.new_ne W2 _ n6
 go_cut [13] (fun v wx=>∃N,v=.pointer (some ⟨N,0,none⟩)∧W2.heap.size≤N∧Hid (Below W2.heap.size W2 wx∧Blk wx N 146 #[.bool nd.up,.int .u64 (nd.since:Int),.int .u64 (nd.horizon:Int),.slice af nd.fls.length cf,.slice aw nd.wts.length cw,.slice ae nd.ents.length ce,.slice am nd.nms.length cm]))
 case first=>
  go_region_held3 (fun w'=>w'.cell? ⟨b,3,none⟩=some (.slice (some ⟨gn,0,none⟩) R.nodes.length capn)∧w'.cell? ⟨gn,k*7,none⟩=some (.bool nd.up)∧w'.cell? ⟨gn,k*7+1,none⟩=some (.int .u64 (nd.since:Int))∧w'.cell? ⟨gn,k*7+2,none⟩=some (.int .u64 (nd.horizon:Int))∧w'.cell? ⟨gn,k*7+3,none⟩=some (.slice af nd.fls.length cf)∧w'.cell? ⟨gn,k*7+4,none⟩=some (.slice aw nd.wts.length cw)∧w'.cell? ⟨gn,k*7+5,none⟩=some (.slice ae nd.ents.length ce)∧w'.cell? ⟨gn,k*7+6,none⟩=some (.slice am nd.nms.length cm)) (go_keep) ((go_at_call 93;refine(HNO.out _ ?_).mono ?_;(simp[*]);rintro e w' ⟨rfl,rfl⟩))
  all_goals
   go_wp2
   go_meet
   case rel=>exact⟨_,rfl,Nat.le_refl _,((Below.refl _ _).alloc (Nat.le_refl _) _).drew,Blk.same (Blk.new W2 _ _) rfl⟩
 case rest=>
  obtain⟨N,rfl,hN,HCN⟩:=hcut;clear c2 c3 x0 x1 n0 n1 n2 n3 n4 n5 n6 y3 y4 y5 y6 y7 y8 y9 y10;have HG4:Hid (YB w w1 wc x):=YB.next ⟨HB2.out.1,HB2.out.2.2.1,HB2.out.2.1,HB2.out.2.2.2⟩ HCN.out.1;have m0:wc.cell? ⟨N,0,none⟩=some (.bool nd.up):=HCN.out.2.cell 0;have m1:wc.cell? ⟨N,1,none⟩=some (.int .u64 (nd.since:Int)):=HCN.out.2.cell 1;have m2:wc.cell? ⟨N,2,none⟩=some (.int .u64 (nd.horizon:Int)):=HCN.out.2.cell 2;have m3:wc.cell? ⟨N,3,none⟩=some (.slice af nd.fls.length cf):=HCN.out.2.cell 3;have m4:wc.cell? ⟨N,4,none⟩=some (.slice aw nd.wts.length cw):=HCN.out.2.cell 4;have m5:wc.cell? ⟨N,5,none⟩=some (.slice ae nd.ents.length ce):=HCN.out.2.cell 5;have m6:wc.cell? ⟨N,6,none⟩=some (.slice am nd.nms.length cm):=HCN.out.2.cell 6;have t0:wc.cell? ⟨w1.heap.size,0,none⟩=some (.int .u64 (x.lo:Int)):=HG4.out.span.cell 0;have t1:wc.cell? ⟨w1.heap.size,1,none⟩=some (.int .u64 (x.hi:Int)):=HG4.out.span.cell 1;obtain⟨ent,hent⟩:∃ent,ent=Uf R.past q K (val p) x.hi:=⟨_,rfl⟩;have HRI:Hid (∀W,YB w w1 W x→Calls Tryz.prog 97 #[.pointer (some ⟨b,0,none⟩),.string q,.slice lo ln lc,.int .u64 x.hi] W fun e w'=>e=.returned (.agg #[.string ent.q,.int .i32 ent.val,.int .u64 (ent.fr:Int),.int .u64 (ent.till:Int),.bool ent.op,.int .u64 (ent.kn:Int)])∧Below W.heap.size W w'):=by
   intro W hW;rw[hent];exact rright W b R q _ x.hi p K (val p) (HR.out W hW.low) HFit.out HP.out ⟨_,_,_,rfl⟩ (fun W' hb=>HB1.out.2.keys W' (hW.next hb).mid) (fun W' hb=>HB1.out.2.work p HBD.out W' (hW.next hb).mid)
  have HENT:=hid hent;clear hent;have HRX:Hid (R.rdrs[j]?=some x∧R.vr.ownBlock=some gr):=HX.out;obtain⟨ap,cp,hpv,_⟩:=(HR.out w (Below.refl _ _)).puts.form;have HPV:=hid hpv;have HC5:Hid (∀W,Below w.heap.size w W→W.cell? ⟨b,5,none⟩=some (.slice ap R.puts.length cp)∧W.cell? ⟨b,2,none⟩=some (.slice (some ⟨gr,0,none⟩) R.rdrs.length capr)∧W.cell? ⟨gr,j*3,none⟩=some (.int .u64 (x.lo:Int))∧W.frozen? ⟨gr,j*3,none⟩=false∧W.frozen? ⟨b,5,none⟩=false∧b<W.heap.size∧gr<W.heap.size):=fun W hb=>by
   have hr:=HR.out W hb;have hc:=HC.out W hb;exact⟨by rw[hr.c5,hpv],hc.1,hc.2.2.1,hr.rdrs.free HRX.out.2 _,hr.blk.free 5,hr.blk.lt,hr.rdrs.lt gr HRX.out.2⟩
  have hbg:b≠gr:=fun e=>(HR.out w (Below.refl _ _)).rdrs.ne_block (HR.out w (Below.refl _ _)).blk (by decide) (by rw[HRX.out.2,e]);have hgb:gr≠b:=Ne.symm hbg;have HC6:Hid (∀W,Ref W b R→W.cell? ⟨b,2,none⟩=some (.slice (some ⟨gr,0,none⟩) R.rdrs.length capr)∧W.cell? ⟨gr,j*3,none⟩=some (.int .u64 (x.lo:Int))∧W.frozen? ⟨gr,j*3,none⟩=false):=fun W hr=>by
   obtain⟨hjl,hxx⟩:=List.getElem?_eq_some_iff.mp HRX.out.1;refine⟨?_,?_,hr.rdrs.free HRX.out.2 _⟩
   · have e1:=(HR.out w (Below.refl _ _)).c2;rw[(HC5.out w (Below.refl _ _)).2.1]at e1;rw[hr.c2,←e1]
   · exact hr.rdrs.cell HRX.out.2 (j*3+0) _ (by rw[Un R.rdrs j hjl 0 (by omega),hxx];rfl)
  clear hpv;by_cases hgt:(x.lo:Int)<(ent.fr:Int)
  · go_wp2_with first
     |(go_at_call 94;refine(HANS.out _ HG4.out.low).mono ?_;rintro e w4 ⟨rfl,hb4⟩;have HG5:Hid (YB w w1 w4 x):=HG4.out.next hb4;have v0:w4.cell? ⟨w1.heap.size,0,none⟩=some (.int .u64 (x.lo:Int)):=HG5.out.span.cell 0;have v1:w4.cell? ⟨w1.heap.size,1,none⟩=some (.int .u64 (x.hi:Int)):=HG5.out.span.cell 1;clear hb4 m0 m1 m2 m3 m4 m5 m6 t0 t1)
     |(go_at_call 97;refine(HRI.out _ HG5.out).mono ?_;rintro e w5 ⟨rfl,hb5⟩;have HG6:Hid (YB w w1 w5 x):=HG5.out.next hb5;clear hb5 v0 v1;have v0:w5.cell? ⟨w1.heap.size,0,none⟩=some (.int .u64 (x.lo:Int)):=HG6.out.span.cell 0;have hz5:=HG6.out.gt;obtain⟨d5,d2,dl,df,df5,hbz,hgz⟩:=HC5.out w5 HG6.out.low)
    have HA:Hid (Xu w b R ent (w5.alloc (.cells #[.string ent.q,.int .i32 ent.val,.int .u64 (ent.fr:Int),.int .u64 (ent.till:Int),.bool ent.op,.int .u64 (ent.kn:Int)] 55)) w5.heap.size):=Ud HG6.out.low (HR.out _ HG6.out.low);have hgw:gr≠w5.heap.size:=by omega
    have hwg:w5.heap.size≠gr:=by omega
    clear d5 d2 dl df df5 hbz hgz v0;generalize w5.alloc (.cells #[.string ent.q,.int .i32 ent.val,.int .u64 (ent.fr:Int),.int .u64 (ent.till:Int),.bool ent.op,.int .u64 (ent.kn:Int)] 55)=W6 at HA⊢;obtain⟨d2,dl,df⟩:=HC6.out W6 HA.out.ref;have p2:W6.cell? ⟨w5.heap.size,2,none⟩=some (.int .u64 (ent.fr:Int)):=HA.out.put.cell 2;have hj0:(0:Int)≤(j:Int):=by omega
    have hj1:(j:Int)<(R.rdrs.length:Int):=by omega
    go_cut [17] (fun v wx=>v=.pointer (some ⟨w5.heap.size,0,none⟩)∧Hid (Xu w b (R.narrow j x ent.fr) ent wx w5.heap.size∧Za (R.fp b) w wx))
    case first=>
     go_region_held3 (fun w'=>w'.cell? ⟨b,2,none⟩=some (.slice (some ⟨gr,0,none⟩) R.rdrs.length capr)∧w'.cell? ⟨w5.heap.size,2,none⟩=some (.int .u64 (ent.fr:Int))) (go_keep) (fail)
     all_goals
      go_wp2
      go_meet
      case rel=>exact⟨rfl,(HA.out.narrow HRX.out.1 HRX.out.2 (by omega)).1.drew,(HA.out.narrow HRX.out.1 HRX.out.2 (by omega)).2.drew⟩
    case rest=>
     obtain⟨rfl,HA2⟩:=hcut;clear d2 dl df p2;have e5:wc.cell? ⟨b,5,none⟩=some (.slice ap R.puts.length cp):=by rw[←HPV.out];exact HA2.out.1.ref.c5
     have e5f:=HA2.out.1.ref.blk.free 5;have b0:wc.cell? ⟨w5.heap.size,0,none⟩=some (.string ent.q):=HA2.out.1.put.cell 0;have b1:wc.cell? ⟨w5.heap.size,1,none⟩=some (.int .i32 ent.val):=HA2.out.1.put.cell 1;have b2:wc.cell? ⟨w5.heap.size,2,none⟩=some (.int .u64 (ent.fr:Int)):=HA2.out.1.put.cell 2;have b3:wc.cell? ⟨w5.heap.size,3,none⟩=some (.int .u64 (ent.till:Int)):=HA2.out.1.put.cell 3;have b4:wc.cell? ⟨w5.heap.size,4,none⟩=some (.bool ent.op):=HA2.out.1.put.cell 4;have b5:wc.cell? ⟨w5.heap.size,5,none⟩=some (.int .u64 (ent.kn:Int)):=HA2.out.1.put.cell 5;by_cases hroom:(R.puts.length:Int)<10
     · have HI:Hid (∃i0,Tryz.prog.info? 55=some i0∧i0.zero=some (.agg #[.string ByteArray.empty,.int .i32 0,.int .u64 0,.int .u64 0,.bool false,.int .u64 0])∧i0.size=6∧i0.bytes=56):=by
        obtain⟨i0,hi0,hz0,hz1,hz2⟩:=info_parts Tryz.infoEntry;exact⟨i0,hi0,hz0,hz1,hz2⟩
       obtain⟨i0,hI0⟩:=HI.out;have HI0:=hid hI0;clear hI0 HI;have hbr:b<wc.heap.size:=HA2.out.1.ref.blk.lt;have hpr:w5.heap.size<wc.heap.size:=HA2.out.1.put.lt;have hPb:w5.heap.size≠b:=fun e=>HA2.out.1.away (.inl e);have hbP:b≠w5.heap.size:=Ne.symm hPb;have qb:∀o:Obj,(wc.alloc o).cell? ⟨b,5,none⟩=some (.slice ap R.puts.length cp):=fun o=>(World.cell?_alloc_past _ _ _ hbr).trans e5;have HROW:Hid (∀o:Obj,Row ((wc.alloc o).drew) 55 6 (.slice ap R.puts.length cp) R.puts.length (R.puts.flatMap Zk)):=fun o=>by rw[←HPV.out];exact HA2.out.1.ref.puts.kept ((Za.alloc wc o (fun _=>False)).drew) (fun _ _=>id)
       have HAP:Hid (∀(o:Obj)(w':World)(v':Value)(news:List Value),Zc ((wc.alloc o).drew) w' 55 6 (.slice ap R.puts.length cp) v' R.puts.length 1 (R.puts.flatMap Zk) news→w'.cell? ⟨b,5,none⟩=some (.slice ap R.puts.length cp)∧w'.frozen? ⟨b,5,none⟩=false∧w'.cell? ⟨w5.heap.size,1,none⟩=some (.int .i32 ent.val)∧Zc wc w' 55 6 (.slice ap R.puts.length cp) v' R.puts.length 1 (R.puts.flatMap Zk) news):=fun o w' v' news hA=>ZiM HA2.out.1 HPV.out hA;have k1:R.puts.length+1≤maxLen:=by unfold maxLen;omega
       have k2:(R.puts.length+1)*56≤140737488355328:=by omega
       go_wp2_with fail
       go_region_law (refine Zw rfl (.tmp 132) (.tmp 134) 51 rfl 55 i0 (.agg #[.string ByteArray.empty,.int .i32 0,.int .u64 0,.int .u64 0,.bool false,.int .u64 0]) 6 56 Tryz.underlying51 HI0.out.1 HI0.out.2.1 HI0.out.2.2.1 HI0.out.2.2.2 rfl (Nat.succ_pos 5) (.slice ap R.puts.length cp) R.puts.length (R.puts.flatMap Zk) rfl (HROW.out _) ⟨wc.heap.size,0,none⟩ 1 1 (Zk ent) rfl rfl (fun j u hj=>Zcf wc ent _ j u hj) (Uo ent) k1 k2 ?_;intro v' w' hA;obtain⟨p1,p2,p3,p4⟩:=HAP.out _ _ _ _ hA;clear hA;obtain⟨ao',cap',hv',_⟩:=p4.row.form;subst hv')
       all_goals
        have HZ:Hid (Ub w b R j x ent (.returned (.tuple #[.int .i32 ent.val,.bool false,.int .i64 0])) (w'.setCell ⟨b,5,none⟩ (.slice ao' (R.puts.length+1) cap'))):=HA2.out.1.room HA2.out.2 (by omega) HPV.out p4;clear p4 qb e5 e5f b0 b1 b2 b3 b4 b5;go_wp2;rw[←HENT.out];exact bodyPost_ret (v:=.tuple #[.int .i32 ent.val,.bool false,.int .i64 0]) (by simp[results,Tryz.results39,go_sem]) rfl HZ.out
     · go_wp2;rw[←HENT.out];exact bodyPost_ret (v:=.tuple #[.int .i32 ent.val,.bool false,.int .i64 0]) (by simp[results,Tryz.results39,go_sem]) rfl (HA2.out.1.full HA2.out.2 (by omega))
  · by_cases hroom:(R.puts.length:Int)<10
    · go_wp2_with first
       |(go_at_call 94;refine(HANS.out _ HG4.out.low).mono ?_;rintro e w4 ⟨rfl,hb4⟩;have HG5:Hid (YB w w1 w4 x):=HG4.out.next hb4;have v0:w4.cell? ⟨w1.heap.size,0,none⟩=some (.int .u64 (x.lo:Int)):=HG5.out.span.cell 0;have v1:w4.cell? ⟨w1.heap.size,1,none⟩=some (.int .u64 (x.hi:Int)):=HG5.out.span.cell 1;clear hb4 m0 m1 m2 m3 m4 m5 m6 t0 t1)
       |(go_at_call 97;refine(HRI.out _ HG5.out).mono ?_;rintro e w5 ⟨rfl,hb5⟩;have HG6:Hid (YB w w1 w5 x):=HG5.out.next hb5;clear hb5 v0 v1;have v0:w5.cell? ⟨w1.heap.size,0,none⟩=some (.int .u64 (x.lo:Int)):=HG6.out.span.cell 0;have hz5:=HG6.out.gt;obtain⟨d5,d2,dl,df,df5,hbz,hgz⟩:=HC5.out w5 HG6.out.low)
      have HA:Hid (Xu w b R ent (w5.alloc (.cells #[.string ent.q,.int .i32 ent.val,.int .u64 (ent.fr:Int),.int .u64 (ent.till:Int),.bool ent.op,.int .u64 (ent.kn:Int)] 55)) w5.heap.size):=Ud HG6.out.low (HR.out _ HG6.out.low);clear d5 d2 dl df df5 hbz hgz v0;generalize w5.alloc (.cells #[.string ent.q,.int .i32 ent.val,.int .u64 (ent.fr:Int),.int .u64 (ent.till:Int),.bool ent.op,.int .u64 (ent.kn:Int)] 55)=wc at HA⊢;have HA2:Hid (Xu w b (R.narrow j x ent.fr) ent wc w5.heap.size∧Za (R.fp b) w wc):=⟨by rw[Zbq HRX.out.1 (by omega)];exact HA.out,HA.out.kept⟩;have e5:wc.cell? ⟨b,5,none⟩=some (.slice ap R.puts.length cp):=by rw[←HPV.out];exact HA2.out.1.ref.c5
      have e5f:=HA2.out.1.ref.blk.free 5;have b0:wc.cell? ⟨w5.heap.size,0,none⟩=some (.string ent.q):=HA2.out.1.put.cell 0;have b1:wc.cell? ⟨w5.heap.size,1,none⟩=some (.int .i32 ent.val):=HA2.out.1.put.cell 1;have b2:wc.cell? ⟨w5.heap.size,2,none⟩=some (.int .u64 (ent.fr:Int)):=HA2.out.1.put.cell 2;have b3:wc.cell? ⟨w5.heap.size,3,none⟩=some (.int .u64 (ent.till:Int)):=HA2.out.1.put.cell 3;have b4:wc.cell? ⟨w5.heap.size,4,none⟩=some (.bool ent.op):=HA2.out.1.put.cell 4;have b5:wc.cell? ⟨w5.heap.size,5,none⟩=some (.int .u64 (ent.kn:Int)):=HA2.out.1.put.cell 5;have HI:Hid (∃i0,Tryz.prog.info? 55=some i0∧i0.zero=some (.agg #[.string ByteArray.empty,.int .i32 0,.int .u64 0,.int .u64 0,.bool false,.int .u64 0])∧i0.size=6∧i0.bytes=56):=by
       obtain⟨i0,hi0,hz0,hz1,hz2⟩:=info_parts Tryz.infoEntry;exact⟨i0,hi0,hz0,hz1,hz2⟩
      obtain⟨i0,hI0⟩:=HI.out;have HI0:=hid hI0;clear hI0 HI;have hbr:b<wc.heap.size:=HA2.out.1.ref.blk.lt;have hpr:w5.heap.size<wc.heap.size:=HA2.out.1.put.lt;have hPb:w5.heap.size≠b:=fun e=>HA2.out.1.away (.inl e);have hbP:b≠w5.heap.size:=Ne.symm hPb;have qb:∀o:Obj,(wc.alloc o).cell? ⟨b,5,none⟩=some (.slice ap R.puts.length cp):=fun o=>(World.cell?_alloc_past _ _ _ hbr).trans e5;have HROW:Hid (∀o:Obj,Row ((wc.alloc o).drew) 55 6 (.slice ap R.puts.length cp) R.puts.length (R.puts.flatMap Zk)):=fun o=>by rw[←HPV.out];exact HA2.out.1.ref.puts.kept ((Za.alloc wc o (fun _=>False)).drew) (fun _ _=>id)
      have HAP:Hid (∀(o:Obj)(w':World)(v':Value)(news:List Value),Zc ((wc.alloc o).drew) w' 55 6 (.slice ap R.puts.length cp) v' R.puts.length 1 (R.puts.flatMap Zk) news→w'.cell? ⟨b,5,none⟩=some (.slice ap R.puts.length cp)∧w'.frozen? ⟨b,5,none⟩=false∧w'.cell? ⟨w5.heap.size,1,none⟩=some (.int .i32 ent.val)∧Zc wc w' 55 6 (.slice ap R.puts.length cp) v' R.puts.length 1 (R.puts.flatMap Zk) news):=fun o w' v' news hA=>ZiM HA2.out.1 HPV.out hA;have k1:R.puts.length+1≤maxLen:=by unfold maxLen;omega
      have k2:(R.puts.length+1)*56≤140737488355328:=by omega
      go_region_law (refine Zw rfl (.tmp 132) (.tmp 134) 51 rfl 55 i0 (.agg #[.string ByteArray.empty,.int .i32 0,.int .u64 0,.int .u64 0,.bool false,.int .u64 0]) 6 56 Tryz.underlying51 HI0.out.1 HI0.out.2.1 HI0.out.2.2.1 HI0.out.2.2.2 rfl (Nat.succ_pos 5) (.slice ap R.puts.length cp) R.puts.length (R.puts.flatMap Zk) rfl (HROW.out _) ⟨wc.heap.size,0,none⟩ 1 1 (Zk ent) rfl rfl (fun j u hj=>Zcf wc ent _ j u hj) (Uo ent) k1 k2 ?_;intro v' w' hA;obtain⟨p1,p2,p3,p4⟩:=HAP.out _ _ _ _ hA;clear hA;obtain⟨ao',cap',hv',_⟩:=p4.row.form;subst hv')
      all_goals
       have HZ:Hid (Ub w b R j x ent (.returned (.tuple #[.int .i32 ent.val,.bool false,.int .i64 0])) (w'.setCell ⟨b,5,none⟩ (.slice ao' (R.puts.length+1) cap'))):=HA2.out.1.room HA2.out.2 (by omega) HPV.out p4;clear p4 qb e5 e5f b0 b1 b2 b3 b4 b5;go_wp2;rw[←HENT.out];exact bodyPost_ret (v:=.tuple #[.int .i32 ent.val,.bool false,.int .i64 0]) (by simp[results,Tryz.results39,go_sem]) rfl HZ.out
    · go_wp2_with first
       |(go_at_call 94;refine(HANS.out _ HG4.out.low).mono ?_;rintro e w4 ⟨rfl,hb4⟩;have HG5:Hid (YB w w1 w4 x):=HG4.out.next hb4;have v0:w4.cell? ⟨w1.heap.size,0,none⟩=some (.int .u64 (x.lo:Int)):=HG5.out.span.cell 0;have v1:w4.cell? ⟨w1.heap.size,1,none⟩=some (.int .u64 (x.hi:Int)):=HG5.out.span.cell 1;clear hb4 m0 m1 m2 m3 m4 m5 m6 t0 t1)
       |(go_at_call 97;refine(HRI.out _ HG5.out).mono ?_;rintro e w5 ⟨rfl,hb5⟩;have HG6:Hid (YB w w1 w5 x):=HG5.out.next hb5;clear hb5 v0 v1;have v0:w5.cell? ⟨w1.heap.size,0,none⟩=some (.int .u64 (x.lo:Int)):=HG6.out.span.cell 0;have hz5:=HG6.out.gt;obtain⟨d5,d2,dl,df,df5,hbz,hgz⟩:=HC5.out w5 HG6.out.low)
      have HA:Hid (Xu w b R ent (w5.alloc (.cells #[.string ent.q,.int .i32 ent.val,.int .u64 (ent.fr:Int),.int .u64 (ent.till:Int),.bool ent.op,.int .u64 (ent.kn:Int)] 55)) w5.heap.size):=Ud HG6.out.low (HR.out _ HG6.out.low);have HA2:Hid (Xu w b (R.narrow j x ent.fr) ent (w5.alloc (.cells #[.string ent.q,.int .i32 ent.val,.int .u64 (ent.fr:Int),.int .u64 (ent.till:Int),.bool ent.op,.int .u64 (ent.kn:Int)] 55)) w5.heap.size):=by rw[Zbq HRX.out.1 (by omega)];exact HA.out
      rw[←HENT.out];exact bodyPost_ret (v:=.tuple #[.int .i32 ent.val,.bool false,.int .i64 0]) (by simp[results,Tryz.results39,go_sem]) rfl (HA2.out.full HA.out.kept (by omega))
end Go.Proofs.YtpfcacedpkaihaaGreat
