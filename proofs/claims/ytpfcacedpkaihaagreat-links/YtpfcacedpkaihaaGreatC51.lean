import Derived.ProofKit
import Derived.OpenShut
import Derived.ShutString
import Derived.ChangeOld
import Derived.SizedLaws
import Derived.Test.YtpfcacedpkaihaaGreatC38
namespace Go.Proofs.YtpfcacedpkaihaaGreat
open Go.ChangeShapes Go.WideShapes Go.ChangeAt Go.RowKit
set_option maxRecDepth 100000
set_option maxHeartbeats 16000000
theorem Tryz.own :ownKnob Tryz.prog.godebug=none:=by kernel_rfl
theorem Tryz.laidOut :laidOutB Tryz.prog=true:=by kernel_rfl
theorem Tryz.cellsOp :Tryz.prog.cellsOf 37=6:=by kernel_rfl
theorem Tryz.cellsInt :Tryz.prog.cellsOf 3=1:=by kernel_rfl
theorem Tryz.cellsI32 :Tryz.prog.cellsOf 21=1:=by kernel_rfl
theorem Tryz.cellsStr :Tryz.prog.cellsOf 9=1:=by kernel_rfl
theorem Tryz.cellsWs :Tryz.prog.cellsOf 35=1:=by kernel_rfl
theorem Tryz.cellsWrite :Tryz.prog.cellsOf 152=2:=by kernel_rfl
theorem Tryz.bytesOp :Tryz.prog.bytesOf 37=72:=by kernel_rfl
theorem Tryz.bytesWrite :Tryz.prog.bytesOf 152=16:=by kernel_rfl
theorem Uh {α:Type}(P:Nat→α→Prop):∀n:Nat,(∀i,i<n→∃x,P i x)→∃l:List α,l.length=n∧∀i (h:i<l.length),P i l[i]
 |0,_=>⟨[],rfl,fun i h=>absurd h (Nat.not_lt_zero _)⟩
 |n+1,h=>by
  obtain⟨l,hl,hp⟩:=Uh P n fun i hi=>h i (by omega);obtain⟨x,hx⟩:=h n (by omega);refine⟨l++[x],by simp[hl],fun i hi=> ?_⟩;by_cases e:i<l.length
  · rw[List.getElem_append_left e];exact hp i e
  · have:i=n:=by simp at hi;omega
    subst this;rw[List.getElem_append_right (by omega)];simpa[hl]using hx
section
variable {H:Type} {enc:TypeId×Value→H} {w:World} {fuel:Nat} {cs:List Value} {x:DataW H×List MemPlace}
theorem len2 {l:List Value}(h:l.length=2):∃a b,l=[a,b]:=by
 match l,h with
 |[a,b],_=>exact⟨a,b,rfl⟩
theorem len6 {l:List Value}(h:l.length=6):∃a b c d e f,l=[a,b,c,d,e,f]:=by
 match l,h with
 |[a,b,c,d,e,f],_=>exact⟨a,b,c,d,e,f,rfl⟩
theorem ZfS (h:DataW.trod enc Tryz.prog w 0 (fun _=>true) true fuel 152 cs=some x):∃p:Int×Int,cs=wrC p∧ -2147483648≤p.2∧p.2<2147483648:=by
 obtain⟨y0,y1,n,_,hl,h0,h1⟩:=trod_struct2 Tryz.underlying152 h;rw[Tryz.cellsWrite]at hl;clear h;obtain⟨a,b,rfl⟩:=len2 hl;obtain⟨k,e0,_⟩:=DataW.trod_int Tryz.underlying3 h0;obtain⟨v,e1,_,bv⟩:=DataW.trod_int Tryz.underlying21 h1;have bd:=bounds_i32 bv;rw[Tryz.cellsInt]at e0;rw[Tryz.cellsI32]at e1;simp at e0 e1;exact⟨(k,v),by simp[wrC,e0,e1],by dsimp only;omega,by dsimp only;omega⟩
theorem Zal (bl off j:Nat):(⟨bl,off,none⟩:Addr).add j=⟨bl,off+j,none⟩:=by cases j<;>simp[Addr.add]
theorem Zdd {a:Addr}{m:Nat}{c:List Value}(h:w.cells? 0 (a.add 0) (m+1)=some c):∃bl off,a=⟨bl,off,none⟩∧bl<w.heap.size:=by
 obtain⟨_,hl,hc⟩:=World.cells?_some h;have h0:=hc 0 (by omega);rw[List.getElem?_eq_getElem (by omega)]at h0;obtain⟨bl,off,spot⟩:=a;have hs:spot=none:=by simpa[Addr.add]using World.cell?_spot h0
 subst hs;refine⟨bl,off,rfl,?_⟩;rw[Zal,Zal]at h0;exact World.block_lt_of_cell? w _ h0
theorem ZeF (h:DataW.trod enc Tryz.prog w 0 (fun _=>true) true fuel 35 cs=some x)(hs:(x.1.weights Tryz.prog 35).all (· ≤reachBytes)=true):
 ∃(ao:Option Addr)(n cap:Nat)(ws:List (Int×Int)),cs=[.slice ao n cap]∧Wr w ao n ws∧n*16≤140737488351232∧(ao=none→n=0∧cap=0)∧(0<n→∀a,ao=some a→a.block<w.heap.size)∧BdW ws:=by
 rcases DataW.trod_slice Tryz.underlying35 h with⟨rfl,_⟩|⟨a,len,cap,elems,rest,n,_,rfl,rfl,_,hl,hm,hlen,hel,hsp,_⟩
 · exact⟨none,0,0,[],rfl,⟨rfl,fun j hj=>absurd hj (Nat.not_lt_zero _)⟩,by omega,fun _=>⟨rfl,rfl⟩,fun h0=>absurd h0 (Nat.lt_irrefl _),fun x hx=>(by cases hx)⟩
 · have hw:len*16≤140737488351232:=by
    have:=List.all_eq_true.1 hs ((elems.length+rest.length)*Tryz.prog.bytesOf 152) (by simp[DataW.weights,Tryz.underlying35]);rw[Tryz.bytesWrite,hlen]at this;have h2:(len+rest.length)*16≤reachBytes:=by simpa using this
    unfold reachBytes at h2;omega
   clear h hs;by_cases h0:0<len
   · have row:∀i,i<len→∃ci y,w.cells? 0 (a.add (i*2)) 2=some ci∧DataW.trod enc Tryz.prog w 0 (fun _=>true) true n 152 ci=some y:=by
      intro i hi;have h1:=hel i hi;rw[List.getElem?_eq_getElem (by omega),Tryz.cellsWrite]at h1;obtain⟨ci,hci,htr⟩:=Option.bind_eq_some_iff.mp h1;exact⟨ci,_,hci,htr⟩
     obtain⟨c0,_,hc0,_⟩:=row 0 h0;rw[Nat.zero_mul]at hc0;obtain⟨bl,off,rfl,hb⟩:=Zdd hc0;have each:∀i,i<len→∃p:Int×Int,(∀f,f<2→w.cell? ⟨bl,off+i*2+f,none⟩=(wrC p)[f]?)∧ -2147483648≤p.2∧p.2<2147483648:=by
      intro i hi;obtain⟨ci,y,hci,htr⟩:=row i hi;obtain⟨p,rfl,bp⟩:=ZfS htr;obtain⟨_,_,hc⟩:=World.cells?_some hci;refine⟨p,fun f hf=> ?_,bp⟩;have:=hc f hf
      rwa [Zal,Zal]at this
     obtain⟨ws,hwl,hws⟩:=Uh _ len each;refine⟨some ⟨bl,off,none⟩,len,cap,ws,rfl,⟨hwl,fun j hj=>⟨bl,off,rfl,?_,?_⟩⟩,hw,(fun e=>by cases e),fun _ a' ha=> ?_,fun y hy=> ?_⟩
     · have c0:=(hws j hj).1 0 (by omega);simpa[wrC]using c0
     · have c1:=(hws j hj).1 1 (by omega);simpa[wrC]using c1
     · injection ha with ha;subst ha;exact hb
     · obtain⟨j,hj,rfl⟩:=List.getElem_of_mem hy;exact(hws j hj).2
   · have e0:len=0:=by omega
     subst e0;exact⟨some a,0,cap,[],rfl,⟨rfl,fun j hj=>absurd hj (Nat.not_lt_zero _)⟩,hw,(fun e=>by cases e),fun h=>absurd h (Nat.lt_irrefl _),fun x hx=>(by cases hx)⟩
theorem weights_field {ts:List TypeId}{ds:List (DataW H)}{j:Nat}{t:TypeId}{d:DataW H}(h:(DataW.weightsEach Tryz.prog ts ds).all (· ≤reachBytes)=true)(ht:ts[j]?=some t)(hd:ds[j]?=some d):(d.weights Tryz.prog t).all (· ≤reachBytes)=true:=
 List.all_eq_true.2 fun n hn=>List.all_eq_true.1 h n (DataW.weights_mem_each ht hd n hn)
theorem ZbD {e:TypeId}:∀{ds:List (DataW H)}{j:Nat}{d:DataW H},ds[j]?=some d→∀n∈d.weights Tryz.prog e,n∈DataW.weightsAll Tryz.prog e ds
 |d0::ds,0,d,hd,n,hn=>by simp at hd;subst hd;simp only[DataW.weightsAll,List.mem_append];exact .inl hn
 |d0::ds,j+1,d,hd,n,hn=>by simp at hd;simp only[DataW.weightsAll,List.mem_append];exact .inr (ZbD hd n hn)
 |[],_,_,hd,_,_=>by simp at hd
theorem ZjM (h:DataW.trod enc Tryz.prog w 0 (fun _=>true) true fuel 37 cs=some x)(hs:(x.1.weights Tryz.prog 37).all (· ≤reachBytes)=true):∃o:OpE,cs=opC o∧Zcj w.heap.size w o:=by
 obtain⟨xs,n,_,rfl,hl,hlen,hf⟩:=DataW.trod_struct Tryz.underlying37 h;rw[Tryz.cellsOp]at hl;clear h;obtain⟨c0,c1,c2,c3,c4,c5,rfl⟩:=len6 hl;have hlen6:xs.length=6:=hlen;have g0:=hf 0 _ rfl;have g1:=hf 1 _ rfl;have g2:=hf 2 _ rfl;have g3:=hf 3 _ rfl;have g4:=hf 4 _ rfl;have g5:=hf 5 _ rfl;rw[List.getElem?_eq_getElem (by omega)]at g0 g1 g2 g3 g4 g5;obtain⟨k0,e0,_,b0⟩:=DataW.trod_int Tryz.underlying3 g0;obtain⟨k1,e1,_,b1⟩:=DataW.trod_int Tryz.underlying3 g1;obtain⟨k2,e2,_,b2⟩:=DataW.trod_int Tryz.underlying3 g2;obtain⟨k3,e3,_,b3⟩:=DataW.trod_int Tryz.underlying3 g3;obtain⟨s,e4,_,hsz⟩:=DataW.trod_string Tryz.underlying9 g4;have hs5:((xs[5]).1.weights Tryz.prog 35).all (· ≤reachBytes)=true:=by
  simp only[DataW.weights,Tryz.underlying37]at hs;exact weights_field (j:=5) hs rfl (by rw[List.getElem?_map,List.getElem?_eq_getElem (by omega)];rfl)
 obtain⟨ao,m,cap,ws,e5,hwr,hre,hno,hlow,hvals⟩:=ZeF g5 hs5;have e0:List.take (Tryz.prog.cellsOf 3) (List.drop 0 [c0,c1,c2,c3,c4,c5])=[Value.int .i64 k0]:=e0;have e1:List.take (Tryz.prog.cellsOf 3) (List.drop 1 [c0,c1,c2,c3,c4,c5])=[Value.int .i64 k1]:=e1;have e2:List.take (Tryz.prog.cellsOf 3) (List.drop 2 [c0,c1,c2,c3,c4,c5])=[Value.int .i64 k2]:=e2;have e3:List.take (Tryz.prog.cellsOf 3) (List.drop 3 [c0,c1,c2,c3,c4,c5])=[Value.int .i64 k3]:=e3;have e4:List.take (Tryz.prog.cellsOf 9) (List.drop 4 [c0,c1,c2,c3,c4,c5])=[Value.string s]:=e4;have e5:List.take (Tryz.prog.cellsOf 35) (List.drop 5 [c0,c1,c2,c3,c4,c5])=[Value.slice ao m cap]:=e5;rw[Tryz.cellsInt]at e0 e1 e2 e3;rw[Tryz.cellsStr]at e4;rw[Tryz.cellsWs]at e5;simp at e0 e1 e2 e3 e4 e5;have bd:=bounds_i64 b1;exact⟨⟨k0,k1,k2,k3,s,ao,m,cap,ws⟩,by simp[opC,e0,e1,e2,e3,e4,e5],⟨hwr,hre,hno,hlow,hvals,hsz,by dsimp only;omega,by dsimp only;omega⟩⟩
theorem open_script (h:DataW.trod enc Tryz.prog w 0 (fun _=>true) true fuel 22 cs=some x)(hs:(x.1.weights Tryz.prog 22).all (· ≤reachBytes)=true):
 ∃(ao:Option Addr)(n cap:Nat)(os:List OpE),cs=[.slice ao n cap]∧Sc w ao n os∧n*72≤140737488351232∧∀o∈os,Zcj w.heap.size w o:=by
 rcases DataW.trod_slice Tryz.underlying22 h with⟨rfl,_⟩|⟨a,len,cap,elems,rest,n,_,rfl,rfl,_,hl,hm,hlen,hel,hsp,_⟩
 · exact⟨none,0,0,[],rfl,⟨rfl,fun j hj=>absurd hj (Nat.not_lt_zero _)⟩,by omega,fun o ho=>by cases ho⟩
 · have hs':∀q,q∈((elems.map (·.1)).length+(rest.map (·.1)).length)*Tryz.prog.bytesOf 37::(DataW.weightsAll Tryz.prog 37 (elems.map (·.1))++DataW.weightsAll Tryz.prog 37 (rest.map (·.1)))→q≤reachBytes:=by
    intro q hq;have:=List.all_eq_true.1 hs q (by simpa only[DataW.weights,Tryz.underlying22]using hq);simpa using this
   have hw:len*72≤140737488351232:=by
    have h2:=hs' _ (List.mem_cons_self ..);rw[Tryz.bytesOp,List.length_map,hlen]at h2;unfold reachBytes at h2;omega
   clear h hs;by_cases h0:0<len
   · have row:∀i,i<len→∃ci y,w.cells? 0 (a.add (i*6)) 6=some ci∧DataW.trod enc Tryz.prog w 0 (fun _=>true) true n 37 ci=some y∧elems[i]?=some y:=by
      intro i hi;have h1:=hel i hi;rw[List.getElem?_eq_getElem (by omega),Tryz.cellsOp]at h1;obtain⟨ci,hci,htr⟩:=Option.bind_eq_some_iff.mp h1;exact⟨ci,_,hci,htr,List.getElem?_eq_getElem (by omega)⟩
     obtain⟨c0,_,hc0,_⟩:=row 0 h0;rw[Nat.zero_mul]at hc0;obtain⟨bl,off,rfl,hb⟩:=Zdd hc0;have each:∀i,i<len→∃o:OpE,(∀f,f<6→w.cell? ⟨bl,off+i*6+f,none⟩=(opC o)[f]?)∧Zcj w.heap.size w o:=by
      intro i hi;obtain⟨ci,y,hci,htr,hy⟩:=row i hi;have hsy:(y.1.weights Tryz.prog 37).all (· ≤reachBytes)=true:=List.all_eq_true.2 fun q hq=>by
       have:=hs' q (List.mem_cons_of_mem _ (List.mem_append_left _ (ZbD (j:=i) (by rw[List.getElem?_map,hy];rfl) q hq)));simpa using this
      obtain⟨o,rfl,hok⟩:=ZjM htr hsy;obtain⟨_,_,hc⟩:=World.cells?_some hci;refine⟨o,fun f hf=> ?_,hok⟩;have:=hc f hf
      rwa [Zal,Zal]at this
     obtain⟨os,hol,hos⟩:=Uh _ len each;refine⟨some ⟨bl,off,none⟩,len,cap,os,rfl,⟨hol,fun j hj=>⟨bl,off,rfl,hb,(hos j hj).1⟩⟩,hw,fun o ho=> ?_⟩;obtain⟨j,hj,rfl⟩:=List.getElem_of_mem ho;exact(hos j hj).2
   · have e0:len=0:=by omega
     subst e0;exact⟨some a,0,cap,[],rfl,⟨rfl,fun j hj=>absurd hj (Nat.not_lt_zero _)⟩,hw,fun o ho=>by cases ho⟩
end
end Go.Proofs.YtpfcacedpkaihaaGreat
