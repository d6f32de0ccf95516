import Derived.Test.YtpfcacedpkaihaaGreatC28
namespace Go.Proofs.YtpfcacedpkaihaaGreat
open Go.RowKit
set_option maxRecDepth 100000
set_option maxHeartbeats 16000000
def Zbp (w:World)(nd:Zn)(q:ByteArray)(lo hi:Nat)(e:Ending)(w':World):Prop:=Za (fun _=>False) w w'∧
 ((nd.p.ans q lo hi nd.p.ents.length<0∧e=.returned (.pointer none))∨(∃(j:Nat)(x:Zu)(ge:Nat),nd.p.ans q lo hi nd.p.ents.length=j∧nd.p.ents[j]?=some x∧nd.en.ownBlock=some ge∧e=.returned (.pointer (some ⟨ge,j*7,none⟩))))
theorem map_e {l:List Zu}{j:Nat}{x:Zu}(h:l[j]?=some x):(l.map (·.e))[j]?=some x.e:=by rw[List.getElem?_map,h];rfl
theorem Zjb (p:Zb)(q:ByteArray)(lo hi j:Nat)(x:Zu)(hx:p.ents[j]?=some x):
 p.ans q lo hi (j+1)=if Xq p.horizon q lo hi x.e∧(p.ans q lo hi j<0∨∃y:Zu,p.ents[(p.ans q lo hi j).toNat]?=some y∧y.e.fr<x.e.fr)then(j:Int)else p.ans q lo hi j:=by
 show Xz true p.horizon q lo hi (p.ents.map (·.e)) (j+1)=_;rw[Xz,map_e hx];have e:(∃y:Zh,(p.ents.map (·.e))[(Xz true p.horizon q lo hi (p.ents.map (·.e)) j).toNat]?=some y∧y.fr<x.e.fr)↔∃y:Zu,p.ents[(p.ans q lo hi j).toNat]?=some y∧y.e.fr<x.e.fr:=by
  constructor
  · rintro⟨y,h1,h2⟩;rw[List.getElem?_map]at h1;cases hh:p.ents[(Xz true p.horizon q lo hi (p.ents.map (·.e)) j).toNat]? with
    |none=>rw[hh]at h1;simp at h1
    |some z=>rw[hh]at h1;simp at h1;exact⟨z,hh,by rw[h1];exact h2⟩
  · rintro⟨y,h1,h2⟩;exact⟨y.e,map_e h1,h2⟩
 have e2:(true=true∧Xq p.horizon q lo hi x.e∧(Xz true p.horizon q lo hi (p.ents.map (·.e)) j<0∨∃y:Zh,(p.ents.map (·.e))[(Xz true p.horizon q lo hi (p.ents.map (·.e)) j).toNat]?=some y∧y.fr<x.e.fr))↔(Xq p.horizon q lo hi x.e∧(p.ans q lo hi j<0∨∃y:Zu,p.ents[(p.ans q lo hi j).toNat]?=some y∧y.e.fr<x.e.fr)):=by
  rw[←e];exact⟨fun h=>h.2,fun h=>⟨rfl,h⟩⟩
 by_cases hc:Xq p.horizon q lo hi x.e∧(p.ans q lo hi j<0∨∃y:Zu,p.ents[(p.ans q lo hi j).toNat]?=some y∧y.e.fr<x.e.fr)
 · rw[if_pos hc];exact if_pos (e2.mpr hc)
 · rw[if_neg hc];exact if_neg fun h=>hc (e2.mp h)
theorem Zgz (w:World)(b k g:Nat)(D:Ze)(nd:Zn)(q:ByteArray)(lo hi:Nat)(h:Dev w b D)(hnd:D.nodes[k]?=some nd)(ho:D.vn.ownBlock=some g)(hn:nd.p.ents.length≤1000)(hfit:∀x∈nd.p.ents,x.e.Fit∧x.e.fr≤lastE x.e nd.p.horizon)(hlo:lo≤hi):
 Calls Tryz.prog 135 #[.pointer (some ⟨g,k*8,none⟩),.string q,.agg #[.int .u64 (lo:Int),.int .u64 (hi:Int)]] w fun e w'=>Zbp w nd q lo hi e w':=by
 have c5:w.cell? ⟨g,k*8+5,none⟩=some nd.en:=h.nodeC hnd ho 5 (by omega) _ rfl;have c2:w.cell? ⟨g,k*8+2,none⟩=some (.int .u64 (nd.p.horizon:Int)):=h.nodeC hnd ho 2 (by omega) _ rfl;obtain⟨ae,ce,hve,hp⟩:=(h.ents nd (List.mem_of_getElem? hnd)).helds;rw[hve]at c5;have HP:=hid hp;have HOWN:Hid (∀ge,ae=some ⟨ge,0,none⟩→nd.en.ownBlock=some ge):=fun ge e=>by rw[hve,e];rfl
 have HF:=hid hfit;obtain⟨A,hA⟩:∃A:Nat→Int,∀i,A i=nd.p.ans q lo hi i:=⟨_,fun _=>rfl⟩;have HA:=hid hA;have HAL:Hid (∀j,-1≤A j∧A j<(j:Int)):=fun j=>by rw[hA];exact ZbI true nd.p.horizon q lo hi (nd.p.ents.map (·.e)) j
 have HNX:Hid (∀j x,nd.p.ents[j]?=some x→A (j+1)=if Xq nd.p.horizon q lo hi x.e∧(A j<0∨∃y:Zu,nd.p.ents[(A j).toNat]?=some y∧y.e.fr<x.e.fr)then(j:Int)else A j):=fun j x hx=>by rw[hA,hA];exact Zjb nd.p q lo hi j x hx
 have c5a:∀o:Obj,(w.alloc o).cell? ⟨g,k*8+5,none⟩=some (.slice ae nd.p.ents.length ce):=fun o=>Zg c5;have hgl:g<w.heap.size:=World.block_lt_of_cell? w _ c5;clear h hnd ho hve hA hp hfit;go_enter Tryz.func135,Tryz.ntmps135;go_wp2
 go_loopw [7,16] (fun bv jv wr=>∃j:Nat,j≤nd.p.ents.length∧jv=.int .i64 j∧((A j<0∧bv=.pointer none)∨∃(i ge:Nat),A j=(i:Int)∧ae=some ⟨ge,0,none⟩∧bv=.pointer (some ⟨ge,i*7,none⟩))∧Hid (Za (fun _=>False) w wr∧Blk wr w.heap.size 88 #[.int .u64 (lo:Int),.int .u64 (hi:Int)])) (fun _ jv _=>nd.p.ents.length-(intOf jv).toNat)
 case atStart=>exact⟨0,Nat.zero_le _,rfl,.inl ⟨by rw[HA.out];exact(by decide:(-1:Int)<0),rfl⟩,Za.alloc _ _ _,Blk.new _ _ _⟩
 case round=>
  obtain⟨j,hj,rfl,hbest,HK⟩:=hrel;by_cases hlt:j<nd.p.ents.length
  · obtain⟨ge,hae,hgel,hce⟩:=HP.out j hlt;obtain⟨x,hx⟩:∃x,x=nd.p.ents[j]:=⟨_,rfl⟩;have hx':nd.p.ents[j]?=some x:=by rw[hx];exact List.getElem?_eq_getElem hlt
    obtain⟨hxf,hfl⟩:=HF.out x (List.mem_of_getElem? hx');rw[←hx]at hce;obtain⟨x0,x1,x2,x3,x4,x5,x6⟩:=ZbM (w:=wr) (ge:=ge) (o:=j*7) (x:=x) fun f hf=>HK.out.1.hold' (hce f hf) hf;have d5:=HK.out.1.hold c5;have d2:=HK.out.1.hold c2;have hj0:(0:Int)≤(j:Int):=by omega
    have hj1:(j:Int)<(nd.p.ents.length:Int):=by omega
    have HS:=HNX.out j x hx';obtain⟨L,hL⟩:∃L,L=lastE x.e nd.p.horizon:=⟨_,rfl⟩;have HCO:Hid (∀W,W.cell? ⟨g,k*8+2,none⟩=some (.int .u64 (nd.p.horizon:Int))→Calls Tryz.prog 137 #[.pointer (some ⟨g,k*8,none⟩),.agg #[.string x.e.q,.int .i32 x.e.val,.int .u64 (x.e.fr:Int),.int .u64 (x.e.till:Int),.bool x.e.op,.int .u64 (x.e.kn:Int)]] W fun e w'=>e=.returned (.agg #[.int .u64 (x.e.fr:Int),.int .u64 (L:Int)])∧Za (fun _=>False) W w'):=fun W hc=>by rw[hL];exact Zix W g (k*8) x.e nd.p.horizon hxf hc
    have HM:Hid (x.e.q=q→x.e.fr≤hi→lo≤L→Xq nd.p.horizon q lo hi x.e):=fun hq h1 h2=>⟨hq,by rw[←hL];rw[←hL]at hfl;omega⟩;have HM2:Hid (Xq nd.p.horizon q lo hi x.e→x.e.q=q∧x.e.fr≤hi∧lo≤L):=fun hm=>⟨hm.1,by have:=hm.2;rw[←hL]at this;omega⟩;have HS':Hid (A (j+1)=if Xq nd.p.horizon q lo hi x.e∧(A j<0∨∃y:Zu,nd.p.ents[(A j).toNat]?=some y∧y.e.fr<x.e.fr)then(j:Int)else A j):=HS;clear hx hxf hfl hL hce hx' HS;subst hae;have HBEST:=hid hbest;have HCALL:Hid (∀W,Za (fun _=>False) wr W→Calls Tryz.prog 137 #[.pointer (some ⟨g,k*8,none⟩),.agg #[.string x.e.q,.int .i32 x.e.val,.int .u64 (x.e.fr:Int),.int .u64 (x.e.till:Int),.bool x.e.op,.int .u64 (x.e.kn:Int)]] W fun e w'=>e=.returned (.agg #[.int .u64 (x.e.fr:Int),.int .u64 (L:Int)])∧Za (fun _=>False) W w'):=fun W hW=>HCO.out W (hW.hold d2);by_cases hm:x.e.q=q∧x.e.fr≤hi∧lo≤L
    · obtain⟨m1,m2,m3⟩:=hm;have HMT:Hid (Xq nd.p.horizon q lo hi x.e):=HM.out m1 m2 m3;have hqb:(x.e.q.toList !=q.toList)=false:=by rw[m1];simp
      have hqb':(x.e.q.toList==q.toList)=true:=by rw[m1];simp
      have hd1:decide ((hi:Int)<(x.e.fr:Int))=false:=by simp;omega
      have hd2:decide ((L:Int)<(lo:Int))=false:=by simp;omega
      clear m1 hbest;rcases HBEST.out with⟨hneg,rfl⟩|⟨i,ge',hi',hge',rfl⟩
      · have HRES:Hid (A (j+1)=(j:Int)):=by show _=_;rw[HS'.out,if_pos ⟨HMT.out,.inl hneg⟩]
        clear hneg
        go_wp2_with (go_at_call 137;refine(HCALL.out _ (Za.refl _ _)).mono ?_;rintro e w1 ⟨rfl,hk1⟩;have HK1:Hid (Za (fun _=>False) w w1∧Blk w1 w.heap.size 88 #[.int .u64 (lo:Int),.int .u64 (hi:Int)]):=⟨HK.out.1.trans hk1 (fun _=>id) (fun _ _=>id),HK.out.2.kept hk1 id⟩;have v0:=hk1.hold x0;have v2:=hk1.hold x2;have s0:w1.cell? ⟨w.heap.size,0,none⟩=some (.int .u64 (lo:Int)):=HK1.out.2.cell 0;have s1:w1.cell? ⟨w.heap.size,1,none⟩=some (.int .u64 (hi:Int)):=HK1.out.2.cell 1;have ssz:w.heap.size<w1.heap.size:=HK1.out.2.lt;have gsz:ge<w1.heap.size:=World.block_lt_of_cell? w1 _ v0;clear hk1)
        go_quiet (fail)
        go_wp2
        go_roundw
        case rel=>exact⟨j+1,by omega,by go_num,.inr ⟨j,ge,HRES.out,rfl,rfl⟩,(HK1.out.1.allocNew _).drewN _,HK1.out.2.kept ((Za.alloc _ _ (fun _=>False)).drewN _) id⟩
        case measure=>simp[intOf];omega
      · obtain rfl:ge=ge':=by injection hge' with e1;injection e1
        have hil:i<j:=by have:=(HAL.out j).2;omega
        obtain⟨ge2,hae2,_,hce2⟩:=HP.out i (by omega);obtain rfl:ge=ge2:=by injection hae2 with e1;injection e1
        obtain⟨y,hy⟩:∃y,y=nd.p.ents[i]'(by omega):=⟨_,rfl⟩;rw[←hy]at hce2;have z2:wr.cell? ⟨ge,i*7+2,none⟩=some (.int .u64 (y.e.fr:Int)):=HK.out.1.hold (hce2 2 (by omega));have HY:Hid (nd.p.ents[i]?=some y):=by show _=_;rw[hy];exact List.getElem?_eq_getElem (by omega)
        clear hy hce2 hae2 hge';by_cases hfr:y.e.fr<x.e.fr
        · have HRES:Hid (A (j+1)=(j:Int)):=by show _=_;rw[HS'.out,if_pos ⟨HMT.out,.inr ⟨y,by rw[hi'];exact HY.out,hfr⟩⟩]
          have hd4:(y.e.fr:Int)<(x.e.fr:Int):=by omega
          clear hi'
          go_wp2_with (go_at_call 137;refine(HCALL.out _ (Za.refl _ _)).mono ?_;rintro e w1 ⟨rfl,hk1⟩;have HK1:Hid (Za (fun _=>False) w w1∧Blk w1 w.heap.size 88 #[.int .u64 (lo:Int),.int .u64 (hi:Int)]):=⟨HK.out.1.trans hk1 (fun _=>id) (fun _ _=>id),HK.out.2.kept hk1 id⟩;have v0:=hk1.hold x0;have v2:=hk1.hold x2;have v3:=hk1.hold z2;have s0:w1.cell? ⟨w.heap.size,0,none⟩=some (.int .u64 (lo:Int)):=HK1.out.2.cell 0;have s1:w1.cell? ⟨w.heap.size,1,none⟩=some (.int .u64 (hi:Int)):=HK1.out.2.cell 1;have ssz:w.heap.size<w1.heap.size:=HK1.out.2.lt;have gsz:ge<w1.heap.size:=World.block_lt_of_cell? w1 _ v0;clear hk1)
          go_quiet (fail)
          go_wp2
          go_roundw
          case rel=>exact⟨j+1,by omega,by go_num,.inr ⟨j,ge,HRES.out,rfl,rfl⟩,(HK1.out.1.allocNew _).drewN _,HK1.out.2.kept ((Za.alloc _ _ (fun _=>False)).drewN _) id⟩
          case measure=>simp[intOf];omega
        · have HRES:Hid (A (j+1)=(i:Int)):=by
           show _=_;rw[HS'.out,if_neg,hi'];rintro⟨_,h1|⟨y',h1,h2⟩⟩
           · omega
           · rw[hi']at h1;have:nd.p.ents[i]?=some y':=h1;rw[HY.out]at this;injection this with this;subst this;exact hfr h2
          have hd3:x.e.fr≤y.e.fr:=by omega
          have hd4:¬(y.e.fr:Int)<(x.e.fr:Int):=by omega
          clear hi'
          go_wp2_with (go_at_call 137;refine(HCALL.out _ (Za.refl _ _)).mono ?_;rintro e w1 ⟨rfl,hk1⟩;have HK1:Hid (Za (fun _=>False) w w1∧Blk w1 w.heap.size 88 #[.int .u64 (lo:Int),.int .u64 (hi:Int)]):=⟨HK.out.1.trans hk1 (fun _=>id) (fun _ _=>id),HK.out.2.kept hk1 id⟩;have v0:=hk1.hold x0;have v2:=hk1.hold x2;have v3:=hk1.hold z2;have s0:w1.cell? ⟨w.heap.size,0,none⟩=some (.int .u64 (lo:Int)):=HK1.out.2.cell 0;have s1:w1.cell? ⟨w.heap.size,1,none⟩=some (.int .u64 (hi:Int)):=HK1.out.2.cell 1;have ssz:w.heap.size<w1.heap.size:=HK1.out.2.lt;have gsz:ge<w1.heap.size:=World.block_lt_of_cell? w1 _ v0;clear hk1)
          go_quiet (fail)
          go_wp2
          go_roundw
          case rel=>exact⟨j+1,by omega,by go_num,.inr ⟨i,ge,HRES.out,rfl,rfl⟩,(HK1.out.1.allocNew _).drewN _,HK1.out.2.kept ((Za.alloc _ _ (fun _=>False)).drewN _) id⟩
          case measure=>simp[intOf];omega
    · have HRES:Hid (A (j+1)=A j):=by show _=_;rw[HS'.out,if_neg];rintro⟨h1,_⟩;exact hm (HM2.out h1)
      have hcs:((x.e.q.toList !=q.toList)=true∧(x.e.q.toList==q.toList)=false)∨((x.e.q.toList !=q.toList)=false∧(x.e.q.toList==q.toList)=true∧hi<x.e.fr)∨((x.e.q.toList !=q.toList)=false∧(x.e.q.toList==q.toList)=true∧x.e.fr≤hi∧L<lo):=by
       by_cases h1:x.e.q=q
       · by_cases h2:x.e.fr≤hi
         · refine .inr (.inr ⟨by rw[h1];simp,by rw[h1];simp,h2,?_⟩);have:¬lo≤L:=fun h3=>hm ⟨h1,h2,h3⟩;omega
         · exact .inr (.inl ⟨by rw[h1];simp,by rw[h1];simp,by omega⟩)
       · have h2:(x.e.q.toList==q.toList)=false:=beq_eq_false_iff_ne.mpr fun h=>h1 (XU h);exact .inl ⟨by rw[bne,h2];rfl,h2⟩
      have HB2:Hid ((A (j+1)<0∧u7=.pointer none)∨∃(i ge':Nat),A (j+1)=(i:Int)∧(some ⟨ge,0,none⟩:Option Addr)=some ⟨ge',0,none⟩∧u7=.pointer (some ⟨ge',i*7,none⟩)):=by rw[HRES.out];exact HBEST.out
      clear hm hbest;rcases hcs with⟨hq1,hq2⟩|⟨hq1,hq2,hq3⟩|⟨hq1,hq2,hq3,hq4⟩<;>
      · go_wp2_with (go_at_call 137;refine(HCALL.out _ (Za.refl _ _)).mono ?_;rintro e w1 ⟨rfl,hk1⟩;have HK1:Hid (Za (fun _=>False) w w1∧Blk w1 w.heap.size 88 #[.int .u64 (lo:Int),.int .u64 (hi:Int)]):=⟨HK.out.1.trans hk1 (fun _=>id) (fun _ _=>id),HK.out.2.kept hk1 id⟩;have v0:=hk1.hold x0;have v2:=hk1.hold x2;have s0:w1.cell? ⟨w.heap.size,0,none⟩=some (.int .u64 (lo:Int)):=HK1.out.2.cell 0;have s1:w1.cell? ⟨w.heap.size,1,none⟩=some (.int .u64 (hi:Int)):=HK1.out.2.cell 1;have ssz:w.heap.size<w1.heap.size:=HK1.out.2.lt;have gsz:ge<w1.heap.size:=World.block_lt_of_cell? w1 _ v0;clear hk1)
        go_roundw
        case rel=>exact⟨j+1,by omega,by go_num,HB2.out,HK1.out.1.allocNew _,HK1.out.2.kept (Za.alloc _ _ (fun _=>False)) id⟩
        case measure=>simp[intOf];omega
  · have hjn:j=nd.p.ents.length:=by omega
    subst hjn;have HPO:Hid (∀e,((A nd.p.ents.length<0∧e=.returned (.pointer none))∨∃(i ge:Nat),A nd.p.ents.length=(i:Int)∧ae=some ⟨ge,0,none⟩∧e=.returned (.pointer (some ⟨ge,i*7,none⟩)))→Zbp w nd q lo hi e wr):=fun e he=>by
     refine⟨HK.out.1,?_⟩;rw[←HA.out];rcases he with h1|⟨i,ge,h1,h2,h3⟩
     · exact .inl h1
     · have hil:i<nd.p.ents.length:=by have:=(HAL.out nd.p.ents.length).2;omega
       exact .inr ⟨i,nd.p.ents[i],ge,h1,List.getElem?_eq_getElem hil,HOWN.out ge h2,h3⟩
    rcases hbest with⟨h1,rfl⟩|⟨i,ge,h1,h2,rfl⟩
    · have H1:=hid h1;clear h1;go_wp2;go_ret;exact HPO.out _ (.inl ⟨H1.out,rfl⟩)
    · have H1:Hid (A nd.p.ents.length=(i:Int)∧ae=some ⟨ge,0,none⟩):=⟨h1,h2⟩;clear h1 h2;go_wp2;go_ret;exact HPO.out _ (.inr ⟨i,ge,H1.out.1,H1.out.2,rfl⟩)
def XO (r:Option Zh):Value:=match r with
 |none=>.tuple #[.agg #[.string ⟨#[]⟩,.int .i32 0,.int .u64 0,.int .u64 0,.bool false,.int .u64 0],.bool false]
 |some y=>.tuple #[.agg #[.string y.q,.int .i32 y.val,.int .u64 (y.fr:Int),.int .u64 (y.till:Int),.bool y.op,.int .u64 (y.kn:Int)],.bool true]
structure YS (w wr:World)(y:Zh):Prop where
 kept:Za (fun _=>False) w wr
 put:Blk wr w.heap.size 55 #[.string y.q,.int .i32 y.val,.int .u64 (y.fr:Int),.int .u64 (y.till:Int),.bool y.op,.int .u64 (y.kn:Int)]
 res:Blk wr (w.heap.size+1) 55 #[.string ⟨#[]⟩,.int .i32 0,.int .u64 0,.int .u64 0,.bool false,.int .u64 0]
theorem YS.more {w wr w':World}{y:Zh}(h:YS w wr y)(k:Za (fun _=>False) wr w'):YS w w' y:=⟨h.kept.trans k (fun _=>id) (fun _ _=>id),h.put.kept k id,h.res.kept k id⟩
theorem YS.set {w wr:World}{y y':Zh}(h:YS w wr y)(f:Nat)(v:Value)(he:(#[.string y.q,.int .i32 y.val,.int .u64 (y.fr:Int),.int .u64 (y.till:Int),.bool y.op,.int .u64 (y.kn:Int)]:Array Value).setIfInBounds f v=#[.string y'.q,.int .i32 y'.val,.int .u64 (y'.fr:Int),.int .u64 (y'.till:Int),.bool y'.op,.int .u64 (y'.kn:Int)]):YS w (wr.setCell ⟨w.heap.size,f,none⟩ v) y':=
 ⟨h.kept.setNew _ f v (Nat.le_refl _),by rw[←he];exact h.put.set f v,h.res.kept (Za.setCell wr ⟨w.heap.size,f,none⟩ v) (by simp)⟩
theorem YS.cells {w wr:World}{y:Zh}(h:YS w wr y):wr.cell? ⟨w.heap.size,0,none⟩=some (.string y.q)∧wr.cell? ⟨w.heap.size,1,none⟩=some (.int .i32 y.val)∧wr.cell? ⟨w.heap.size,2,none⟩=some (.int .u64 (y.fr:Int))∧wr.cell? ⟨w.heap.size,3,none⟩=some (.int .u64 (y.till:Int))∧wr.cell? ⟨w.heap.size,4,none⟩=some (.bool y.op)∧wr.cell? ⟨w.heap.size,5,none⟩=some (.int .u64 (y.kn:Int))∧(∀f,wr.frozen? ⟨w.heap.size,f,none⟩=false)∧w.heap.size+1<wr.heap.size:=
 ⟨h.put.cell 0,h.put.cell 1,h.put.cell 2,h.put.cell 3,h.put.cell 4,h.put.cell 5,fun f=>h.put.free f,h.res.lt⟩
theorem YS.rcells {w wr:World}{y:Zh}(h:YS w wr y):wr.cell? ⟨w.heap.size+1,0,none⟩=some (.string ⟨#[]⟩)∧wr.cell? ⟨w.heap.size+1,1,none⟩=some (.int .i32 0)∧wr.cell? ⟨w.heap.size+1,2,none⟩=some (.int .u64 0)∧wr.cell? ⟨w.heap.size+1,3,none⟩=some (.int .u64 0)∧wr.cell? ⟨w.heap.size+1,4,none⟩=some (.bool false)∧wr.cell? ⟨w.heap.size+1,5,none⟩=some (.int .u64 0)∧(∀f,wr.frozen? ⟨w.heap.size+1,f,none⟩=false):=
 ⟨h.res.cell 0,h.res.cell 1,h.res.cell 2,h.res.cell 3,h.res.cell 4,h.res.cell 5,fun f=>h.res.free f⟩
theorem XQ (w W:World)(k:Za (fun _=>False) w W)(v0 v1 v2 v3 v4 v5:Value):Za (fun _=>False) w ((((((W.setCell ⟨w.heap.size+1,0,none⟩ v0).setCell ⟨w.heap.size+1,1,none⟩ v1).setCell ⟨w.heap.size+1,2,none⟩ v2).setCell ⟨w.heap.size+1,3,none⟩ v3).setCell ⟨w.heap.size+1,4,none⟩ v4).setCell ⟨w.heap.size+1,5,none⟩ v5):=
 (((((k.setNew _ 0 v0 (by omega)).setNew _ 1 v1 (by omega)).setNew _ 2 v2 (by omega)).setNew _ 3 v3 (by omega)).setNew _ 4 v4 (by omega)).setNew _ 5 v5 (by omega)
theorem YS.start (w:World)(e:Zh):YS w ((w.alloc (.cells #[.string e.q,.int .i32 e.val,.int .u64 (e.fr:Int),.int .u64 (e.till:Int),.bool e.op,.int .u64 (e.kn:Int)] 55)).alloc (.cells #[.string ⟨#[]⟩,.int .i32 0,.int .u64 0,.int .u64 0,.bool false,.int .u64 0] 55)) e:=by
 refine⟨(Za.alloc _ _ _).allocNew _,(Blk.new w _ _).kept (Za.alloc _ _ (fun _=>False)) id,?_⟩;have:=Blk.new (w.alloc (.cells #[.string e.q,.int .i32 e.val,.int .u64 (e.fr:Int),.int .u64 (e.till:Int),.bool e.op,.int .u64 (e.kn:Int)] 55)) 55 #[.string ⟨#[]⟩,.int .i32 0,.int .u64 0,.int .u64 0,.bool false,.int .u64 0];simp only[World.size_alloc]at this;exact this
theorem Zdy (w:World)(g o:Nat)(p:Zb)(e:Zh)(hc2:w.cell? ⟨g,o+2,none⟩=some (.int .u64 (p.horizon:Int)))(hs:e.op=false∨p.horizon≤e.kn):
 Calls Tryz.prog 142 #[.pointer (some ⟨g,o,none⟩),.agg #[.string e.q,.int .i32 e.val,.int .u64 (e.fr:Int),.int .u64 (e.till:Int),.bool e.op,.int .u64 (e.kn:Int)]] w fun e' w'=>e'=.returned (XO (p.caught e))∧Za (fun _=>False) w w':=by
 have HE:Hid (p.caught e=some e):=by show _=_;rw[Zb.caught,if_pos hs]
 have hgl:g<w.heap.size:=World.block_lt_of_cell? w _ hc2;have HV:Hid (XO (some e)=.tuple #[.agg #[.string e.q,.int .i32 e.val,.int .u64 (e.fr:Int),.int .u64 (e.till:Int),.bool e.op,.int .u64 (e.kn:Int)],.bool true]):=rfl;have HST:=YS.start w e;have HS:=hid HST;clear HST;rcases hs with hs|hs
 · obtain⟨q,val,fr,till,op,kn⟩:=e;dsimp only at*
   subst hs;go_enter Tryz.func142,Tryz.ntmps142
   go_wp2_with fail
   have hcs:=HS.out.kept.hold hc2;obtain⟨y0,y1,y2,y3,y4,y5,yf,ysz⟩:=HS.out.cells;obtain⟨z0,z1,z2,z3,z4,z5,zf⟩:=HS.out.rcells;generalize ((w.alloc (.cells #[.string q,.int .i32 val,.int .u64 (fr:Int),.int .u64 (till:Int),.bool false,.int .u64 (kn:Int)] 55)).alloc (.cells #[.string ⟨#[]⟩,.int .i32 0,.int .u64 0,.int .u64 0,.bool false,.int .u64 0] 55))=W at HS hcs y0 y1 y2 y3 y4 y5 yf ysz z0 z1 z2 z3 z4 z5 zf⊢
   go_quiet (fail)
   go_wp2;refine bodyPost_ret (v:=.tuple #[.agg #[.string q,.int .i32 val,.int .u64 (fr:Int),.int .u64 (till:Int),.bool false,.int .u64 (kn:Int)],.bool true]) (by simp[results,Tryz.results142,go_sem, *]) rfl ⟨by rw[HE.out,HV.out],?_⟩;exact XQ w _ (HS.out.kept.drewN _) _ _ _ _ _ _
 · cases hop:e.op with
   |false=>
    obtain⟨q,val,fr,till,op,kn⟩:=e;dsimp only at*
    subst hop;go_enter Tryz.func142,Tryz.ntmps142
    go_wp2_with fail
    have hcs:=HS.out.kept.hold hc2;obtain⟨y0,y1,y2,y3,y4,y5,yf,ysz⟩:=HS.out.cells;obtain⟨z0,z1,z2,z3,z4,z5,zf⟩:=HS.out.rcells;generalize ((w.alloc (.cells #[.string q,.int .i32 val,.int .u64 (fr:Int),.int .u64 (till:Int),.bool false,.int .u64 (kn:Int)] 55)).alloc (.cells #[.string ⟨#[]⟩,.int .i32 0,.int .u64 0,.int .u64 0,.bool false,.int .u64 0] 55))=W at HS hcs y0 y1 y2 y3 y4 y5 yf ysz z0 z1 z2 z3 z4 z5 zf⊢
    go_quiet (fail)
    go_wp2;refine bodyPost_ret (v:=.tuple #[.agg #[.string q,.int .i32 val,.int .u64 (fr:Int),.int .u64 (till:Int),.bool false,.int .u64 (kn:Int)],.bool true]) (by simp[results,Tryz.results142,go_sem, *]) rfl ⟨by rw[HE.out,HV.out],?_⟩;exact XQ w _ (HS.out.kept.drewN _) _ _ _ _ _ _
   |true=>
    obtain⟨q,val,fr,till,op,kn⟩:=e;dsimp only at*
    subst hop;have hd:decide ((p.horizon:Int)≤(kn:Int))=true:=by simpa using hs
    have hd':decide (p.horizon≤kn)=true:=by simpa using hs
    go_enter Tryz.func142,Tryz.ntmps142
    go_wp2_with fail
    have hcs:=HS.out.kept.hold hc2;obtain⟨y0,y1,y2,y3,y4,y5,yf,ysz⟩:=HS.out.cells;obtain⟨z0,z1,z2,z3,z4,z5,zf⟩:=HS.out.rcells;generalize ((w.alloc (.cells #[.string q,.int .i32 val,.int .u64 (fr:Int),.int .u64 (till:Int),.bool true,.int .u64 (kn:Int)] 55)).alloc (.cells #[.string ⟨#[]⟩,.int .i32 0,.int .u64 0,.int .u64 0,.bool false,.int .u64 0] 55))=W at HS hcs y0 y1 y2 y3 y4 y5 yf ysz z0 z1 z2 z3 z4 z5 zf⊢
    go_quiet (fail)
    go_wp2;refine bodyPost_ret (v:=.tuple #[.agg #[.string q,.int .i32 val,.int .u64 (fr:Int),.int .u64 (till:Int),.bool true,.int .u64 (kn:Int)],.bool true]) (by simp[results,Tryz.results142,go_sem, *]) rfl ⟨by rw[HE.out,HV.out],?_⟩;exact XQ w _ (HS.out.kept.drewN _) _ _ _ _ _ _
theorem kdrewA {W w:World}{n:Nat}(h:Za (fun _=>False) (W.drewN n) w):Za (fun _=>False) W w:=((Za.refl (fun _=>False) W).drewN n).trans h (fun _=>id) (fun _ _=>id)
theorem ZZ {w:World}{g f b o:Nat}{v v':Value}(hb:b≠g)(h:w.cell? ⟨b,o,none⟩=some v):(w.setCell ⟨g,f,none⟩ v').cell? ⟨b,o,none⟩=some v:=
 (World.cell?_of_block (a:=⟨b,o,none⟩) ((Za.setCell w ⟨g,f,none⟩ v').block b (World.block_lt_of_cell? w _ h) hb)).trans h
theorem Zgw (w:World)(g o:Nat)(p:Zb)(vh:Value)(e:Zh)(hc2:w.cell? ⟨g,o+2,none⟩=some (.int .u64 (p.horizon:Int)))(hc3:w.cell? ⟨g,o+3,none⟩=some vh)(hr:Row w 244 2 vh p.hists.length (p.hists.flatMap Zp))(hl:p.hists.length≤1000)(hz:p.horizon≤1000000)(hq:e.q.size≤maxLen)(hop:e.op=true)(hkn:e.kn<p.horizon):
 Calls Tryz.prog 142 #[.pointer (some ⟨g,o,none⟩),.agg #[.string e.q,.int .i32 e.val,.int .u64 (e.fr:Int),.int .u64 (e.till:Int),.bool e.op,.int .u64 (e.kn:Int)]] w fun e' w'=>e'=.returned (XO (p.caught e))∧Za (fun _=>False) w w':=by
 have hgl:g<w.heap.size:=World.block_lt_of_cell? w _ hc2;obtain⟨KQ,hKQ⟩:∃KQ,KQ=Xk e.q:=⟨_,rfl⟩;obtain⟨N,hN⟩:∃N,N=p.horizon-e.kn:=⟨_,rfl⟩;obtain⟨z,hzz⟩:∃z,z=p.horizon:=⟨_,rfl⟩;obtain⟨H,hH⟩:∃H,H=p.hists:=⟨_,rfl⟩;obtain⟨R,hR⟩:∃R,R=Zb.caughtGo H KQ N (e.kn+1) e:=⟨_,rfl⟩;have HE:Hid (p.caught e=R.map fun y=>if y.op then {y with kn:=z}else y):=by show _=_;rw[Zb.caught,if_neg (by rw[hop];simp;omega),hR,hH,hKQ,hN,hzz]
 have HWR:Hid (∀W t,Za (fun _=>False) w W→Calls Tryz.prog 161 #[.pointer (some ⟨g,o,none⟩),.int .u64 ((t:Nat):Int)] W fun e w'=>e=.returned (ZiQ (Yu H t))∧Za (fun _=>False) W w'):=fun W t hW=>by
  rw[hH];exact dwrote W g o vh p.hists t (hW.hold hc3) (hr.kept hW (fun _ _=>id)) hl
 have HQ:Hid (∀W,Calls Tryz.prog 71 #[.string e.q] W fun e w'=>∃n er:Int,e=.returned (.tuple #[.agg #[.int .u8 KQ,.int .i64 n],.int .i64 er])∧Za (fun _=>False) W w'):=fun W=>by rw[hKQ];exact Zjf _ W hq
 have HC2:Hid (∀W,Za (fun _=>False) w W→W.cell? ⟨g,o+2,none⟩=some (.int .u64 (z:Int))):=fun W hW=>by rw[hzz];exact hW.hold hc2
 have HS:Hid (YS w ((w.alloc (.cells #[.string e.q,.int .i32 e.val,.int .u64 (e.fr:Int),.int .u64 (e.till:Int),.bool e.op,.int .u64 (e.kn:Int)] 55)).alloc (.cells #[.string ⟨#[]⟩,.int .i32 0,.int .u64 0,.int .u64 0,.bool false,.int .u64 0] 55)) e):=YS.start w e;have HEND:Hid (∀n (y:Zh),n=N→Zb.caughtGo H KQ (N-n) (e.kn+1+n) y=R→p.caught e=some (if y.op then {y with kn:=z}else y)):=fun n y hn hg=>by
  rw[hn,Nat.sub_self]at hg;rw[HE.out,←hg];rfl
 have HNONE:Hid (∀n (y:Zh),n<N→Zb.caughtGo H KQ (N-n) (e.kn+1+n) y=R→Yu H (e.kn+1+n)=none→p.caught e=none):=fun n y hn hg hw=>by
  have e1:N-n=(N-(n+1))+1:=by omega
  rw[e1,Zb.caughtGo,hw]at hg;rw[HE.out,←hg];rfl
 have HNEXT:Hid (∀n (y y':Zh)(k:Int),n<N→Zb.caughtGo H KQ (N-n) (e.kn+1+n) y=R→Yu H (e.kn+1+n)=some k→y'=(if y.op=true∧(bits .and .u8 k KQ !=0)=true then {y with op:=false,till:=e.kn+1+n}else y)→Zb.caughtGo H KQ (N-(n+1)) (e.kn+1+(n+1)) y'=R):=fun n y y' k hn hg hw hy=>by
  have e1:N-n=(N-(n+1))+1:=by omega
  rw[e1,Zb.caughtGo,hw]at hg;rw[hy,←hg];rfl
 have hNz:e.kn+N=z:=by omega
 obtain⟨ek,hek⟩:∃ek,ek=e.kn:=⟨_,rfl⟩;have HR0:Hid (Zb.caughtGo H KQ (N-0) (ek+1+0) e=R):=by rw[hek];exact hR.symm
 have hd:decide ((z:Int)≤(e.kn:Int))=false:=by simp;omega
 have hd':decide (z≤e.kn)=false:=by simp;omega
 rw[←hek]at HEND HNONE HNEXT hNz hd hd';rw[←hzz]at hz hc2;have hkz:ek<z:=by omega
 clear hr hl hq hkn hKQ hN hzz hH hR hc3 HE;obtain⟨q,val,fr,till,op,kn⟩:=e;dsimp only at*
 subst hop hek;go_enter Tryz.func142,Tryz.ntmps142
 go_wp2_with fail
 have hcs:=HC2.out _ HS.out.kept;obtain⟨y0,y1,y2,y3,y4,y5,yf,ysz⟩:=HS.out.cells;generalize ((w.alloc (.cells #[.string q,.int .i32 val,.int .u64 (fr:Int),.int .u64 (till:Int),.bool true,.int .u64 (ek:Int)] 55)).alloc (.cells #[.string ⟨#[]⟩,.int .i32 0,.int .u64 0,.int .u64 0,.bool false,.int .u64 0] 55))=W at HS hcs y0 y1 y2 y3 y4 y5 yf ysz⊢
 go_quiet (fail)
 go_wp2_with (go_at_call 71;refine(HQ.out _).mono ?_;rintro e' w1 ⟨n1,er,rfl,hk1⟩;have HS1:Hid (YS w w1 ⟨q,val,fr,till,true,ek⟩):=HS.out.more (kdrewA hk1);have x5:w1.cell? ⟨w.heap.size,5,none⟩=some (.int .u64 (ek:Int)):=HS1.out.cells.2.2.2.2.2.1;have xsz:w.heap.size<w1.heap.size:=(by have:=HS1.out.res.lt;omega);clear hk1)
 have HS2:Hid (YS w (w1.alloc (.cells #[.int .u8 KQ,.int .i64 n1] 70)) ⟨q,val,fr,till,true,ek⟩∧(w1.alloc (.cells #[.int .u8 KQ,.int .i64 n1] 70)).cell? ⟨w1.heap.size,0,none⟩=some (.int .u8 KQ)):=⟨HS1.out.more (Za.alloc _ _ _),by simp⟩;have hS2:w.heap.size+1<w1.heap.size:=HS1.out.res.lt;clear y0 y1 y2 y3 y4 y5 yf ysz hcs x5;generalize hWa:w1.alloc (.cells #[.int .u8 KQ,.int .i64 n1] 70)=Wa at HS2⊢;clear hWa;obtain⟨S,hS⟩:∃S,S=w1.heap.size:=⟨_,rfl⟩;rw[←hS]at HS2 hS2 xsz⊢;clear hS
 go_loopw [8] (fun tv wr=>∃(n:Nat)(y:Zh),n≤N∧tv=.int .u64 ((ek:Int)+1+(n:Int))∧Hid (YS w wr y∧wr.cell? ⟨S,0,none⟩=some (.int .u8 KQ)∧y.kn=ek∧Zb.caughtGo H KQ (N-n) (ek+1+n) y=R)) (fun tv _=>z+1-(intOf tv).toNat)
 case atStart=>exact⟨0,_,Nat.zero_le _,by go_num,HS2.out.1,HS2.out.2,rfl,HR0.out⟩
 case round=>
  obtain⟨n,y,hn,rfl,HB⟩:=hrel;have d2:=HC2.out wr HB.out.1.kept;obtain⟨y0,y1,y2,y3,y4,y5,yf,ysz⟩:=HB.out.1.cells;have s0:=HB.out.2.1;by_cases hlt:n<N
  · have hle:(ek:Int)+1+(n:Int)≤(z:Int):=by omega
    have HW1:=HWR.out wr (ek+1+n) HB.out.1.kept;have ecast:(((ek+1+n:Nat)):Int)=(ek:Int)+1+(n:Int):=by omega
    rw[ecast]at HW1;cases hwl:Yu H (ek+1+n)with
    |none=>
     rw[hwl]at HW1;have HW2:Hid (Calls Tryz.prog 161 #[.pointer (some ⟨g,o,none⟩),.int .u64 ((ek:Int)+1+(n:Int))] wr fun e w'=>e=.returned (.tuple #[.int .u8 0,.bool false])∧Za (fun _=>False) wr w'):=HW1;have HZ:Hid (p.caught ⟨q,val,fr,till,true,ek⟩=none):=HNONE.out n y hlt HB.out.2.2.2 hwl;clear hwl HW1 ecast
     go_wp2_with (go_at_call 161;refine HW2.out.mono ?_;rintro e' w3 ⟨rfl,hk3⟩;have HB3:Hid (YS w w3 y):=HB.out.1.more hk3;obtain⟨z0,z1,z2,z3,z4,z5,zf⟩:=HB3.out.rcells;clear hk3)
     refine bodyPost_ret (v:=.tuple #[.agg #[.string ⟨#[]⟩,.int .i32 0,.int .u64 0,.int .u64 0,.bool false,.int .u64 0],.bool false]) (by simp[results,Tryz.results142,go_sem, *]) rfl ⟨by rw[HZ.out];rfl,?_⟩;exact XQ w _ HB3.out.kept _ _ _ _ _ _
    |some k=>
     rw[hwl]at HW1;have HW2:Hid (Calls Tryz.prog 161 #[.pointer (some ⟨g,o,none⟩),.int .u64 ((ek:Int)+1+(n:Int))] wr fun e w'=>e=.returned (.tuple #[.int .u8 k,.bool true])∧Za (fun _=>False) wr w'):=HW1;have HNX:Hid (∀y',y'=(if y.op=true∧(bits .and .u8 k KQ !=0)=true then {y with op:=false,till:=ek+1+n}else y)→Zb.caughtGo H KQ (N-(n+1)) (ek+1+(n+1)) y'=R):=fun y' hy=>HNEXT.out n y y' k hlt HB.out.2.2.2 hwl hy;clear hwl HW1 ecast;by_cases hc:y.op=true∧(bits .and .u8 k KQ !=0)=true
     · obtain⟨hc1,hc2'⟩:=hc;rw[hc1]at y4;have HN2:Hid (Zb.caughtGo H KQ (N-(n+1)) (ek+1+(n+1)) {y with op:=false,till:=ek+1+n}=R):=HNX.out _ (by rw[if_pos ⟨hc1,hc2'⟩]);have HKN:=HB.out.2.2.1;have HKN':Hid (y.kn=ek):=HKN;clear hc1 HNX HKN
       go_wp2_with (go_at_call 161;refine HW2.out.mono ?_;rintro e' w3 ⟨rfl,hk3⟩;have HB3:Hid (YS w w3 y∧w3.cell? ⟨S,0,none⟩=some (.int .u8 KQ)):=⟨HB.out.1.more hk3,hk3.hold s0⟩;obtain⟨t0,t1,t2,t3,t4,t5,tf,tsz⟩:=HB3.out.1.cells;have v0:=HB3.out.2;have t4':w3.cell? ⟨w.heap.size,4,none⟩=some (.bool true):=hk3.hold y4;clear hk3 t4)
       go_roundw
       case rel=>
        refine⟨n+1,{y with op:=false,till:=ek+1+n},by omega,by go_num,?_,?_,HKN'.out,HN2.out⟩
        · have s1:=HB3.out.1.set (y':={y with op:=false}) 4 (.bool false) (by simp);have s2:=s1.set (y':={y with op:=false,till:=ek+1+n}) 3 (.int .u64 ((ek:Int)+1+(n:Int))) (by simp);exact s2
        · exact ZZ (by omega) (ZZ (by omega) HB3.out.2)
       case measure=>simp[intOf];omega
     · have HN2:Hid (Zb.caughtGo H KQ (N-(n+1)) (ek+1+(n+1)) y=R):=HNX.out _ (by rw[if_neg hc]);have HKN':Hid (y.kn=ek):=HB.out.2.2.1;have hcase:y.op=false∨(y.op=true∧(bits .and .u8 k KQ !=0)=false):=by
        cases h1:y.op with
        |false=>exact .inl rfl
        |true=>exact .inr ⟨rfl,by cases h2:(bits .and .u8 k KQ !=0)with
         |false=>rfl
         |true=>exact absurd ⟨h1,h2⟩ hc⟩
       clear hc HNX;rcases hcase with h1|⟨h1,h2⟩
       · rw[h1]at y4;clear h1
         go_wp2_with (go_at_call 161;refine HW2.out.mono ?_;rintro e' w3 ⟨rfl,hk3⟩;have HB3:Hid (YS w w3 y∧w3.cell? ⟨S,0,none⟩=some (.int .u8 KQ)):=⟨HB.out.1.more hk3,hk3.hold s0⟩;have v0:=HB3.out.2;have t4':w3.cell? ⟨w.heap.size,4,none⟩=some (.bool false):=hk3.hold y4;clear hk3)
         go_roundw
         case rel=>exact⟨n+1,y,by omega,by go_num,HB3.out.1,HB3.out.2,HKN'.out,HN2.out⟩
         case measure=>simp[intOf];omega
       · rw[h1]at y4;clear h1
         go_wp2_with (go_at_call 161;refine HW2.out.mono ?_;rintro e' w3 ⟨rfl,hk3⟩;have HB3:Hid (YS w w3 y∧w3.cell? ⟨S,0,none⟩=some (.int .u8 KQ)):=⟨HB.out.1.more hk3,hk3.hold s0⟩;have v0:=HB3.out.2;have t4':w3.cell? ⟨w.heap.size,4,none⟩=some (.bool true):=hk3.hold y4;clear hk3)
         go_roundw
         case rel=>exact⟨n+1,y,by omega,by go_num,HB3.out.1,HB3.out.2,HKN'.out,HN2.out⟩
         case measure=>simp[intOf];omega
  · have hnN:n=N:=by omega
    have HZ:Hid (p.caught ⟨q,val,fr,till,true,ek⟩=some (if y.op then {y with kn:=z}else y)):=HEND.out n y hnN HB.out.2.2.2;have hle:¬(ek:Int)+1+(n:Int)≤(z:Int):=by omega
    obtain⟨z0,z1,z2,z3,z4,z5,zf⟩:=HB.out.1.rcells;have HK:=HB.out.1.kept;have HK':Hid (Za (fun _=>False) w wr):=HK;clear HK;cases h1:y.op with
    |false=>
     rw[h1]at y4 HZ;have HVV:Hid (XO (p.caught ⟨q,val,fr,till,true,ek⟩)=.tuple #[.agg #[.string y.q,.int .i32 y.val,.int .u64 (y.fr:Int),.int .u64 (y.till:Int),.bool false,.int .u64 (y.kn:Int)],.bool true]):=by show _=_;rw[HZ.out];simp[XO,h1]
     clear h1 hnN;go_wp2;refine bodyPost_ret (v:=.tuple #[.agg #[.string y.q,.int .i32 y.val,.int .u64 (y.fr:Int),.int .u64 (y.till:Int),.bool false,.int .u64 (y.kn:Int)],.bool true]) (by simp[results,Tryz.results142,go_sem, *]) rfl ⟨by rw[HVV.out],?_⟩;exact XQ w _ HK'.out _ _ _ _ _ _
    |true=>
     rw[h1]at y4 HZ;have HVV:Hid (XO (p.caught ⟨q,val,fr,till,true,ek⟩)=.tuple #[.agg #[.string y.q,.int .i32 y.val,.int .u64 (y.fr:Int),.int .u64 (y.till:Int),.bool true,.int .u64 (z:Int)],.bool true]):=by show _=_;rw[HZ.out];simp[XO]
     clear h1 hnN;go_wp2;refine bodyPost_ret (v:=.tuple #[.agg #[.string y.q,.int .i32 y.val,.int .u64 (y.fr:Int),.int .u64 (y.till:Int),.bool true,.int .u64 (z:Int)],.bool true]) (by simp[results,Tryz.results142,go_sem, *]) rfl ⟨by rw[HVV.out],?_⟩;exact XQ w _ (HK'.out.setNew _ _ _ (Nat.le_refl _)) _ _ _ _ _ _
theorem Zkg (w:World)(g o:Nat)(p:Zb)(vh:Value)(e:Zh)(hc2:w.cell? ⟨g,o+2,none⟩=some (.int .u64 (p.horizon:Int)))(hc3:w.cell? ⟨g,o+3,none⟩=some vh)(hr:Row w 244 2 vh p.hists.length (p.hists.flatMap Zp))(hl:p.hists.length≤1000)(hz:p.horizon≤1000000)(hq:e.q.size≤maxLen):
 Calls Tryz.prog 142 #[.pointer (some ⟨g,o,none⟩),.agg #[.string e.q,.int .i32 e.val,.int .u64 (e.fr:Int),.int .u64 (e.till:Int),.bool e.op,.int .u64 (e.kn:Int)]] w fun e' w'=>e'=.returned (XO (p.caught e))∧Za (fun _=>False) w w':=by
 by_cases hs:e.op=false∨p.horizon≤e.kn
 · exact Zdy w g o p e hc2 hs
 · exact Zgw w g o p vh e hc2 hc3 hr hl hz hq (by cases h:e.op with
    |false=>exact absurd (.inl h) hs
    |true=>rfl) (by have:=mt Or.inr hs;omega)
def Zbo (w:World)(b:Nat)(D:Ze)(k:Nat)(p:Zb)(q:ByteArray)(lo hi:Nat)(e:Ending)(w':World):Prop:=
 (p.ans q lo hi p.ents.length<0∧e=.returned (.tuple #[.int .i32 0,.agg #[.int .u64 0,.int .u64 0],.bool false])∧Za (fun _=>False) w w')∨
 (∃(j:Nat)(x:Zu),p.ans q lo hi p.ents.length=j∧p.ents[j]?=some x∧e=.returned (.tuple #[.int .i32 x.e.val,.agg #[.int .u64 (x.e.fr:Int),.int .u64 (lastE x.e p.horizon:Int)],.bool true])∧Hid (Zl w b D k (p.use j x) w'))
theorem Zl.late' {w W W1 W2:World}{b k:Nat}{D:Ze}{p:Zb}(hW:Za (fun _=>False) w W)(h:Zl W b D k p W1)(hD:∀j,D.fp b j→j<w.heap.size)(F:Nat→Prop)(hF:∀r,F r→w.heap.size≤r∧(r<W.heap.size∨W1.heap.size≤r))(hk:Za F W1 W2):Zl w b D k p W2:=by
 obtain⟨nd,e,hb⟩:=h;refine⟨nd,e,hb.1.kept hk (fun j hj he=> ?_),(hW.trans hb.2.1 (fun _=>False.elim) (fun _ _=>id)).trans hk (fun _=>id) (fun i hi he=>by have:=(hF i he).1;omega),fun x hx=>(hb.2.2 x hx).imp id fun hh=>Nat.le_trans hW.size hh⟩;have h3:=hb.1.lt j hj;have h4:=hF j he;rcases hb.2.2 j hj with h1|h1
 · have:=hD j h1;omega
 · omega
theorem ZgC (w:World)(b k g:Nat)(D:Ze)(nd:Zn)(q:ByteArray)(lo hi:Nat)(h:Dev w b D)(hnd:D.nodes[k]?=some nd)(ho:D.vn.ownBlock=some g)(hn:nd.p.ents.length≤1000)(hfit:∀x∈nd.p.ents,x.e.Fit∧x.e.fr≤lastE x.e nd.p.horizon)(hlo:lo≤hi)(hu:nd.p.uses<9223372036854775808):
 Calls Tryz.prog 89 #[.pointer (some ⟨g,k*8,none⟩),.string q,.agg #[.int .u64 (lo:Int),.int .u64 (hi:Int)]] w fun e w'=>Zbo w b D k nd.p q lo hi e w':=by
 have HLT:Hid (∀j,D.fp b j→j<w.heap.size):=h.lt;have HDA:Hid (∀W,Za (fun _=>False) w W→Dev W b D):=fun W hW=>h.kept hW (fun _ _=>id);by_cases hneg:nd.p.ans q lo hi nd.p.ents.length<0
 · have HL:Hid (∀W,Za (fun _=>False) w W→Calls Tryz.prog 135 #[.pointer (some ⟨g,k*8,none⟩),.string q,.agg #[.int .u64 (lo:Int),.int .u64 (hi:Int)]] W fun e w'=>e=.returned (.pointer none)∧Za (fun _=>False) W w'):=fun W hW=>(Zgz W b k g D nd q lo hi (HDA.out W hW) hnd ho hn hfit hlo).mono fun e w' hp=>by
    rcases hp.2 with⟨_,e1⟩|⟨j,_,_,e1,_⟩
    · exact⟨e1,hp.1⟩
    · omega
   have HB:Hid (∀o o' w1,Za (fun _=>False) ((w.alloc o).alloc (.cells #[.int .u64 0,.int .u64 0] o')) w1→Blk w1 (w.heap.size+1) o' #[.int .u64 0,.int .u64 0]):=fun o o' w1 hk=>by
    have:=(Blk.new (w.alloc o) o' #[.int .u64 0,.int .u64 0]).kept hk id;simpa using this
   clear h hnd ho hn hfit hlo;go_enter Tryz.func89,Tryz.ntmps89
   go_wp2_with (go_at_call 135;refine(HL.out _ ((Za.alloc _ _ _).allocNew _)).mono ?_;rintro e w1 ⟨rfl,hk1⟩;have hb1:=HB.out _ _ _ hk1;have z0:w1.cell? ⟨w.heap.size+1,0,none⟩=some (.int .u64 0):=hb1.cell 0;have z1:w1.cell? ⟨w.heap.size+1,1,none⟩=some (.int .u64 0):=hb1.cell 1;have zf:∀i,w1.frozen? ⟨w.heap.size+1,i,none⟩=false:=fun i=>hb1.free i;have HK1:Hid (Za (fun _=>False) w w1):=((Za.alloc _ _ _).allocNew _).trans hk1 (fun _=>id) (fun _ _=>id);clear hb1 hk1)
   refine bodyPost_ret (v:=.tuple #[.int .i32 0,.agg #[.int .u64 0,.int .u64 0],.bool false]) (by simp[results,Tryz.results89,go_sem, *]) rfl (.inl ⟨hneg,rfl,?_⟩);exact(HK1.out.setNew _ 0 _ (by omega)).setNew _ 1 _ (by omega)
 · have hex:∃(j:Nat),nd.p.ans q lo hi nd.p.ents.length=(j:Int)∧j<nd.p.ents.length:=by
    have h1:=(ZbI true nd.p.horizon q lo hi (nd.p.ents.map (·.e)) nd.p.ents.length).2;have h2:nd.p.ans q lo hi nd.p.ents.length<(nd.p.ents.length:Int):=h1;exact⟨(nd.p.ans q lo hi nd.p.ents.length).toNat,by omega,by omega⟩
   obtain⟨j,hans,hjl⟩:=hex;obtain⟨x,hx⟩:∃x,nd.p.ents[j]?=some x:=⟨_,List.getElem?_eq_getElem hjl⟩;obtain⟨ge,ce,hve,hown⟩:=h.block_of hnd hjl;have hxf:=(hfit x (List.mem_of_getElem? hx)).1;have HL:Hid (∀W,Za (fun _=>False) w W→Calls Tryz.prog 135 #[.pointer (some ⟨g,k*8,none⟩),.string q,.agg #[.int .u64 (lo:Int),.int .u64 (hi:Int)]] W fun e w'=>e=.returned (.pointer (some ⟨ge,j*7,none⟩))∧Za (fun _=>False) W w'):=fun W hW=>(Zgz W b k g D nd q lo hi (HDA.out W hW) hnd ho hn hfit hlo).mono fun e w' hp=>by
    rcases hp.2 with⟨h1,_⟩|⟨i,_,ge',h1,_,h3,e1⟩
    · omega
    · have:i=j:=by omega
      subst this;rw[hown]at h3;injection h3 with h3;subst h3;exact⟨e1,hp.1⟩
   obtain⟨L,hL⟩:∃L,L=lastE x.e nd.p.horizon:=⟨_,rfl⟩;have HU:Hid (∀W,Za (fun _=>False) w W→Calls Tryz.prog 136 #[.pointer (some ⟨g,k*8,none⟩),.pointer (some ⟨ge,j*7,none⟩)] W fun e w'=>e=.returned (.tuple #[])∧Hid (Zl W b D k (nd.p.use j x) w')∧w'.cell? ⟨ge,j*7,none⟩=some (.string x.e.q)∧w'.cell? ⟨ge,j*7+1,none⟩=some (.int .i32 x.e.val)∧w'.cell? ⟨ge,j*7+2,none⟩=some (.int .u64 (x.e.fr:Int))∧w'.cell? ⟨ge,j*7+3,none⟩=some (.int .u64 (x.e.till:Int))∧w'.cell? ⟨ge,j*7+4,none⟩=some (.bool x.e.op)∧w'.cell? ⟨ge,j*7+5,none⟩=some (.int .u64 (x.e.kn:Int))∧w'.cell? ⟨g,k*8+2,none⟩=some (.int .u64 (nd.p.horizon:Int))):=fun W hW=>
    (duse W b k g ge j D nd x (HDA.out W hW) hnd ho hown hx hu).mono fun e w' hp=>by
     obtain⟨n2,e2,e3,hb2⟩:=hp.2.out;have hn2:=ZY n2 hnd;have hx2:n2.p.ents[j]?=some {x with used:=nd.p.uses+1}:=by rw[e2];exact List.getElem?_set_self hjl
     have hown2:n2.en.ownBlock=some ge:=by rw[e3];exact hown
     have cc:=fun f hf u hu=>hb2.1.heldC hn2 hown2 hx2 f hf u hu;refine⟨hp.1,hp.2.out.turns,cc 0 (by omega) _ rfl,cc 1 (by omega) _ rfl,cc 2 (by omega) _ rfl,cc 3 (by omega) _ rfl,cc 4 (by omega) _ rfl,cc 5 (by omega) _ rfl,?_⟩;have:=hb2.1.nodeC hn2 ho 2 (by omega) _ rfl;rw[e2]at this;exact this
   have HCO:Hid (∀W,W.cell? ⟨g,k*8+2,none⟩=some (.int .u64 (nd.p.horizon:Int))→Calls Tryz.prog 137 #[.pointer (some ⟨g,k*8,none⟩),.agg #[.string x.e.q,.int .i32 x.e.val,.int .u64 (x.e.fr:Int),.int .u64 (x.e.till:Int),.bool x.e.op,.int .u64 (x.e.kn:Int)]] W fun e w'=>e=.returned (.agg #[.int .u64 (x.e.fr:Int),.int .u64 (L:Int)])∧Za (fun _=>False) W w'):=fun W hc=>by rw[hL];exact Zix W g (k*8) x.e nd.p.horizon hxf hc
   have HB:Hid (∀o o' w1,Za (fun _=>False) ((w.alloc o).alloc (.cells #[.int .u64 0,.int .u64 0] o')) w1→Blk w1 (w.heap.size+1) o' #[.int .u64 0,.int .u64 0]):=fun o o' w1 hk=>by
    have:=(Blk.new (w.alloc o) o' #[.int .u64 0,.int .u64 0]).kept hk id;simpa using this
   have HPO:Hid (∀W W1 W2,Za (fun _=>False) w W→w.heap.size+1<W.heap.size→Zl W b D k (nd.p.use j x) W1→Za (fun i=>i=w.heap.size+1∨W1.heap.size≤i) W1 W2→Zbo w b D k nd.p q lo hi (.returned (.tuple #[.int .i32 x.e.val,.agg #[.int .u64 (x.e.fr:Int),.int .u64 (L:Int)],.bool true])) W2):=fun W W1 W2 hW hs hT hk=>by
    refine .inr ⟨j,x,hans,hx,by rw[hL],Zl.late' hW hT HLT.out _ (fun r hr=> ?_) hk⟩;rcases hr with rfl|hr
    · exact⟨by omega,.inl hs⟩
    · have:W.heap.size≤W1.heap.size:=by obtain⟨_,_,hb⟩:=hT;exact hb.2.1.size
      exact⟨by omega,.inr hr⟩
   have hgl:ge<w.heap.size:=(h.ents nd (List.mem_of_getElem? hnd)).lt ge hown;clear h hnd ho hn hfit hlo hans hx hve hown hL hxf;go_enter Tryz.func89,Tryz.ntmps89
   go_wp2_with first
    |(go_at_call 135;refine(HL.out _ ((Za.alloc _ _ _).allocNew _)).mono ?_;rintro e w1 ⟨rfl,hk1⟩;have HB1:Hid (Blk w1 (w.heap.size+1) 88 #[.int .u64 0,.int .u64 0]):=HB.out _ _ _ hk1;have HK1:Hid (Za (fun _=>False) w w1):=((Za.alloc _ _ _).allocNew _).trans hk1 (fun _=>id) (fun _ _=>id);clear hk1)
    |(go_at_call 136;refine(HU.out _ HK1.out).mono ?_;rintro e w2 ⟨rfl,HT2,x0,x1,x2,x3,x4,x5,d2⟩;have HB2:Hid (Blk w2 (w.heap.size+1) 88 #[.int .u64 0,.int .u64 0]):=(by obtain⟨_,_,hb⟩:=HT2.out;exact HB1.out.kept hb.2.1 (fun hh=>by have:=HLT.out _ hh;omega)))
   have z0:w2.cell? ⟨w.heap.size+1,0,none⟩=some (.int .u64 0):=HB2.out.cell 0;have z1:w2.cell? ⟨w.heap.size+1,1,none⟩=some (.int .u64 0):=HB2.out.cell 1;have hsz:w.heap.size+1<w1.heap.size:=HB1.out.lt;have hge:ge≠w.heap.size+1:=by omega
   have hge':=Ne.symm hge;have HCO1:Hid (∀W,W.cell? ⟨g,k*8+2,none⟩=some (.int .u64 (nd.p.horizon:Int))→Calls Tryz.prog 137 #[.pointer (some ⟨g,k*8,none⟩),.agg #[.string x.e.q,.int .i32 x.e.val,.int .u64 (x.e.fr:Int),.int .u64 (x.e.till:Int),.bool x.e.op,.int .u64 (x.e.kn:Int)]] W fun e w'=>e=.returned (.agg #[.int .u64 (x.e.fr:Int),.int .u64 (L:Int)])∧Za (fun _=>False) W w'):=HCO.out;have b0:=ZC x0;have b1:=ZC x1;have b2:=ZC x2;have b3:=ZC x3;have b4:=ZC x4;have b5:=ZC x5;have b6:=ZC d2;have HBD:Hid (Blk w2.drew (w.heap.size+1) 88 #[.int .u64 0,.int .u64 0]):=HB2.out
   go_region_held3 (fun w'=>w'.cell? ⟨ge,j*7,none⟩=some (.string x.e.q)∧w'.cell? ⟨ge,j*7+1,none⟩=some (.int .i32 x.e.val)∧w'.cell? ⟨ge,j*7+2,none⟩=some (.int .u64 (x.e.fr:Int))∧w'.cell? ⟨ge,j*7+3,none⟩=some (.int .u64 (x.e.till:Int))∧w'.cell? ⟨ge,j*7+4,none⟩=some (.bool x.e.op)∧w'.cell? ⟨ge,j*7+5,none⟩=some (.int .u64 (x.e.kn:Int))) (first|with_reducible exact⟨s0,s1,s2,s3,s4,s5⟩|with_reducible exact⟨b0,b1,b2,b3,b4,b5⟩|exact⟨ZZ hge (ZZ hge s0),ZZ hge (ZZ hge s1),ZZ hge (ZZ hge s2),ZZ hge (ZZ hge s3),ZZ hge (ZZ hge s4),ZZ hge (ZZ hge s5)⟩|fail) ((go_at_call 137;refine(HCO1.out _ b6).mono ?_;rintro e w4 ⟨rfl,hk4⟩;have HK4:Hid (Za (fun _=>False) w2 w4):=ZfD hk4;have s0:=hk4.hold b0;have s1:=hk4.hold b1;have s2:=hk4.hold b2;have s3:=hk4.hold b3;have s4:=hk4.hold b4;have s5:=hk4.hold b5;have HB4:Hid (Blk w4 (w.heap.size+1) 88 #[.int .u64 0,.int .u64 0]):=HBD.out.kept hk4 id;have y0:w4.cell? ⟨w.heap.size+1,0,none⟩=some (.int .u64 0):=HB4.out.cell 0;have y1:w4.cell? ⟨w.heap.size+1,1,none⟩=some (.int .u64 0):=HB4.out.cell 1;have yf0:=HB4.out.free 0;have yf1:=HB4.out.free 1))
   all_goals
    go_wp2;refine bodyPost_ret (v:=.tuple #[.int .i32 x.e.val,.agg #[.int .u64 (x.e.fr:Int),.int .u64 (L:Int)],.bool true]) (by simp[results,Tryz.results89,go_sem, *]) rfl (HPO.out _ _ _ HK1.out hsz HT2.out ?_);exact(HK4.out.trans (Za.setCell _ ⟨w.heap.size+1,0,none⟩ _) (H:=fun i=>i=w.heap.size+1∨w2.heap.size≤i) (fun _=>False.elim) (fun _ _ h=>.inl h)).trans (Za.setCell _ ⟨w.heap.size+1,1,none⟩ _) (fun _=>id) (fun _ _ h=>.inl h)
theorem ZfE {p:Zb}{e:Zh}(h:∀(t:Nat)(y:Zu),p.ents[t]?=some y→¬Z0 y.e e):p.sameI e=none:=by
 unfold Zb.sameI;rw[List.findIdx?_eq_none_iff];intro x hx;obtain⟨t,ht⟩:=List.getElem?_of_mem hx;simpa using h t x ht
theorem Zcc {p:Zb}{e:Zh}{j:Nat}{x:Zu}(hx:p.ents[j]?=some x)(hs:Z0 x.e e)(h:∀(t:Nat)(y:Zu),t<j→p.ents[t]?=some y→¬Z0 y.e e):p.sameI e=some j:=by
 unfold Zb.sameI;obtain⟨hj,hx'⟩:=List.getElem?_eq_some_iff.mp hx;rw[List.findIdx?_eq_some_iff_getElem];refine⟨hj,by rw[hx'];simpa using hs,fun t ht=> ?_⟩;have:=h t p.ents[t] ht (List.getElem?_eq_getElem (by omega));simpa using this
theorem Zeo {w W:World}{e y:Zh}(hk:Za (fun _=>False) w W)(hb:Blk W w.heap.size 55 #[.string e.q,.int .i32 e.val,.int .u64 (e.fr:Int),.int .u64 (e.till:Int),.bool e.op,.int .u64 (e.kn:Int)]):
 Za (fun _=>False) w ((((((W.setCell ⟨w.heap.size,0,none⟩ (.string y.q)).setCell ⟨w.heap.size,1,none⟩ (.int .i32 y.val)).setCell ⟨w.heap.size,2,none⟩ (.int .u64 (y.fr:Int))).setCell ⟨w.heap.size,3,none⟩ (.int .u64 (y.till:Int))).setCell ⟨w.heap.size,4,none⟩ (.bool y.op)).setCell ⟨w.heap.size,5,none⟩ (.int .u64 (y.kn:Int)))∧
 Blk ((((((W.setCell ⟨w.heap.size,0,none⟩ (.string y.q)).setCell ⟨w.heap.size,1,none⟩ (.int .i32 y.val)).setCell ⟨w.heap.size,2,none⟩ (.int .u64 (y.fr:Int))).setCell ⟨w.heap.size,3,none⟩ (.int .u64 (y.till:Int))).setCell ⟨w.heap.size,4,none⟩ (.bool y.op)).setCell ⟨w.heap.size,5,none⟩ (.int .u64 (y.kn:Int))) w.heap.size 55 #[.string y.q,.int .i32 y.val,.int .u64 (y.fr:Int),.int .u64 (y.till:Int),.bool y.op,.int .u64 (y.kn:Int)]:=
 ⟨(((((hk.setNew _ 0 _ (Nat.le_refl _)).setNew _ 1 _ (Nat.le_refl _)).setNew _ 2 _ (Nat.le_refl _)).setNew _ 3 _ (Nat.le_refl _)).setNew _ 4 _ (Nat.le_refl _)).setNew _ 5 _ (Nat.le_refl _),(((((hb.set 0 (.string y.q)).set 1 (.int .i32 y.val)).set 2 (.int .u64 (y.fr:Int))).set 3 (.int .u64 (y.till:Int))).set 4 (.bool y.op)).set 5 (.int .u64 (y.kn:Int))⟩
theorem ZjT (w:World)(b k g:Nat)(D:Ze)(nd:Zn)(e:Zh)(h:Dev w b D)(hnd:D.nodes[k]?=some nd)(ho:D.vn.ownBlock=some g)(hok:nd.p.Ok 900000)(hl:nd.p.ents.length≤900)(hr1:1≤nd.p.room)(hr2:nd.p.room≤1000)(hu:nd.p.uses<9223372036854775807)(hq:e.q.size≤maxLen):
 Calls Tryz.prog 101 #[.pointer (some ⟨g,k*8,none⟩),.agg #[.string e.q,.int .i32 e.val,.int .u64 (e.fr:Int),.int .u64 (e.till:Int),.bool e.op,.int .u64 (e.kn:Int)]] w fun e' w'=>e'=.returned (.bool (nd.p.store e).2)∧Hid (Zl w b D k (nd.p.store e).1 w'):=by
 have c0:w.cell? ⟨g,k*8,none⟩=some (.bool nd.p.up):=h.nodeC hnd ho 0 (by omega) _ rfl;have c2:w.cell? ⟨g,k*8+2,none⟩=some (.int .u64 (nd.p.horizon:Int)):=h.nodeC hnd ho 2 (by omega) _ rfl;have c3:w.cell? ⟨g,k*8+3,none⟩=some nd.hs:=h.nodeC hnd ho 3 (by omega) _ rfl;have hgl:g<w.heap.size:=World.block_lt_of_cell? w _ c0;have hg0:g≠w.heap.size:=Nat.ne_of_lt hgl;have HDA:Hid (∀W,Za (fun _=>False) w W→Dev W b D):=fun W hW=>h.kept hW (fun _ _=>id);have HSAME:Hid (∀W,Za (fun _=>False) w W→Zl w b D k nd.p W):=fun W hW=>Zl.of_kept h hnd hW;have HCA:Hid (∀W,Za (fun _=>False) w W→Calls Tryz.prog 142 #[.pointer (some ⟨g,k*8,none⟩),.agg #[.string e.q,.int .i32 e.val,.int .u64 (e.fr:Int),.int .u64 (e.till:Int),.bool e.op,.int .u64 (e.kn:Int)]] W fun e' w'=>e'=.returned (XO (nd.p.caught e))∧Za (fun _=>False) W w'):=fun W hW=>Zkg W g (k*8) nd.p nd.hs e (hW.hold c2) (hW.hold c3) ((h.hists nd (List.mem_of_getElem? hnd)).kept hW (fun _ _=>id)) (by have:=hok.hl;omega) (by have:=hok.hz;omega) hq;have HB:Hid (∀o w1,Za (fun _=>False) (w.alloc (.cells #[.string e.q,.int .i32 e.val,.int .u64 (e.fr:Int),.int .u64 (e.till:Int),.bool e.op,.int .u64 (e.kn:Int)] o)) w1→Blk w1 w.heap.size o #[.string e.q,.int .i32 e.val,.int .u64 (e.fr:Int),.int .u64 (e.till:Int),.bool e.op,.int .u64 (e.kn:Int)]):=fun o w1 hk=>(Blk.new w o _).kept hk id;cases hup:nd.p.up with
 |false=>
  have HE:Hid (nd.p.store e=(nd.p,false)):=by show _=_;rw[Zb.store,if_pos hup]
  rw[hup]at c0;clear h hnd ho hok hup HCA c2 c3;go_enter Tryz.func101,Tryz.ntmps101;go_wp2;go_ret;exact⟨by rw[HE.out];rfl,by rw[HE.out];exact HSAME.out _ (Za.alloc _ _ _)⟩
 |true=>
  rw[hup]at c0;cases hca:nd.p.caught e with
  |none=>
   have HE:Hid (nd.p.store e=(nd.p,false)):=by show _=_;rw[Zb.store,if_neg (by rw[hup];simp),hca]
   have HC2:Hid (∀W,Za (fun _=>False) w W→Calls Tryz.prog 142 #[.pointer (some ⟨g,k*8,none⟩),.agg #[.string e.q,.int .i32 e.val,.int .u64 (e.fr:Int),.int .u64 (e.till:Int),.bool e.op,.int .u64 (e.kn:Int)]] W fun e' w'=>e'=.returned (.tuple #[.agg #[.string ⟨#[]⟩,.int .i32 0,.int .u64 0,.int .u64 0,.bool false,.int .u64 0],.bool false])∧Za (fun _=>False) W w'):=fun W hW=>by have:=HCA.out W hW;rw[hca]at this;exact this
   clear h hnd ho hok hup hca HCA c2 c3;go_enter Tryz.func101,Tryz.ntmps101
   go_wp2_with (go_at_call 142;refine(HC2.out _ (Za.alloc _ _ _)).mono ?_;rintro e' w1 ⟨rfl,hk1⟩;have hb1:=HB.out _ _ hk1;have z0:w1.cell? ⟨w.heap.size,0,none⟩=some (.string e.q):=hb1.cell 0;have z1:w1.cell? ⟨w.heap.size,1,none⟩=some (.int .i32 e.val):=hb1.cell 1;have z2:w1.cell? ⟨w.heap.size,2,none⟩=some (.int .u64 (e.fr:Int)):=hb1.cell 2;have z3:w1.cell? ⟨w.heap.size,3,none⟩=some (.int .u64 (e.till:Int)):=hb1.cell 3;have z4:w1.cell? ⟨w.heap.size,4,none⟩=some (.bool e.op):=hb1.cell 4;have z5:w1.cell? ⟨w.heap.size,5,none⟩=some (.int .u64 (e.kn:Int)):=hb1.cell 5;have zf:∀i,w1.frozen? ⟨w.heap.size,i,none⟩=false:=fun i=>hb1.free i;have HK1:Hid (Za (fun _=>False) w w1):=(Za.alloc _ _ _).trans hk1 (fun _=>id) (fun _ _=>id);clear hb1 hk1)
   go_ret;refine⟨by rw[HE.out];rfl,?_⟩;rw[HE.out];refine HSAME.out _ ?_;exact(((((HK1.out.setNew _ 0 _ (Nat.le_refl _)).setNew _ 1 _ (Nat.le_refl _)).setNew _ 2 _ (Nat.le_refl _)).setNew _ 3 _ (Nat.le_refl _)).setNew _ 4 _ (Nat.le_refl _)).setNew _ 5 _ (Nat.le_refl _)
  |some y=>
   have HC2:Hid (∀W,Za (fun _=>False) w W→Calls Tryz.prog 142 #[.pointer (some ⟨g,k*8,none⟩),.agg #[.string e.q,.int .i32 e.val,.int .u64 (e.fr:Int),.int .u64 (e.till:Int),.bool e.op,.int .u64 (e.kn:Int)]] W fun e' w'=>e'=.returned (.tuple #[.agg #[.string y.q,.int .i32 y.val,.int .u64 (y.fr:Int),.int .u64 (y.till:Int),.bool y.op,.int .u64 (y.kn:Int)],.bool true])∧Za (fun _=>False) W w'):=fun W hW=>by have:=HCA.out W hW;rw[hca]at this;exact this
   have HSM:Hid (∀W,Za (fun _=>False) w W→Calls Tryz.prog 143 #[.pointer (some ⟨g,k*8,none⟩),.agg #[.string y.q,.int .i32 y.val,.int .u64 (y.fr:Int),.int .u64 (y.till:Int),.bool y.op,.int .u64 (y.kn:Int)]] W fun e' w'=>Zdp W nd y e' w'):=fun W hW=>dsame W b k g D nd y (HDA.out W hW) hnd ho (by omega);have HBY:Hid (∀W c,Za (fun _=>False) w W→Blk W w.heap.size 55 c→c=#[.string y.q,.int .i32 y.val,.int .u64 (y.fr:Int),.int .u64 (y.till:Int),.bool y.op,.int .u64 (y.kn:Int)]→W.cell? ⟨w.heap.size,0,none⟩=some (.string y.q)∧W.cell? ⟨w.heap.size,1,none⟩=some (.int .i32 y.val)∧W.cell? ⟨w.heap.size,2,none⟩=some (.int .u64 (y.fr:Int))∧W.cell? ⟨w.heap.size,3,none⟩=some (.int .u64 (y.till:Int))∧W.cell? ⟨w.heap.size,4,none⟩=some (.bool y.op)∧W.cell? ⟨w.heap.size,5,none⟩=some (.int .u64 (y.kn:Int))):=fun W c _ hb hc=>by subst hc;exact⟨hb.cell 0,hb.cell 1,hb.cell 2,hb.cell 3,hb.cell 4,hb.cell 5⟩
   cases hsi:nd.p.sameI y with
   |none=>
    have HE:Hid (nd.p.store e=(nd.p.lay y,true)):=by show _=_;rw[Zb.store,if_neg (by rw[hup];simp),hca];simp only[hsi]
    have HSM2:Hid (∀W,Za (fun _=>False) w W→Calls Tryz.prog 143 #[.pointer (some ⟨g,k*8,none⟩),.agg #[.string y.q,.int .i32 y.val,.int .u64 (y.fr:Int),.int .u64 (y.till:Int),.bool y.op,.int .u64 (y.kn:Int)]] W fun e' w'=>e'=.returned (.pointer none)∧Za (fun _=>False) W w'):=fun W hW=>(HSM.out W hW).mono fun e' w' hp=>by
     rcases hp.2 with⟨_,e1⟩|⟨j,x,ge,hx,_,hs,hall,_⟩
     · exact⟨e1,hp.1⟩
     · rw[Zcc hx hs hall]at hsi;cases hsi
    have HLY:Hid (∀W,Za (fun _=>False) w W→Calls Tryz.prog 145 #[.pointer (some ⟨g,k*8,none⟩),.agg #[.string y.q,.int .i32 y.val,.int .u64 (y.fr:Int),.int .u64 (y.till:Int),.bool y.op,.int .u64 (y.kn:Int)]] W fun e' w'=>e'=.returned (.tuple #[])∧Hid (Zl W b D k (nd.p.lay y) w')):=fun W hW=>dlay W b k g D nd y (HDA.out W hW) hnd ho hl hr1 hr2 (by omega);clear h hnd ho hok hup hca HCA c2 c3 hsi HSM;go_enter Tryz.func101,Tryz.ntmps101
    go_wp2_with first
     |(go_at_call 142;refine(HC2.out _ (Za.alloc _ _ _)).mono ?_;rintro e' w1 ⟨rfl,hk1⟩;have hb1:=HB.out _ _ hk1;have z0:w1.cell? ⟨w.heap.size,0,none⟩=some (.string e.q):=hb1.cell 0;have z1:w1.cell? ⟨w.heap.size,1,none⟩=some (.int .i32 e.val):=hb1.cell 1;have z2:w1.cell? ⟨w.heap.size,2,none⟩=some (.int .u64 (e.fr:Int)):=hb1.cell 2;have z3:w1.cell? ⟨w.heap.size,3,none⟩=some (.int .u64 (e.till:Int)):=hb1.cell 3;have z4:w1.cell? ⟨w.heap.size,4,none⟩=some (.bool e.op):=hb1.cell 4;have z5:w1.cell? ⟨w.heap.size,5,none⟩=some (.int .u64 (e.kn:Int)):=hb1.cell 5;have zf:∀i,w1.frozen? ⟨w.heap.size,i,none⟩=false:=fun i=>hb1.free i;have HK1:Hid (Za (fun _=>False) w w1):=(Za.alloc _ _ _).trans hk1 (fun _=>id) (fun _ _=>id);have HS6:=Zeo (y:=y) HK1.out hb1;have HS6':Hid (Za (fun _=>False) w ((((((w1.setCell ⟨w.heap.size,0,none⟩ (.string y.q)).setCell ⟨w.heap.size,1,none⟩ (.int .i32 y.val)).setCell ⟨w.heap.size,2,none⟩ (.int .u64 (y.fr:Int))).setCell ⟨w.heap.size,3,none⟩ (.int .u64 (y.till:Int))).setCell ⟨w.heap.size,4,none⟩ (.bool y.op)).setCell ⟨w.heap.size,5,none⟩ (.int .u64 (y.kn:Int)))∧Blk ((((((w1.setCell ⟨w.heap.size,0,none⟩ (.string y.q)).setCell ⟨w.heap.size,1,none⟩ (.int .i32 y.val)).setCell ⟨w.heap.size,2,none⟩ (.int .u64 (y.fr:Int))).setCell ⟨w.heap.size,3,none⟩ (.int .u64 (y.till:Int))).setCell ⟨w.heap.size,4,none⟩ (.bool y.op)).setCell ⟨w.heap.size,5,none⟩ (.int .u64 (y.kn:Int))) w.heap.size 55 #[.string y.q,.int .i32 y.val,.int .u64 (y.fr:Int),.int .u64 (y.till:Int),.bool y.op,.int .u64 (y.kn:Int)]):=HS6;clear hb1 hk1 HS6)
     |(go_at_call 143;refine(HSM2.out _ HS6'.out.1).mono ?_;rintro e' w2 ⟨rfl,hk2⟩;have HK2:Hid (Za (fun _=>False) w w2):=HS6'.out.1.trans hk2 (fun _=>id) (fun _ _=>id);obtain⟨t0,t1,t2,t3,t4,t5⟩:=HBY.out w2 _ HK2.out (HS6'.out.2.kept hk2 id) rfl;clear hk2)
     |(go_at_call 145;refine(HLY.out _ HK2.out).mono ?_;rintro e' w3 ⟨rfl,hT3⟩;have HT3:Hid (Zl w b D k (nd.p.lay y) w3):=Zl.from HK2.out hT3.out;clear hT3)
    go_ret;exact⟨by rw[HE.out];rfl,by rw[HE.out];exact HT3.out⟩
   |some j=>
    have hsi':∃x ge,nd.p.ents[j]?=some x∧nd.en.ownBlock=some ge:=by
     unfold Zb.sameI at hsi;rw[List.findIdx?_eq_some_iff_getElem]at hsi;obtain⟨hj,_⟩:=hsi;obtain⟨ge,ce,hve,hown⟩:=h.block_of hnd hj;exact⟨_,ge,List.getElem?_eq_getElem hj,hown⟩
    obtain⟨x,ge,hx,hown⟩:=hsi';have HE:Hid (nd.p.store e=((nd.p.merge j x y).use j ⟨ZT x.e y,x.used⟩,true)):=by show _=_;rw[Zb.store,if_neg (by rw[hup];simp),hca];simp only[hsi,hx]
    have HSM2:Hid (∀W,Za (fun _=>False) w W→Calls Tryz.prog 143 #[.pointer (some ⟨g,k*8,none⟩),.agg #[.string y.q,.int .i32 y.val,.int .u64 (y.fr:Int),.int .u64 (y.till:Int),.bool y.op,.int .u64 (y.kn:Int)]] W fun e' w'=>e'=.returned (.pointer (some ⟨ge,j*7,none⟩))∧Za (fun _=>False) W w'):=fun W hW=>(HSM.out W hW).mono fun e' w' hp=>by
     rcases hp.2 with⟨hall,_⟩|⟨j',x',ge',hx',hown',hs,hall,e1⟩
     · rw[ZfE hall]at hsi;cases hsi
     · rw[Zcc hx' hs hall]at hsi;injection hsi with hsi;subst hsi;rw[hown]at hown';injection hown' with hown';subst hown';exact⟨e1,hp.1⟩
    have HMG:Hid (∀W,Za (fun _=>False) w W→Calls Tryz.prog 144 #[.pointer (some ⟨ge,j*7,none⟩),.agg #[.string y.q,.int .i32 y.val,.int .u64 (y.fr:Int),.int .u64 (y.till:Int),.bool y.op,.int .u64 (y.kn:Int)]] W fun e' w'=>e'=.returned (.tuple #[])∧Hid (Calls Tryz.prog 136 #[.pointer (some ⟨g,k*8,none⟩),.pointer (some ⟨ge,j*7,none⟩)] w' fun e' w''=>e'=.returned (.tuple #[])∧Hid (Zl w b D k ((nd.p.merge j x y).use j ⟨ZT x.e y,x.used⟩) w''))):=fun W hW=>
     (dmerge W b k ge j D nd x y (HDA.out W hW) hnd hown hx).mono fun e' w' hp=>by
      obtain⟨n4,e4,e5,hb4⟩:=hp.2.out;have hn4:=ZY n4 hnd;refine⟨hp.1,?_⟩;have hx4:n4.p.ents[j]?=some ⟨ZT x.e y,x.used⟩:=by rw[e4];exact List.getElem?_set_self (List.getElem?_eq_some_iff.mp hx).1
      refine(duse w' b k g ge j _ n4 ⟨ZT x.e y,x.used⟩ hb4.1 hn4 ho (by rw[e5];exact hown) hx4 (by rw[e4];show nd.p.uses<_;omega)).mono fun e' w'' hp2=>⟨hp2.1,?_⟩;obtain⟨n6,e6,_,hb6⟩:=hp2.2.out;refine Zl.from hW ⟨n6,by rw[e6,e4],?_⟩;have:=hb4.trans hb6
      rwa [ZJ]at this
    clear h hnd ho hok hup hca HCA c2 c3 hsi HSM hx hown;go_enter Tryz.func101,Tryz.ntmps101
    go_wp2_with first
     |(go_at_call 142;refine(HC2.out _ (Za.alloc _ _ _)).mono ?_;rintro e' w1 ⟨rfl,hk1⟩;have hb1:=HB.out _ _ hk1;have z0:w1.cell? ⟨w.heap.size,0,none⟩=some (.string e.q):=hb1.cell 0;have z1:w1.cell? ⟨w.heap.size,1,none⟩=some (.int .i32 e.val):=hb1.cell 1;have z2:w1.cell? ⟨w.heap.size,2,none⟩=some (.int .u64 (e.fr:Int)):=hb1.cell 2;have z3:w1.cell? ⟨w.heap.size,3,none⟩=some (.int .u64 (e.till:Int)):=hb1.cell 3;have z4:w1.cell? ⟨w.heap.size,4,none⟩=some (.bool e.op):=hb1.cell 4;have z5:w1.cell? ⟨w.heap.size,5,none⟩=some (.int .u64 (e.kn:Int)):=hb1.cell 5;have zf:∀i,w1.frozen? ⟨w.heap.size,i,none⟩=false:=fun i=>hb1.free i;have HK1:Hid (Za (fun _=>False) w w1):=(Za.alloc _ _ _).trans hk1 (fun _=>id) (fun _ _=>id);have HS6:=Zeo (y:=y) HK1.out hb1;have HS6':Hid (Za (fun _=>False) w ((((((w1.setCell ⟨w.heap.size,0,none⟩ (.string y.q)).setCell ⟨w.heap.size,1,none⟩ (.int .i32 y.val)).setCell ⟨w.heap.size,2,none⟩ (.int .u64 (y.fr:Int))).setCell ⟨w.heap.size,3,none⟩ (.int .u64 (y.till:Int))).setCell ⟨w.heap.size,4,none⟩ (.bool y.op)).setCell ⟨w.heap.size,5,none⟩ (.int .u64 (y.kn:Int)))∧Blk ((((((w1.setCell ⟨w.heap.size,0,none⟩ (.string y.q)).setCell ⟨w.heap.size,1,none⟩ (.int .i32 y.val)).setCell ⟨w.heap.size,2,none⟩ (.int .u64 (y.fr:Int))).setCell ⟨w.heap.size,3,none⟩ (.int .u64 (y.till:Int))).setCell ⟨w.heap.size,4,none⟩ (.bool y.op)).setCell ⟨w.heap.size,5,none⟩ (.int .u64 (y.kn:Int))) w.heap.size 55 #[.string y.q,.int .i32 y.val,.int .u64 (y.fr:Int),.int .u64 (y.till:Int),.bool y.op,.int .u64 (y.kn:Int)]):=HS6;clear hb1 hk1 HS6)
     |(go_at_call 143;refine(HSM2.out _ HS6'.out.1).mono ?_;rintro e' w2 ⟨rfl,hk2⟩;have HK2:Hid (Za (fun _=>False) w w2):=HS6'.out.1.trans hk2 (fun _=>id) (fun _ _=>id);obtain⟨t0,t1,t2,t3,t4,t5⟩:=HBY.out w2 _ HK2.out (HS6'.out.2.kept hk2 id) rfl;clear hk2)
     |(go_at_call 144;refine(HMG.out _ HK2.out).mono ?_;rintro e' w3 ⟨rfl,HU3⟩)
     |(go_at_call 136;refine HU3.out.mono ?_;rintro e' w4 ⟨rfl,HT4⟩)
    go_ret;exact⟨by rw[HE.out];rfl,by rw[HE.out];exact HT4.out⟩
def Zef (w:World)(b:Nat)(D:Ze)(k:Nat)(p:Zb)(i:Int)(e:Ending)(w':World):Prop:=
 ((i<0∨(p.ents.length:Int)≤i)∧e=.returned (.int .i64 10)∧w=w')∨
 (∃j:Nat,i=(j:Int)∧j<p.ents.length∧e=.returned (.int .i64 0)∧Hid (Zl w b D k (p.remove j) w'))
theorem Zkp (w:World)(b k g:Nat)(D:Ze)(nd:Zn)(i:Int)(h:Dev w b D)(hnd:D.nodes[k]?=some nd)(ho:D.vn.ownBlock=some g)(hl:nd.p.ents.length≤1000):
 Calls Tryz.prog 107 #[.pointer (some ⟨g,k*8,none⟩),.int .i64 i] w fun e w'=>Zef w b D k nd.p i e w':=by
 obtain⟨ae,ce,hve,_⟩:=(h.ents nd (List.mem_of_getElem? hnd)).form;have c5:w.cell? ⟨g,k*8+5,none⟩=some (.slice ae nd.p.ents.length ce):=by rw[←hve];exact h.nodeC hnd ho 5 (by omega) _ rfl
 by_cases h0:i<0
 · have hd:decide (i<0)=true:=by simpa using h0
   clear h hnd ho hve;go_enter Tryz.func107,Tryz.ntmps107;go_wp2;go_ret;exact .inl ⟨.inl h0,rfl,rfl⟩
 · have hd:decide (i<0)=false:=by simpa using h0
   by_cases h1:(nd.p.ents.length:Int)≤i
   · clear h hnd ho hve;go_enter Tryz.func107,Tryz.ntmps107;go_wp2;go_ret;exact .inl ⟨.inr h1,rfl,rfl⟩
   · obtain⟨j,rfl⟩:∃j:Nat,i=j:=⟨i.toNat,by omega⟩;have hd2:decide (nd.p.ents.length≤j)=false:=by simp;omega
     have hjl:j<nd.p.ents.length:=by omega
     have HR:Hid (Calls Tryz.prog 149 #[.pointer (some ⟨g,k*8,none⟩),.int .i64 (j:Int)] w fun e w'=>e=.returned (.tuple #[])∧Hid (Zl w b D k (nd.p.remove j) w')):=ZgU w b k g D nd j h hnd ho hl;clear h hnd ho hve;go_enter Tryz.func107,Tryz.ntmps107
     go_wp2_with (go_at_call 149;refine HR.out.mono ?_;rintro e w1 ⟨rfl,hT⟩)
     go_ret;exact .inr ⟨j,rfl,hjl,rfl,hT⟩
theorem Zi2 (w:World)(b k g:Nat)(D:Ze)(nd:Zn)(h:Dev w b D)(hnd:D.nodes[k]?=some nd)(ho:D.vn.ownBlock=some g):
 Calls Tryz.prog 122 #[.pointer (some ⟨g,k*8,none⟩)] w fun e w'=>e=.returned (.tuple #[])∧Hid (Zl w b D k nd.p.fall.clear w'):=by
 have HF:Hid (Calls Tryz.prog 155 #[.pointer (some ⟨g,k*8,none⟩)] w fun e w'=>e=.returned (.tuple #[])∧Hid (Calls Tryz.prog 156 #[.pointer (some ⟨g,k*8+7,none⟩)] w' fun e w''=>e=.returned (.tuple #[])∧Hid (Zl w b D k nd.p.fall.clear w''))):=
  (dfall w b k g D nd h hnd ho).mono fun e w' hp=>by
   obtain⟨n1,e1,hb1⟩:=hp.2.out;refine⟨hp.1,(dclear w' b k g _ n1 hb1.1 (ZY n1 hnd) ho).mono fun e w'' hp2=>⟨hp2.1,?_⟩⟩;obtain⟨n2,e2,hb2⟩:=hp2.2.out;exact⟨n2,by rw[e2,e1],by have:=hb1.trans hb2;rwa [ZJ]at this⟩
 clear h hnd ho;go_enter Tryz.func122,Tryz.ntmps122
 go_wp2_with first
  |(go_at_call 155;refine HF.out.mono ?_;rintro e w1 ⟨rfl,HC⟩)
  |(go_at_call 156;refine HC.out.mono ?_;rintro e w2 ⟨rfl,HT⟩)
 go_end0
 exact⟨rfl,HT⟩
theorem Zke (p:Zb)(t:Nat):(p.age t).flight.length≤p.flight.length:=List.length_filter_le _ _
theorem dtell (w:World)(b k g:Nat)(D:Ze)(nd:Zn)(t:Nat)(K:Int)(h:Dev w b D)(hnd:D.nodes[k]?=some nd)(ho:D.vn.ownBlock=some g)(hl:nd.p.flight.length≤1000)(hs:∀c∈nd.p.flight,c.1≤1000000)(hz:nd.p.horizon≤1000000):
 Calls Tryz.prog 76 #[.pointer (some ⟨g,k*8,none⟩),.int .u64 t,.int .u8 K] w fun e w'=>e=.returned (.tuple #[])∧Hid (Zl w b D k (nd.p.tell t K) w'):=by
 have HA:Hid (Calls Tryz.prog 129 #[.pointer (some ⟨g,k*8+7,none⟩),.int .u64 t] w fun e w'=>e=.returned (.tuple #[])∧Hid (Zl w b D k (nd.p.age t) w')):=dage w b k g D nd t h hnd ho hl hs;have HLG:Hid (∀W,Zl w b D k (nd.p.age t) W→Calls Tryz.prog 130 #[.pointer (some ⟨g,k*8,none⟩),.int .u64 t] W fun e w'=>e=.returned (.bool ((nd.p.age t).lags t))∧W=w'):=fun W hT=>by
  obtain⟨n1,e1,hb1⟩:=hT;have hn1:=ZY n1 hnd;rw[←e1];exact dlags W g (k*8) n1.p t (hb1.1.nodeC hn1 ho 0 (by omega) _ rfl) (hb1.1.nodeC hn1 ho 2 (by omega) _ rfl) (by rw[e1];exact hz)
 have HFA:Hid (∀W,Zl w b D k (nd.p.age t) W→Calls Tryz.prog 122 #[.pointer (some ⟨g,k*8,none⟩)] W fun e w'=>e=.returned (.tuple #[])∧Hid (Zl w b D k (nd.p.age t).fall.clear w')):=fun W hT=>by
  obtain⟨n1,e1,hb1⟩:=hT;refine(Zi2 W b k g _ n1 hb1.1 (ZY n1 hnd) ho).mono fun e w' hp=>⟨hp.1,?_⟩;obtain⟨n2,e2,hb2⟩:=hp.2.out;exact⟨n2,by rw[e2,e1],by have:=hb1.trans hb2;rwa [ZJ]at this⟩
 have HSE:Hid (∀W p1,p1.flight.length≤1000→Zl w b D k p1 W→Calls Tryz.prog 131 #[.pointer (some ⟨g,k*8+7,none⟩),.agg #[.int .u64 (t:Int),.int .u8 K]] W fun e w'=>e=.returned (.tuple #[])∧Hid (Zl w b D k (p1.send (t,K)) w')):=fun W p1 hl1 hT=>by
  obtain⟨n1,e1,hb1⟩:=hT;subst e1;refine(dsend W b k g _ n1 (t,K) hb1.1 (ZY n1 hnd) ho hl1).mono fun e w' hp=>⟨hp.1,?_⟩;obtain⟨n2,e2,hb2⟩:=hp.2.out;exact⟨n2,e2,by have:=hb1.trans hb2;rwa [ZJ]at this⟩
 have HL2:Hid ((nd.p.age t).flight.length≤1000):=Nat.le_trans (Zke _ _) hl;cases hlg:(nd.p.age t).lags t with
 |true=>
  rw[hlg]at HLG;have HE:Hid (nd.p.tell t K=(nd.p.age t).fall.clear.send (t,K)):=by show _=_;rw[Zb.tell,hlg];rfl
  clear h hnd ho hl hs hz hlg;go_enter Tryz.func76,Tryz.ntmps76
  go_wp2_with first
   |(go_at_call 129;refine HA.out.mono ?_;rintro e w1 ⟨rfl,HT1⟩)
   |(go_at_call 130;refine(HLG.out _ HT1.out).mono ?_;rintro e w2 ⟨rfl,rfl⟩)
   |(go_at_call 122;refine(HFA.out _ HT1.out).mono ?_;rintro e w2 ⟨rfl,HT2⟩)
   |(go_at_call 131;refine(HSE.out _ _ (by show([]:List (Nat×Int)).length≤1000;simp) HT2.out).mono ?_;rintro e w3 ⟨rfl,HT3⟩)
  go_end0
  exact⟨rfl,by rw[HE.out];exact HT3⟩
 |false=>
  rw[hlg]at HLG;have HE:Hid (nd.p.tell t K=(nd.p.age t).send (t,K)):=by show _=_;rw[Zb.tell,hlg];rfl
  clear h hnd ho hl hs hz hlg;go_enter Tryz.func76,Tryz.ntmps76
  go_wp2_with first
   |(go_at_call 129;refine HA.out.mono ?_;rintro e w1 ⟨rfl,HT1⟩)
   |(go_at_call 130;refine(HLG.out _ HT1.out).mono ?_;rintro e w2 ⟨rfl,rfl⟩)
   |(go_at_call 131;refine(HSE.out _ _ HL2.out HT1.out).mono ?_;rintro e w3 ⟨rfl,HT3⟩)
  go_end0
  exact⟨rfl,by rw[HE.out];exact HT3⟩
theorem ZgT (w:World)(b:Nat)(D:Ze)(t:Nat)(p:Zj)(h:Dev w b D)(hf:D.Fit)(hp:D.past[t]?=some p):
 Calls Tryz.prog 75 #[.pointer (some ⟨b,0,none⟩),.int .u64 ((t:Int)+1)] w fun e w'=>e=.returned (.int .u8 p.keys)∧w=w':=by
 have hm:=hf.pmax;obtain⟨hlt,hp'⟩:=List.getElem?_eq_some_iff.mp hp;obtain⟨g,cap,hv,ho,_⟩:=h.past.block (by omega);have c1:=h.c1;rw[hv]at c1;have hc8:w.cell? ⟨g,t*10+8,none⟩=some (.int .u8 p.keys):=h.past.cell ho _ _ (by rw[Vk D.past t hlt 8 (by omega),hp'];rfl);have HN:Hid (Calls Tryz.prog 80 #[.pointer (some ⟨b,0,none⟩)] w fun e w'=>e=.returned (.int .u64 (D.past.length:Int))∧w=w'):=Zah w b D h hf;have hb:((t:Int)+1==0)=false:=beq_eq_false_iff_ne.mpr (by omega);have hd:¬(D.past.length:Int)<(t:Int)+1:=by omega
 have ht0:(0:Int)≤(t:Int):=by omega
 have ht1:(t:Int)<(D.past.length:Int):=by omega
 clear h hf hv ho hp hp';go_enter Tryz.func75,Tryz.ntmps75
 go_wp2_with (go_at_call 80;refine HN.out.mono ?_;rintro e w1 ⟨rfl,rfl⟩)
 go_ret;exact⟨rfl,rfl⟩
theorem Xc (w:World)(b:Nat)(D:Ze)(i:Int)(h:Dev w b D)(hi:i<0∨(D.nodes.length:Int)≤i):
 Calls Tryz.prog 106 #[.pointer (some ⟨b,0,none⟩),.int .i64 i] w fun e w'=>e=.returned (.tuple #[.pointer none,.int .i64 9])∧w=w':=by
 obtain⟨av,cv,hv,_⟩:=h.nodes.form;have c28:=h.c28;rw[hv]at c28;by_cases h0:i<0
 · have hd:decide (i<0)=true:=by simpa using h0
   clear h hv hi;go_enter Tryz.func106,Tryz.ntmps106;go_wp2;go_ret2;exact⟨rfl,rfl⟩
 · have hd:decide (i<0)=false:=by simpa using h0
   have h1:(D.nodes.length:Int)≤i:=by omega
   clear h hv hi;go_enter Tryz.func106,Tryz.ntmps106;go_wp2;go_ret2;exact⟨rfl,rfl⟩
theorem Zbl (w:World)(b k g:Nat)(D:Ze)(h:Dev w b D)(hk:k<D.nodes.length)(ho:D.vn.ownBlock=some g):
 Calls Tryz.prog 106 #[.pointer (some ⟨b,0,none⟩),.int .i64 (k:Int)] w fun e w'=>e=.returned (.tuple #[.pointer (some ⟨g,k*8,none⟩),.int .i64 0])∧w=w':=by
 obtain⟨g',cv,hv,ho',_⟩:=h.nodes.block (by omega);rw[ho]at ho';injection ho' with ho';subst ho';have c28:=h.c28;rw[hv]at c28;have hd:decide ((k:Int)<0)=false:=by simp
 have hd2:¬D.nodes.length≤k:=by omega
 have hk0:(0:Int)≤(k:Int):=by omega
 have hk1:(k:Int)<(D.nodes.length:Int):=by omega
 clear h hv ho;go_enter Tryz.func106,Tryz.ntmps106;go_wp2;go_ret2;exact⟨rfl,rfl⟩
theorem Zl.goes {w w':World}{b k:Nat}{D:Ze}{p:Zb}(h:Zl w b D k p w'):Z2 w b D (D.pu.put (k:Int) p) w':=by
 obtain⟨nd,e,hb⟩:=h;exact⟨_,by rw[Ze.pu_put,e],hb⟩
theorem dEvict (w:World)(b:Nat)(D:Ze)(k i:Int)(h:Dev w b D)(hw:D.Walk):
 Calls Tryz.prog 47 #[.pointer (some ⟨b,0,none⟩),.int .i64 k,.int .i64 i] w fun e w'=>e=.returned (.int .i64 (D.pu.evict k i).1)∧Z2 w b D (D.pu.evict k i).2 w':=by
 by_cases hk:k<0∨(D.nodes.length:Int)≤k
 · have HS:Hid (Calls Tryz.prog 106 #[.pointer (some ⟨b,0,none⟩),.int .i64 k] w fun e w'=>e=.returned (.tuple #[.pointer none,.int .i64 9])∧w=w'):=Xc w b D k h hk;have HE:Hid (D.pu.evict k i=(9,D.pu)):=by show _=_;rw[DP.evict,Ze.pu_none hk]
   have HG:Hid (Z2 w b D D.pu w):=Z2.of_kept h (Za.refl _ _);clear h hw hk;go_enter Tryz.func47,Tryz.ntmps47
   go_wp2_with (go_at_call 106;refine HS.out.mono ?_;rintro e w1 ⟨rfl,rfl⟩)
   go_ret;exact⟨by rw[HE.out];rfl,by rw[HE.out];exact HG.out⟩
 · obtain⟨k,rfl⟩:∃j:Nat,k=j:=⟨k.toNat,by omega⟩;have hkl:k<D.nodes.length:=by omega
   obtain⟨nd,hnd⟩:∃nd,D.nodes[k]?=some nd:=⟨_,List.getElem?_eq_getElem hkl⟩;have hW:=hw.nodes nd (List.mem_of_getElem? hnd);obtain⟨g,_,_,ho,_⟩:=h.nodes.block hw.n1;have HS:Hid (Calls Tryz.prog 106 #[.pointer (some ⟨b,0,none⟩),.int .i64 (k:Int)] w fun e w'=>e=.returned (.tuple #[.pointer (some ⟨g,k*8,none⟩),.int .i64 0])∧w=w'):=Zbl w b k g D h hkl ho;have hsite:=D.pu_site hnd;have HT:Hid (∀p w',Zl w b D k p w'→Z2 w b D (D.pu.put (k:Int) p) w'):=fun p w' hT=>hT.goes;have HC:Hid (Calls Tryz.prog 107 #[.pointer (some ⟨g,k*8,none⟩),.int .i64 i] w fun e w'=>∃er:Int,e=.returned (.int .i64 er)∧Hid ((D.pu.evict k i).1=er∧Z2 w b D (D.pu.evict k i).2 w')):=(Zkp w b k g D nd i h hnd ho (by have:=hW.el;omega)).mono fun e w' hp=>by
    rcases hp with⟨hb,e1,rfl⟩|⟨j,rfl,hj,e1,hT⟩
    · refine⟨10,e1,?_⟩;rw[DP.evict,hsite];dsimp only;rw[if_pos hb];exact⟨rfl,Z2.of_kept h (Za.refl _ _)⟩
    · refine⟨0,e1,?_⟩;rw[DP.evict,hsite];dsimp only;rw[if_neg (by omega)];exact⟨rfl,HT.out _ _ hT.out⟩
   clear h hw hk hnd ho hW hsite;go_enter Tryz.func47,Tryz.ntmps47
   go_wp2_with first
    |(go_at_call 106;refine HS.out.mono ?_;rintro e w1 ⟨rfl,rfl⟩)
    |(go_at_call 107;refine HC.out.mono ?_;rintro e w2 ⟨er,rfl,hr⟩)
   go_ret;exact⟨by rw[hr.out.1];rfl,hr.out.2⟩
theorem dLose (w:World)(b:Nat)(D:Ze)(k i:Int)(h:Dev w b D)(hw:D.Walk):
 Calls Tryz.prog 59 #[.pointer (some ⟨b,0,none⟩),.int .i64 k,.int .i64 i] w fun e w'=>e=.returned (.int .i64 (D.pu.lose k i).1)∧Z2 w b D (D.pu.lose k i).2 w':=by
 by_cases hk:k<0∨(D.nodes.length:Int)≤k
 · have HS:Hid (Calls Tryz.prog 106 #[.pointer (some ⟨b,0,none⟩),.int .i64 k] w fun e w'=>e=.returned (.tuple #[.pointer none,.int .i64 9])∧w=w'):=Xc w b D k h hk;have HE:Hid (D.pu.lose k i=(9,D.pu)):=by show _=_;rw[DP.lose,Ze.pu_none hk]
   have HG:Hid (Z2 w b D D.pu w):=Z2.of_kept h (Za.refl _ _);clear h hw hk;go_enter Tryz.func59,Tryz.ntmps59
   go_wp2_with (go_at_call 106;refine HS.out.mono ?_;rintro e w1 ⟨rfl,rfl⟩)
   go_ret;exact⟨by rw[HE.out];rfl,by rw[HE.out];exact HG.out⟩
 · obtain⟨k,rfl⟩:∃j:Nat,k=j:=⟨k.toNat,by omega⟩;have hkl:k<D.nodes.length:=by omega
   obtain⟨nd,hnd⟩:∃nd,D.nodes[k]?=some nd:=⟨_,List.getElem?_eq_getElem hkl⟩;have hW:=hw.nodes nd (List.mem_of_getElem? hnd);obtain⟨g,_,_,ho,_⟩:=h.nodes.block hw.n1;have HS:Hid (Calls Tryz.prog 106 #[.pointer (some ⟨b,0,none⟩),.int .i64 (k:Int)] w fun e w'=>e=.returned (.tuple #[.pointer (some ⟨g,k*8,none⟩),.int .i64 0])∧w=w'):=Zbl w b k g D h hkl ho;have hsite:=D.pu_site hnd;have HT:Hid (∀p w',Zl w b D k p w'→Z2 w b D (D.pu.put (k:Int) p) w'):=fun p w' hT=>hT.goes;have HC:Hid (Calls Tryz.prog 111 #[.pointer (some ⟨g,k*8+7,none⟩),.int .i64 i] w fun e w'=>∃(a c er:Int),e=.returned (.tuple #[.agg #[.int .u64 a,.int .u8 c],.int .i64 er])∧Hid ((D.pu.lose k i).1=er∧Z2 w b D (D.pu.lose k i).2 w')):=(Zgk w b k g D nd i h hnd ho hW.fl).mono fun e w' hp=>by
    rcases hp with⟨hb,e1,hk1⟩|⟨j,x,rfl,hj,e1,hT⟩
    · refine⟨0,0,10,e1,?_⟩;rw[DP.lose,hsite];dsimp only;rw[if_pos hb];exact⟨rfl,Z2.of_kept h hk1⟩
    · have hjl:=(List.getElem?_eq_some_iff.mp hj).1;refine⟨_,_,0,e1,?_⟩;rw[DP.lose,hsite];dsimp only;rw[if_neg (by omega)];exact⟨rfl,HT.out _ _ hT.out⟩
   clear h hw hk hnd ho hW hsite;go_enter Tryz.func59,Tryz.ntmps59
   go_wp2_with first
    |(go_at_call 106;refine HS.out.mono ?_;rintro e w1 ⟨rfl,rfl⟩)
    |(go_at_call 111;refine HC.out.mono ?_;rintro e w2 ⟨a,c,er,rfl,hr⟩)
   go_ret;exact⟨by rw[hr.out.1];rfl,hr.out.2⟩
theorem dCopy (w:World)(b:Nat)(D:Ze)(k i:Int)(h:Dev w b D)(hw:D.Walk):
 Calls Tryz.prog 61 #[.pointer (some ⟨b,0,none⟩),.int .i64 k,.int .i64 i] w fun e w'=>e=.returned (.int .i64 (D.pu.copy k i).1)∧Z2 w b D (D.pu.copy k i).2 w':=by
 by_cases hk:k<0∨(D.nodes.length:Int)≤k
 · have HS:Hid (Calls Tryz.prog 106 #[.pointer (some ⟨b,0,none⟩),.int .i64 k] w fun e w'=>e=.returned (.tuple #[.pointer none,.int .i64 9])∧w=w'):=Xc w b D k h hk;have HE:Hid (D.pu.copy k i=(9,D.pu)):=by show _=_;rw[DP.copy,Ze.pu_none hk]
   have HG:Hid (Z2 w b D D.pu w):=Z2.of_kept h (Za.refl _ _);clear h hw hk;go_enter Tryz.func61,Tryz.ntmps61
   go_wp2_with (go_at_call 106;refine HS.out.mono ?_;rintro e w1 ⟨rfl,rfl⟩)
   go_ret;exact⟨by rw[HE.out];rfl,by rw[HE.out];exact HG.out⟩
 · obtain⟨k,rfl⟩:∃j:Nat,k=j:=⟨k.toNat,by omega⟩;have hkl:k<D.nodes.length:=by omega
   obtain⟨nd,hnd⟩:∃nd,D.nodes[k]?=some nd:=⟨_,List.getElem?_eq_getElem hkl⟩;have hW:=hw.nodes nd (List.mem_of_getElem? hnd);obtain⟨g,_,_,ho,_⟩:=h.nodes.block hw.n1;have HS:Hid (Calls Tryz.prog 106 #[.pointer (some ⟨b,0,none⟩),.int .i64 (k:Int)] w fun e w'=>e=.returned (.tuple #[.pointer (some ⟨g,k*8,none⟩),.int .i64 0])∧w=w'):=Zbl w b k g D h hkl ho;have hsite:=D.pu_site hnd;have HT:Hid (∀p w',Zl w b D k p w'→Z2 w b D (D.pu.put (k:Int) p) w'):=fun p w' hT=>hT.goes;have HC:Hid (Calls Tryz.prog 117 #[.pointer (some ⟨g,k*8+7,none⟩),.int .i64 i] w fun e w'=>∃er:Int,e=.returned (.int .i64 er)∧Hid ((D.pu.copy k i).1=er∧Z2 w b D (D.pu.copy k i).2 w')):=(dcopyf w b k g D nd i h hnd ho hW.fl).mono fun e w' hp=>by
    rcases hp with⟨hb,e1,rfl⟩|⟨j,x,rfl,hj,hp⟩
    · refine⟨10,e1,?_⟩;have e2:D.pu.copy k i=(10,D.pu):=by
       rw[DP.copy,hsite];dsimp only;by_cases h0:i<0
       · rw[if_pos h0]
       · rw[if_neg h0,List.getElem?_eq_none_iff.mpr (by omega)]
      rw[e2];exact⟨rfl,Z2.of_kept h (Za.refl _ _)⟩
    · have e2:D.pu.copy k (j:Int)=if 12≤nd.p.flight.length then(6,D.pu)else(0,D.pu.put k (nd.p.copy x)):=by
       rw[DP.copy,hsite];dsimp only;rw[if_neg (by omega),Int.toNat_natCast,hj]
      rw[e2];rcases hp with⟨h12,e1,rfl⟩|⟨h12,e1,hT⟩
      · refine⟨6,e1,?_⟩;rw[if_pos h12];exact⟨rfl,Z2.of_kept h (Za.refl _ _)⟩
      · refine⟨0,e1,?_⟩;rw[if_neg (by omega)];exact⟨rfl,HT.out _ _ hT.out⟩
   clear h hw hk hnd ho hW hsite;go_enter Tryz.func61,Tryz.ntmps61
   go_wp2_with first
    |(go_at_call 106;refine HS.out.mono ?_;rintro e w1 ⟨rfl,rfl⟩)
    |(go_at_call 117;refine HC.out.mono ?_;rintro e w2 ⟨er,rfl,hr⟩)
   go_ret;exact⟨by rw[hr.out.1];rfl,hr.out.2⟩
theorem Zji (w:World)(b:Nat)(D:Ze)(k:Int)(h:Dev w b D)(hw:D.Walk):
 Calls Tryz.prog 65 #[.pointer (some ⟨b,0,none⟩),.int .i64 k] w fun e w'=>e=.returned (.int .i64 (D.pu.restart k).1)∧Z2 w b D (D.pu.restart k).2 w':=by
 by_cases hk:k<0∨(D.nodes.length:Int)≤k
 · have HS:Hid (Calls Tryz.prog 106 #[.pointer (some ⟨b,0,none⟩),.int .i64 k] w fun e w'=>e=.returned (.tuple #[.pointer none,.int .i64 9])∧w=w'):=Xc w b D k h hk;have HE:Hid (D.pu.restart k=(9,D.pu)):=by show _=_;rw[DP.restart,Ze.pu_none hk]
   have HG:Hid (Z2 w b D D.pu w):=Z2.of_kept h (Za.refl _ _);clear h hw hk;go_enter Tryz.func65,Tryz.ntmps65
   go_wp2_with (go_at_call 106;refine HS.out.mono ?_;rintro e w1 ⟨rfl,rfl⟩)
   go_ret;exact⟨by rw[HE.out];rfl,by rw[HE.out];exact HG.out⟩
 · obtain⟨k,rfl⟩:∃j:Nat,k=j:=⟨k.toNat,by omega⟩;have hkl:k<D.nodes.length:=by omega
   obtain⟨nd,hnd⟩:∃nd,D.nodes[k]?=some nd:=⟨_,List.getElem?_eq_getElem hkl⟩;have hW:=hw.nodes nd (List.mem_of_getElem? hnd);obtain⟨g,_,_,ho,_⟩:=h.nodes.block hw.n1;have HS:Hid (Calls Tryz.prog 106 #[.pointer (some ⟨b,0,none⟩),.int .i64 (k:Int)] w fun e w'=>e=.returned (.tuple #[.pointer (some ⟨g,k*8,none⟩),.int .i64 0])∧w=w'):=Zbl w b k g D h hkl ho;have hsite:=D.pu_site hnd;have HT:Hid (∀p w',Zl w b D k p w'→Z2 w b D (D.pu.put (k:Int) p) w'):=fun p w' hT=>hT.goes;have HC:Hid (Calls Tryz.prog 122 #[.pointer (some ⟨g,k*8,none⟩)] w fun e w'=>e=.returned (.tuple #[])∧Hid ((D.pu.restart k).1=0∧Z2 w b D (D.pu.restart k).2 w')):=(Zi2 w b k g D nd h hnd ho).mono fun e w' hp=>by
    refine⟨hp.1,?_⟩;rw[DP.restart,hsite];exact⟨rfl,HT.out _ _ hp.2.out⟩
   clear h hw hk hnd ho hW hsite;go_enter Tryz.func65,Tryz.ntmps65
   go_wp2_with first
    |(go_at_call 106;refine HS.out.mono ?_;rintro e w1 ⟨rfl,rfl⟩)
    |(go_at_call 122;refine HC.out.mono ?_;rintro e w2 ⟨rfl,hr⟩)
   go_ret;exact⟨by rw[hr.out.1];rfl,hr.out.2⟩
theorem Zja (w:World)(b:Nat)(D:Ze)(k i:Int)(h:Dev w b D)(hw:D.Walk):
 Calls Tryz.prog 57 #[.pointer (some ⟨b,0,none⟩),.int .i64 k,.int .i64 i] w fun e w'=>e=.returned (.int .i64 (D.pu.deliver k i).1)∧Z2 w b D (D.pu.deliver k i).2 w':=by
 by_cases hk:k<0∨(D.nodes.length:Int)≤k
 · have HS:Hid (Calls Tryz.prog 106 #[.pointer (some ⟨b,0,none⟩),.int .i64 k] w fun e w'=>e=.returned (.tuple #[.pointer none,.int .i64 9])∧w=w'):=Xc w b D k h hk;have HE:Hid (D.pu.deliver k i=(9,D.pu)):=by show _=_;rw[DP.deliver,Ze.pu_none hk]
   have HG:Hid (Z2 w b D D.pu w):=Z2.of_kept h (Za.refl _ _);clear h hw hk;go_enter Tryz.func57,Tryz.ntmps57
   go_wp2_with (go_at_call 106;refine HS.out.mono ?_;rintro e w1 ⟨rfl,rfl⟩)
   go_ret;exact⟨by rw[HE.out];rfl,by rw[HE.out];exact HG.out⟩
 · obtain⟨k,rfl⟩:∃j:Nat,k=j:=⟨k.toNat,by omega⟩;have hkl:k<D.nodes.length:=by omega
   obtain⟨nd,hnd⟩:∃nd,D.nodes[k]?=some nd:=⟨_,List.getElem?_eq_getElem hkl⟩;have hW:=hw.nodes nd (List.mem_of_getElem? hnd);obtain⟨g,_,_,ho,_⟩:=h.nodes.block hw.n1;have HS:Hid (Calls Tryz.prog 106 #[.pointer (some ⟨b,0,none⟩),.int .i64 (k:Int)] w fun e w'=>e=.returned (.tuple #[.pointer (some ⟨g,k*8,none⟩),.int .i64 0])∧w=w'):=Zbl w b k g D h hkl ho;have hsite:=D.pu_site hnd;have HT:Hid (∀p w',Zl w b D k p w'→Z2 w b D (D.pu.put (k:Int) p) w'):=fun p w' hT=>hT.goes;by_cases hi:i<0∨(nd.p.flight.length:Int)≤i
   · have HC:Hid (Calls Tryz.prog 111 #[.pointer (some ⟨g,k*8+7,none⟩),.int .i64 i] w fun e w'=>e=.returned (.tuple #[.agg #[.int .u64 0,.int .u8 0],.int .i64 10])∧Za (fun _=>False) w w'):=(Zgk w b k g D nd i h hnd ho hW.fl).mono fun e w' hp=>by
      rcases hp with⟨hb,e1,hk1⟩|⟨j,x,rfl,hj,_⟩
      · exact⟨e1,hk1⟩
      · have:=(List.getElem?_eq_some_iff.mp hj).1;omega
     have HE:Hid (D.pu.deliver k i=(10,D.pu)):=by
      show _=_;rw[DP.deliver,hsite];dsimp only;by_cases h0:i<0
      · rw[if_pos h0]
      · rw[if_neg h0,List.getElem?_eq_none_iff.mpr (by omega)]
     have HG:Hid (∀W,Za (fun _=>False) w W→Z2 w b D D.pu W):=fun W hW=>Z2.of_kept h hW;clear h hw hk hnd ho hW hsite hi;go_enter Tryz.func57,Tryz.ntmps57
     go_wp2_with first
      |(go_at_call 106;refine HS.out.mono ?_;rintro e w1 ⟨rfl,rfl⟩)
      |(go_at_call 111;refine HC.out.mono ?_;rintro e w2 ⟨rfl,hk2⟩)
     go_ret;exact⟨by rw[HE.out];rfl,by rw[HE.out];exact HG.out _ (hk2.allocNew _)⟩
   · obtain⟨j,rfl⟩:∃j:Nat,i=j:=⟨i.toNat,by omega⟩;obtain⟨x,hx⟩:∃x,nd.p.flight[j]?=some x:=⟨_,List.getElem?_eq_getElem (by omega)⟩;have HE:Hid (D.pu.deliver k (j:Int)=(0,D.pu.put k ((nd.p.take j).arrive x.1 x.2))):=by
      show _=_;rw[DP.deliver,hsite];dsimp only;rw[if_neg (by omega),Int.toNat_natCast,hx]
     have hxs:x.1≤1000000:=hW.fs x (List.mem_of_getElem? hx);have HC:Hid (Calls Tryz.prog 111 #[.pointer (some ⟨g,k*8+7,none⟩),.int .i64 (j:Int)] w fun e w'=>e=.returned (.tuple #[.agg #[.int .u64 (x.1:Int),.int .u8 x.2],.int .i64 0])∧Hid (Zl w b D k (nd.p.take j) w')):=(Zgk w b k g D nd j h hnd ho hW.fl).mono fun e w' hp=>by
      rcases hp with⟨hb,_⟩|⟨j',x',e0,hj,e1,hT⟩
      · omega
      · obtain rfl:j=j':=by omega
        rw[hx]at hj;injection hj with hj;subst hj;exact⟨e1,hT⟩
     have HA:Hid (∀W W',Zl w b D k (nd.p.take j) W→Za (fun _=>False) W W'→Calls Tryz.prog 112 #[.pointer (some ⟨g,k*8,none⟩),.int .u64 (x.1:Int),.int .u8 x.2] W' fun e w'=>e=.returned (.tuple #[])∧Hid (Z2 w b D (D.pu.put k ((nd.p.take j).arrive x.1 x.2)) w')):=fun W W' hT0 hk0=>by
      obtain⟨n1,e1,hb1⟩:=hT0.then hk0;have hok:n1.p.Ok 900000:=by rw[e1];exact⟨hW.ok.hz,hW.ok.hl,hW.ok.wl,hW.ok.el,hW.ok.eq⟩
      refine(Zkd W' b k g _ n1 x.1 x.2 hb1.1 (ZY n1 hnd) ho hok hxs).mono fun e w' hp=>⟨hp.1,HT.out _ _ ?_⟩;obtain⟨n2,e2,hb2⟩:=hp.2.out;exact⟨n2,by rw[e2,e1],by have:=hb1.trans hb2;rwa [ZJ]at this⟩
     clear h hw hk hnd ho hW hsite hi hx;go_enter Tryz.func57,Tryz.ntmps57
     go_wp2_with first
      |(go_at_call 106;refine HS.out.mono ?_;rintro e w1 ⟨rfl,rfl⟩)
      |(go_at_call 111;refine HC.out.mono ?_;rintro e w2 ⟨rfl,HT2⟩)
     have HA2:Hid (∀n,Calls Tryz.prog 112 #[.pointer (some ⟨g,k*8,none⟩),.int .u64 (x.1:Int),.int .u8 x.2] ((w2.alloc (.cells #[.int .u64 (x.1:Int),.int .u8 x.2] 192)).drewN n) fun e w'=>e=.returned (.tuple #[])∧Hid (Z2 w b D (D.pu.put k ((nd.p.take j).arrive x.1 x.2)) w')):=fun n=>HA.out _ _ HT2.out ((Za.alloc _ _ _).drewN n)
     go_region_with ((go_at_call 112;refine(HA2.out _).mono ?_;rintro e w3 ⟨rfl,hG⟩))
     all_goals
      go_wp2;go_ret;exact⟨by rw[HE.out];rfl,by rw[HE.out];exact hG.out⟩
end Go.Proofs.YtpfcacedpkaihaaGreat
