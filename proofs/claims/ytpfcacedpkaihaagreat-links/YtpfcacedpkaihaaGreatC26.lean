import Derived.Deep.RegionHeld3
import Derived.Test.YtpfcacedpkaihaaGreatC22
namespace Go.Proofs.YtpfcacedpkaihaaGreat
open Go.RowKit
set_option maxRecDepth 100000
set_option maxHeartbeats 16000000
theorem Zga (w:World)(nd:Zi)(ge ce:Nat)(nm:Value)(q:ByteArray)(sl sh:Nat)(hre:Row w 55 6 (.slice (some ⟨ge,0,none⟩) nd.ents.length ce) nd.ents.length (nd.ents.flatMap Zk))(hn:nd.ents.length≤1000)(hfit:∀e∈nd.ents,e.Fit)(hz:nd.horizon≤700):
 Calls Tryz.prog 94 #[.agg #[.bool nd.up,.int .u64 (nd.since:Int),.int .u64 (nd.horizon:Int),nd.fl,nd.wt,.slice (some ⟨ge,0,none⟩) nd.ents.length ce,nm],.string q,.agg #[.int .u64 sl,.int .u64 sh]] w fun e w'=>
  e=.returned (.int .i64 (Xz nd.up nd.horizon q sl sh nd.ents nd.ents.length))∧Za (fun _=>False) w w':=by
 have HE:Hid (∀i (hi:i<nd.ents.length),∀f,f<6→w.cell? ⟨ge,i*6+f,none⟩=(Zk nd.ents[i])[f]?):=fun i hi f hf=>by
  have hx:=ZO Zk 6 (fun _=>rfl) nd.ents i hi f hf;obtain⟨u,hu⟩:∃u,(Zk nd.ents[i])[f]?=some u:=⟨_,List.getElem?_eq_getElem (show f<6 from hf)⟩;rw[hu]at hx;rw[hu];exact hre.cell rfl _ _ hx
 have HF:=hid hfit;generalize nd.fl=fl at*
 generalize nd.wt=wt at*
 obtain⟨A,hA⟩:∃A:Nat→Int,∀i,A i=Xz nd.up nd.horizon q sl sh nd.ents i:=⟨_,fun _=>rfl⟩;rw[←hA];have HA:=hid hA;clear hre hfit hA;go_enter Tryz.func94,Tryz.ntmps94;go_wp2
 go_loopw [7,8] (fun bv iv wr=>∃i:Nat,i≤nd.ents.length∧iv=.int .i64 i∧bv=.int .i64 (A i)∧Hid (Za (fun _=>False) w wr∧Blk wr w.heap.size 146 #[.bool nd.up,.int .u64 (nd.since:Int),.int .u64 (nd.horizon:Int),fl,wt,.slice (some ⟨ge,0,none⟩) nd.ents.length ce,nm]∧Blk wr (w.heap.size+1) 88 #[.int .u64 sl,.int .u64 sh])) (fun _ iv _=>nd.ents.length-(intOf iv).toNat)
 case atStart=>exact⟨0,Nat.zero_le _,rfl,by rw[HA.out];rfl,(Za.alloc _ _ (fun _=>False)).trans (Za.alloc _ _ (fun _=>False)) (fun _=>id) (fun _ _=>id),(Blk.new _ _ _).kept (Za.alloc _ _ (fun _=>False)) id,by simpa using Blk.new (w.alloc _) _ _⟩
 case round=>
  obtain⟨i,hi,rfl,rfl,HB⟩:=hrel;have d5:wr.cell? ⟨w.heap.size,5,none⟩=some (.slice (some ⟨ge,0,none⟩) nd.ents.length ce):=HB.out.2.1.cell 5;by_cases hlt:i<nd.ents.length
  · obtain⟨x,hx⟩:∃x,x=nd.ents[i]:=⟨_,rfl⟩;have hx':nd.ents[i]?=some x:=by rw[hx];exact List.getElem?_eq_getElem hlt
    have hxf:x.Fit:=HF.out x (by rw[hx];exact List.getElem_mem hlt);have x0:wr.cell? ⟨ge,i*6,none⟩=some (.string x.q):=HB.out.1.hold ((HE.out i hlt 0 (by omega)).trans (by rw[←hx];rfl));have x1:wr.cell? ⟨ge,i*6+1,none⟩=some (.int .i32 x.val):=HB.out.1.hold ((HE.out i hlt 1 (by omega)).trans (by rw[←hx];rfl));have x2:wr.cell? ⟨ge,i*6+2,none⟩=some (.int .u64 (x.fr:Int)):=HB.out.1.hold ((HE.out i hlt 2 (by omega)).trans (by rw[←hx];rfl));have x3:wr.cell? ⟨ge,i*6+3,none⟩=some (.int .u64 (x.till:Int)):=HB.out.1.hold ((HE.out i hlt 3 (by omega)).trans (by rw[←hx];rfl));have x4:wr.cell? ⟨ge,i*6+4,none⟩=some (.bool x.op):=HB.out.1.hold ((HE.out i hlt 4 (by omega)).trans (by rw[←hx];rfl));have x5:wr.cell? ⟨ge,i*6+5,none⟩=some (.int .u64 (x.kn:Int)):=HB.out.1.hold ((HE.out i hlt 5 (by omega)).trans (by rw[←hx];rfl));have hi0:(0:Int)≤(i:Int):=by omega
    have hi1:(i:Int)<(nd.ents.length:Int):=by omega
    have hbl:=ZbI nd.up nd.horizon q sl sh nd.ents i;have HS:Hid (A (i+1)=if nd.up=true∧Xq nd.horizon q sl sh x∧(A i<0∨∃y,nd.ents[(A i).toNat]?=some y∧y.fr<x.fr)then(i:Int)else A i):=by show _=_;rw[HA.out,HA.out,Xz,hx']
    rw[←HA.out]at hbl;obtain⟨L,hL⟩:∃L,L=lastE x nd.horizon:=⟨_,rfl⟩;have HLA:Hid (∀W,Calls Tryz.prog 96 #[.agg #[.string x.q,.int .i32 x.val,.int .u64 (x.fr:Int),.int .u64 (x.till:Int),.bool x.op,.int .u64 (x.kn:Int)],.int .u64 (nd.horizon:Int)] W fun e w'=>e=.returned (.int .u64 (L:Int))∧(∀b f,b<W.heap.size→w'.cell? ⟨b,f,none⟩=W.cell? ⟨b,f,none⟩)∧(∀b f,b<W.heap.size→w'.frozen? ⟨b,f,none⟩=W.frozen? ⟨b,f,none⟩)∧W.heap.size≤w'.heap.size∧Hid (Za (fun _=>False) W w')):=fun W=>by
     rw[hL];refine(rlast W (.string x.q) x.val x.fr x.till x.kn nd.horizon x.op ⟨_,rfl⟩ hxf.1 ⟨hxf.2.1,hxf.2.2,hz⟩).mono fun e w' hp=> ?_;obtain⟨e1,hb⟩:=hp;exact⟨e1,fun b f hbl=>World.cell?_of_block (a:=⟨b,f,none⟩) (hb.block b hbl),fun b f hbl=>World.frozen?_of_block (a:=⟨b,f,none⟩) (hb.block b hbl),hb.size,Za.of_below hb _⟩
    obtain⟨mb,hmb⟩:∃mb,mb=decide (((max sl x.fr:Nat):Int)≤((min sh L:Nat):Int)):=⟨_,rfl⟩;have HLB:Hid (∀W,Calls Tryz.prog 95 #[.agg #[.int .u64 (sl:Int),.int .u64 (sh:Int)],.agg #[.int .u64 (x.fr:Int),.int .u64 (L:Int)]] W fun e w'=>e=.returned (.tuple #[.agg #[.int .u64 ((max sl x.fr:Nat):Int),.int .u64 ((min sh L:Nat):Int)],.bool mb])∧(∀b f,b<W.heap.size→w'.cell? ⟨b,f,none⟩=W.cell? ⟨b,f,none⟩)∧(∀b f,b<W.heap.size→w'.frozen? ⟨b,f,none⟩=W.frozen? ⟨b,f,none⟩)∧W.heap.size≤w'.heap.size∧Hid (Za (fun _=>False) W w')):=fun W=>by
     rw[hmb];refine(rboth W sl sh x.fr L).mono fun e w' hp=> ?_;obtain⟨e1,hb⟩:=hp;exact⟨e1,fun b f hbl=>World.cell?_of_block (a:=⟨b,f,none⟩) (hb.block b hbl),fun b f hbl=>World.frozen?_of_block (a:=⟨b,f,none⟩) (hb.block b hbl),hb.size,Za.of_below hb _⟩
    have HM:Hid (x.q=q→(mb=true↔Xq nd.horizon q sl sh x)):=by
     intro hq;rw[hmb,hL,decide_eq_true_iff];exact⟨fun h=>⟨hq,by omega⟩,fun h=>by have:=h.2;omega⟩
    generalize max sl x.fr=m1 at*
    generalize min sh L=m2 at*
    have hws:w.heap.size+1<wr.heap.size:=HB.out.2.2.lt;have hgs:ge<wr.heap.size:=World.block_lt_of_cell? wr _ x0;clear hx hx' hxf hL hmb
    go_wp2_with fail
    have HW:Hid (Za (fun _=>False) wr (wr.alloc (.cells #[.string x.q,.int .i32 x.val,.int .u64 (x.fr:Int),.int .u64 (x.till:Int),.bool x.op,.int .u64 (x.kn:Int)] 55))∧Blk (wr.alloc (.cells #[.string x.q,.int .i32 x.val,.int .u64 (x.fr:Int),.int .u64 (x.till:Int),.bool x.op,.int .u64 (x.kn:Int)] 55)) wr.heap.size 55 (Z8 x)):=⟨Za.alloc _ _ _,Blk.new _ _ _⟩;generalize wr.alloc (.cells #[.string x.q,.int .i32 x.val,.int .u64 (x.fr:Int),.int .u64 (x.till:Int),.bool x.op,.int .u64 (x.kn:Int)] 55)=W at HW⊢;have e0:W.cell? ⟨wr.heap.size,0,none⟩=some (.string x.q):=HW.out.2.cell 0;have e1:W.cell? ⟨wr.heap.size,1,none⟩=some (.int .i32 x.val):=HW.out.2.cell 1;have e2:W.cell? ⟨wr.heap.size,2,none⟩=some (.int .u64 (x.fr:Int)):=HW.out.2.cell 2;have e3:W.cell? ⟨wr.heap.size,3,none⟩=some (.int .u64 (x.till:Int)):=HW.out.2.cell 3;have e4:W.cell? ⟨wr.heap.size,4,none⟩=some (.bool x.op):=HW.out.2.cell 4;have e5:W.cell? ⟨wr.heap.size,5,none⟩=some (.int .u64 (x.kn:Int)):=HW.out.2.cell 5;have n2:W.cell? ⟨w.heap.size,2,none⟩=some (.int .u64 (nd.horizon:Int)):=HW.out.1.hold (HB.out.2.1.cell 2);have p0:W.cell? ⟨w.heap.size+1,0,none⟩=some (.int .u64 (sl:Int)):=HW.out.1.hold (HB.out.2.2.cell 0);have p1:W.cell? ⟨w.heap.size+1,1,none⟩=some (.int .u64 (sh:Int)):=HW.out.1.hold (HB.out.2.2.cell 1);have z1:wr.heap.size<W.heap.size:=HW.out.2.lt;have z2:w.heap.size<W.heap.size:=by omega
    have z3:w.heap.size+1<W.heap.size:=by omega
    have t1:wr.heap.size≠W.heap.size:=by omega
    have t2:w.heap.size≠W.heap.size:=by omega
    have t3:w.heap.size+1≠W.heap.size:=by omega
    have t4:=t1.symm;have t5:=t2.symm;have t6:=t3.symm;clear x0 x1 x2 x3 x4 x5 d5
    go_cut [10,11] (fun _ v wx=>v=.bool mb∧Hid (Za (fun _=>False) W wx))
    case first=>
     go_region_held3 (fun w'=>w'.cell? ⟨wr.heap.size,0,none⟩=some (.string x.q)∧w'.cell? ⟨wr.heap.size,1,none⟩=some (.int .i32 x.val)∧w'.cell? ⟨wr.heap.size,2,none⟩=some (.int .u64 (x.fr:Int))∧w'.cell? ⟨wr.heap.size,3,none⟩=some (.int .u64 (x.till:Int))∧w'.cell? ⟨wr.heap.size,4,none⟩=some (.bool x.op)∧w'.cell? ⟨wr.heap.size,5,none⟩=some (.int .u64 (x.kn:Int))∧w'.cell? ⟨w.heap.size,2,none⟩=some (.int .u64 (nd.horizon:Int))∧w'.cell? ⟨w.heap.size+1,0,none⟩=some (.int .u64 (sl:Int))∧w'.cell? ⟨w.heap.size+1,1,none⟩=some (.int .u64 (sh:Int))) (first|exact⟨Zg b0,Zg b1,Zg b2,Zg b3,Zg b4,Zg b5,Zg b6,Zg b7,Zg b8⟩|exact⟨b0,b1,b2,b3,b4,b5,b6,b7,b8⟩|exact⟨a0,a1,a2,a3,a4,a5,a6,a7,a8⟩|exact⟨Zg a0,Zg a1,Zg a2,Zg a3,Zg a4,Zg a5,Zg a6,Zg a7,Zg a8⟩|exact⟨Zo y1 b0,Zo y1 b1,Zo y1 b2,Zo y1 b3,Zo y1 b4,Zo y1 b5,Zo y2 b6,Zo y3 b7,Zo y3 b8⟩|exact⟨Zo z1 b0,Zo z1 b1,Zo z1 b2,Zo z1 b3,Zo z1 b4,Zo z1 b5,Zo z2 b6,Zo z3 b7,Zo z3 b8⟩|go_keep) (first
      |(go_at_call 96;refine(HLA.out _).mono ?_;rintro e wa ⟨rfl,ca,fa,sa,HKa⟩;have za:W.heap.size≤wa.heap.size:=(by first|exact HKa.out.size|exact Nat.le_trans (Nat.le_succ _) (by simpa using HKa.out.size));(try have q1:W.heap.size<wa.heap.size:=(ZgJ sa));have y1:wr.heap.size<wa.heap.size:=(by omega);have y2:w.heap.size<wa.heap.size:=(by omega);have y3:w.heap.size+1<wa.heap.size:=(by omega);have a0:=HKa.out.hold (by first|exact e0|exact Zg e0);have a1:=HKa.out.hold (by first|exact e1|exact Zg e1);have a2:=HKa.out.hold (by first|exact e2|exact Zg e2);have a3:=HKa.out.hold (by first|exact e3|exact Zg e3);have a4:=HKa.out.hold (by first|exact e4|exact Zg e4);have a5:=HKa.out.hold (by first|exact e5|exact Zg e5);have a6:=HKa.out.hold (by first|exact n2|exact Zg n2);have a7:=HKa.out.hold (by first|exact p0|exact Zg p0);have a8:=HKa.out.hold (by first|exact p1|exact Zg p1))
      |(go_at_call 95;refine(HLB.out _).mono ?_;rintro e wb ⟨rfl,cb,fb,sb,HKb⟩;have b0:=HKb.out.hold (by first|exact a0|exact Zg a0);have b1:=HKb.out.hold (by first|exact a1|exact Zg a1);have b2:=HKb.out.hold (by first|exact a2|exact Zg a2);have b3:=HKb.out.hold (by first|exact a3|exact Zg a3);have b4:=HKb.out.hold (by first|exact a4|exact Zg a4);have b5:=HKb.out.hold (by first|exact a5|exact Zg a5);have b6:=HKb.out.hold (by first|exact a6|exact Zg a6);have b7:=HKb.out.hold (by first|exact a7|exact Zg a7);have b8:=HKb.out.hold (by first|exact a8|exact Zg a8)))
     all_goals
      go_wp2
      go_meet
      case rel=>exact⟨rfl,Zbf (by first|exact Za.refl _ _|exact(Za.refl _ _).drew|exact(Za.refl _ _).drew.trans (Za.alloc _ _ (fun _=>False)) (fun _=>id) (fun _ _=>id)) HKa.out (by first|exact Za.refl _ _|exact(Za.refl _ _).drew|exact Za.alloc _ _ _|exact(Za.refl _ _).drew.trans (Za.alloc _ _ (fun _=>False)) (fun _=>id) (fun _ _=>id)) HKb.out (by first|exact Za.alloc _ _ _|exact Xw za|exact Xw (Nat.le_refl _)|exact(Za.alloc _ _ _).drew|exact(Xw za).drew)⟩
    case rest=>
     obtain⟨rfl,HK⟩:=hcut;have HKB:Hid (Za (fun _=>False) w wc∧Blk wc w.heap.size 146 #[.bool nd.up,.int .u64 (nd.since:Int),.int .u64 (nd.horizon:Int),fl,wt,.slice (some ⟨ge,0,none⟩) nd.ents.length ce,nm]∧Blk wc (w.heap.size+1) 88 #[.int .u64 sl,.int .u64 sh]):=by
      have kk:=HW.out.1.trans HK.out (H:=fun _=>False) (fun _=>id) (fun _ _=>id);exact⟨HB.out.1.trans kk (fun _=>id) (fun _ _=>id),HB.out.2.1.kept kk id,HB.out.2.2.kept kk id⟩
     have u0:wc.cell? ⟨w.heap.size,0,none⟩=some (.bool nd.up):=HKB.out.2.1.cell 0;have u5:wc.cell? ⟨w.heap.size,5,none⟩=some (.slice (some ⟨ge,0,none⟩) nd.ents.length ce):=HKB.out.2.1.cell 5;have g0:wc.cell? ⟨wr.heap.size,0,none⟩=some (.string x.q):=HK.out.hold e0;have g2:wc.cell? ⟨wr.heap.size,2,none⟩=some (.int .u64 (x.fr:Int)):=HK.out.hold e2;clear e0 e1 e2 e3 e4 e5 n2 p0 p1 z1 z2 z3 t1 t2 t3 t4 t5 t6 HK HLA HLB;rcases Bool.eq_false_or_eq_true nd.up with hup|hup
     rotate_left
     · rw[hup]at u0;have HN:Hid (A (i+1)=A i):=by show _=_;rw[HS.out,if_neg (by rw[hup];simp)]
       clear hup
       go_wp2_with fail
       go_quiet (fail)
       go_wp2
       go_roundw
       case rel=>exact⟨i+1,by omega,by go_num,by rw[HN.out],HKB.out.1.drewN _,HKB.out.2.1.same rfl,HKB.out.2.2.same rfl⟩
       case measure=>simp[intOf];omega
     · rw[hup]at u0;by_cases hq:x.q=q
       · have hqb:(x.q.toList==q.toList)=true:=by rw[hq];exact beq_self_eq_true _
         cases hmb:mb with
         |false=>
          have HN:Hid (A (i+1)=A i):=by
           show _=_;rw[HS.out,if_neg];rintro⟨_,hm,_⟩;have:=(HM.out hq).mpr hm;rw[hmb]at this;cases this
          clear hup hq hmb
          go_wp2_with fail
          go_quiet (fail)
          go_wp2
          go_roundw
          case rel=>exact⟨i+1,by omega,by go_num,by rw[HN.out],HKB.out.1.drewN _,HKB.out.2.1.same rfl,HKB.out.2.2.same rfl⟩
          case measure=>simp[intOf];omega
         |true=>
          have hm:=(HM.out hq).mp hmb;by_cases ha:A i<0
          · have hd:decide (A i<0)=true:=by simpa using ha
            have HN:Hid (A (i+1)=(i:Int)):=by show _=_;rw[HS.out,if_pos ⟨hup,hm,.inl ha⟩]
            clear hup hq hmb hm;generalize A i=r at*
            go_wp2_with fail
            go_quiet (fail)
            go_wp2
            go_roundw
            case rel=>exact⟨i+1,by omega,by go_num,by rw[HN.out],HKB.out.1.drewN _,HKB.out.2.1.same rfl,HKB.out.2.2.same rfl⟩
            case measure=>simp[intOf];omega
          · obtain⟨j,hj⟩:∃j:Nat,A i=j:=⟨(A i).toNat,by omega⟩;have hjl:j<nd.ents.length:=by omega
            obtain⟨y,hy⟩:∃y,y=nd.ents[j]:=⟨_,rfl⟩;have hy':nd.ents[j]?=some y:=by rw[hy];exact List.getElem?_eq_getElem hjl
            have y2:wc.cell? ⟨ge,j*6+2,none⟩=some (.int .u64 (y.fr:Int)):=HKB.out.1.hold ((HE.out j hjl 2 (by omega)).trans (by rw[←hy];rfl));have hj0:(0:Int)≤(j:Int):=by omega
            have hj1:(j:Int)<(nd.ents.length:Int):=by omega
            have hd:decide ((j:Int)<0)=false:=by simp
            have hst:=HS.out;rw[hj,Int.toNat_natCast,hy']at hst;rw[hj];by_cases hxy:y.fr<x.fr
            · have HN:Hid (A (i+1)=(i:Int)):=by show _=_;rw[hst,if_pos ⟨hup,hm,.inr ⟨y,rfl,hxy⟩⟩]
              have hd1:decide ((y.fr:Int)<(x.fr:Int))=true:=by simpa using hxy
              clear hup hq hmb hm hst hy hy' hj ha
              go_wp2_with fail
              go_quiet (fail)
              go_wp2
              go_roundw
              case rel=>exact⟨i+1,by omega,by go_num,by rw[HN.out],HKB.out.1.drewN _,HKB.out.2.1.same rfl,HKB.out.2.2.same rfl⟩
              case measure=>simp[intOf];omega
            · have HN:Hid (A (i+1)=(j:Int)):=by
               show _=_;rw[hst,if_neg];rintro⟨_,_,h1|⟨y1,h1,h2⟩⟩
               · omega
               · injection h1 with h1;subst h1;exact hxy h2
              have hd1:decide ((y.fr:Int)<(x.fr:Int))=false:=by simpa using hxy
              clear hup hq hmb hm hst hy hy' hj ha
              go_wp2_with fail
              go_quiet (fail)
              go_wp2
              go_roundw
              case rel=>exact⟨i+1,by omega,by go_num,by rw[HN.out],HKB.out.1.drewN _,HKB.out.2.1.same rfl,HKB.out.2.2.same rfl⟩
              case measure=>simp[intOf];omega
       · have hqb:(x.q.toList==q.toList)=false:=beq_eq_false_iff_ne.mpr fun h=>hq (XU h);have HN:Hid (A (i+1)=A i):=by
          show _=_;rw[HS.out,if_neg];rintro⟨_,⟨h1,_⟩,_⟩;exact hq h1
         clear hup hq
         go_wp2_with fail
         go_quiet (fail)
         go_wp2
         go_roundw
         case rel=>exact⟨i+1,by omega,by go_num,by rw[HN.out],HKB.out.1.drewN _,HKB.out.2.1.same rfl,HKB.out.2.2.same rfl⟩
         case measure=>simp[intOf];omega
  · have hin:i=nd.ents.length:=by omega
    subst hin;go_wp2;go_ret;exact⟨rfl,HB.out.1⟩
abbrev set6 (W:World)(P o:Nat)(e:Zh):World:=
 (((((W.setCell ⟨P,o,none⟩ (.string e.q)).setCell ⟨P,o+1,none⟩ (.int .i32 e.val)).setCell ⟨P,o+2,none⟩ (.int .u64 (e.fr:Int))).setCell ⟨P,o+3,none⟩ (.int .u64 (e.till:Int))).setCell ⟨P,o+4,none⟩ (.bool e.op)).setCell ⟨P,o+5,none⟩ (.int .u64 (e.kn:Int))
theorem Zac (W:World)(P o:Nat)(e:Zh):Za (fun k=>k=P) W (set6 W P o e):=by
 have st:∀(a:World)(f:Nat)(v:Value),Za (fun k=>k=P) W a→Za (fun k=>k=P) W (a.setCell ⟨P,f,none⟩ v):=fun a f v ha=>ha.trans (Za.setCell a _ v) (fun _=>id) (fun _ _ hk=>hk);exact st _ _ _ (st _ _ _ (st _ _ _ (st _ _ _ (st _ _ _ (st _ _ _ (Za.refl _ _))))))
theorem Blk.set6 {W:World}{P:Nat}{x:Zh}(h:Blk W P 55 (Z8 x))(e:Zh):Blk (set6 W P 0 e) P 55 (Z8 e):=
 (((((h.set 0 _).set 1 _).set 2 _).set 3 _).set 4 _).set 5 _
theorem Row.set6 {W:World}{v:Value}{g n j:Nat}{l:List Zh}(h:Row W 55 6 v n (l.flatMap Zk))(hg:v.ownBlock=some g)(hj:j<l.length)(e:Zh):
 Row (Go.Proofs.YtpfcacedpkaihaaGreat.set6 W g (j*6) e) 55 6 v n ((l.set j e).flatMap Zk):=by
 have s0:=Zt Zk 6 (fun _=>rfl) l j hj 0 (by omega) (.string e.q) {l[j]with q:=e.q} rfl;have r0:=h.set hg (j*6+0) (.string e.q);rw[s0]at r0;have l1:j<(l.set j {l[j]with q:=e.q}).length:=by simpa using hj
 have s1:=Zt Zk 6 (fun _=>rfl) _ j l1 1 (by omega) (.int .i32 e.val) {l[j]with q:=e.q,val:=e.val} (by rw[List.getElem_set_self];rfl);have r1:=r0.set hg (j*6+1) (.int .i32 e.val);rw[s1,List.set_set]at r1;have l2:j<(l.set j {l[j]with q:=e.q,val:=e.val}).length:=by simpa using hj
 have s2:=Zt Zk 6 (fun _=>rfl) _ j l2 2 (by omega) (.int .u64 (e.fr:Int)) {l[j]with q:=e.q,val:=e.val,fr:=e.fr} (by rw[List.getElem_set_self];rfl);have r2:=r1.set hg (j*6+2) (.int .u64 (e.fr:Int));rw[s2,List.set_set]at r2;have l3:j<(l.set j {l[j]with q:=e.q,val:=e.val,fr:=e.fr}).length:=by simpa using hj
 have s3:=Zt Zk 6 (fun _=>rfl) _ j l3 3 (by omega) (.int .u64 (e.till:Int)) {l[j]with q:=e.q,val:=e.val,fr:=e.fr,till:=e.till} (by rw[List.getElem_set_self];rfl);have r3:=r2.set hg (j*6+3) (.int .u64 (e.till:Int));rw[s3,List.set_set]at r3;have l4:j<(l.set j {l[j]with q:=e.q,val:=e.val,fr:=e.fr,till:=e.till}).length:=by simpa using hj
 have s4:=Zt Zk 6 (fun _=>rfl) _ j l4 4 (by omega) (.bool e.op) {l[j]with q:=e.q,val:=e.val,fr:=e.fr,till:=e.till,op:=e.op} (by rw[List.getElem_set_self];rfl);have r4:=r3.set hg (j*6+4) (.bool e.op);rw[s4,List.set_set]at r4;have l5:j<(l.set j {l[j]with q:=e.q,val:=e.val,fr:=e.fr,till:=e.till,op:=e.op}).length:=by simpa using hj
 have s5:=Zt Zk 6 (fun _=>rfl) _ j l5 5 (by omega) (.int .u64 (e.kn:Int)) e (by rw[List.getElem_set_self];rfl);have r5:=r4.set hg (j*6+5) (.int .u64 (e.kn:Int));rw[s5,List.set_set]at r5;exact r5
structure Zq (w:World)(b:Nat)(R:Zd)(W:World)(R':Zd)(P:Nat)(p:Zh):Prop where
 bec:Zs w b R W R'
 box:Blk W P 55 (Z8 p)
 away:¬R'.fp b P
theorem Zq.next {w W W2:World}{b P:Nat}{R R' R2:Zd}{p:Zh}(h:Zq w b R W R' P p)(h2:Zs W b R' W2 R2):Zq w b R W2 R2 P p:=
 ⟨h.bec.trans h2,h.box.kept h2.2.1 h.away,fun hp=>by
  rcases h2.2.2 P hp with h1|h1
  · exact h.away h1
  · have:=h.box.lt;omega⟩
theorem Zs.kept {w w1:World}{b:Nat}{R:Zd}(h:Ref w b R)(k:Za (fun _=>False) w w1):Zs w b R w1 R:=⟨h.kept k (fun _ _=>id),k.mono (fun _=>False.elim),fun _ hx=>.inl hx⟩
theorem Zq.same {w W W2:World}{b P:Nat}{R R':Zd}{p:Zh}(h:Zq w b R W R' P p)(k:Za (fun _=>False) W W2):Zq w b R W2 R' P p:=h.next (Zs.kept h.bec.1 k)
theorem Zq.setBox {w W:World}{b P:Nat}{R R':Zd}{p:Zh}(h:Zq w b R W R' P p)(hP:w.heap.size≤P)(p':Zh):Zq w b R (Go.Proofs.YtpfcacedpkaihaaGreat.set6 W P 0 p') R' P p':=by
 have k:=Zac W P 0 p';refine⟨⟨h.bec.1.kept k fun j hj e=>h.away (e▸hj),h.bec.2.1.trans k (fun _=>id) (fun i hi e=>by omega),h.bec.2.2⟩,h.box.set6 p',h.away⟩
theorem Ref.turnEnts {w w1:World}{b k:Nat}{R:Zd}{nd:Zi}(h:Ref w b R)(hnd:R.nodes[k]?=some nd)(l:List Zh)(k1:Za (fun j=>nd.en.ownBlock=some j) w w1)(hr:Row w1 55 6 nd.en l.length (l.flatMap Zk)):Zs w b R w1 (R.putN k (nd.setEnts l nd.en)):=by
 obtain⟨hk,hnd'⟩:=List.getElem?_eq_some_iff.mp hnd;have hrn:Row w1 146 7 R.vn R.nodes.length (R.nodes.flatMap nodeC):=h.nodes.kept k1 fun j hj he=>by
  have:=(h.ents nd (List.mem_of_getElem? hnd)).ne_row h.nodes (by decide) j he;exact this hj
 refine h.putF hnd (f:=2) (r:=⟨55,6,nd.en,nd.ents.length,nd.ents.flatMap Zk⟩) (r':=⟨55,6,nd.en,l.length,l.flatMap Zk⟩) (by omega) rfl rfl k1 hr (fun x hx=>.inl hx) (Za.refl _ _) ?_;rw[List.length_set];have e:(R.nodes.set k (nd.setEnts l nd.en)).flatMap nodeC=R.nodes.flatMap nodeC:=by
  have:=Zt nodeC 7 (fun _=>rfl) R.nodes k hk 0 (by omega) (.bool nd.up) (nd.setEnts l nd.en) (by rw[hnd'];rfl);rw[←this];refine List.ext_getElem? fun j=> ?_;rw[List.getElem?_set]
  split
  · rename_i e
    subst e
    split
    · rename_i hlt
      have:=ZO nodeC 7 (fun _=>rfl) R.nodes k hk 0 (by omega);rw[hnd']at this;exact this.symm
    · rename_i hlt
      exact(List.getElem?_eq_none (by omega)).symm
  · rfl
 rw[e];exact hrn
def Zd.pushUse (R:Zd)(x:Int)(v:Value):Zd:={R with uses:=R.uses++[x],vs:=v}
theorem Ref.pushUse {w w':World}{b:Nat}{R:Zd}(h:Ref w b R)(x:Int)(v:Value)(hA:Zc w w' 3 1 R.vs v R.uses.length 1 (ZQ R.uses) [.int .i64 x]):Zs w b R (w'.setCell ⟨b,6,none⟩ v) (R.pushUse x v):=by
 have hr:Row w' 3 1 v (R.uses++[x]).length (ZQ (R.uses++[x])):=by
  rw[List.length_append,show ZQ (R.uses++[x])=ZQ R.uses++[.int .i64 x] by simp[ZQ]];exact hA.row
 exact h.put 4 6 ⟨3,1,R.vs,R.uses.length,ZQ R.uses⟩ ⟨3,1,v,(R.uses++[x]).length,ZQ (R.uses++[x])⟩ rfl hA.kept hr (fun y hy=>by
  rcases hA.own with e|e
  · exact .inl (by rw[←e];exact hy)
  · exact .inr (e y hy)) rfl (by dsimp only;decide) rfl
theorem Ref.next1 {w:World}{b:Nat}{R:Zd}(h:Ref w b R)(x:Int):Zs w b R (w.setCell ⟨b,7,none⟩ (.int .i64 x)) {R with next:=x}:=by
 have k:=Za.setCell w ⟨b,7,none⟩ (.int .i64 x);refine⟨⟨h.blk.set 7 _,h.all.kept k ?_⟩,k.mono fun j hj=>.inl hj,fun _ hx=>.inl hx⟩;rintro j ⟨r,hr,hj⟩ he;subst he;exact h.ne r hr hj
theorem Ref.pushEnt {w w1:World}{b k g:Nat}{R:Zd}{nd:Zi}(h:Ref w b R)(hnd:R.nodes[k]?=some nd)(ho:R.vn.ownBlock=some g)(p:Zh)(v:Value)(hA:Zc w w1 55 6 nd.en v nd.ents.length 1 (nd.ents.flatMap Zk) (Zk p)):
 Zs w b R (w1.setCell ⟨g,k*7+5,none⟩ v) (R.putN k (nd.setEnts (nd.ents++[p]) v)):=
 h.setEnts hnd ho _ v hA.kept (by rw[List.length_append,List.flatMap_append,List.flatMap_singleton];exact hA.row) fun y hy=>by
  rcases hA.own with e|e
  · exact .inl (by rw[←e];exact hy)
  · exact .inr (e y hy)
theorem Ref.pushNm {w w1:World}{b k g:Nat}{R:Zd}{nd:Zi}(h:Ref w b R)(hnd:R.nodes[k]?=some nd)(ho:R.vn.ownBlock=some g)(x:Int)(v:Value)(hA:Zc w w1 3 1 nd.nm v nd.nms.length 1 (ZQ nd.nms) [.int .i64 x]):
 Zs w b R (w1.setCell ⟨g,k*7+6,none⟩ v) (R.putN k (nd.setNms (nd.nms++[x]) v)):=
 h.setNms hnd ho _ v hA.kept (by rw[List.length_append,show ZQ (nd.nms++[x])=ZQ nd.nms++[.int .i64 x] by simp[ZQ]];exact hA.row) fun y hy=>by
  rcases hA.own with e|e
  · exact .inl (by rw[←e];exact hy)
  · exact .inr (e y hy)
theorem Tryz.infoSt :(Tryz.prog.info? 53).map (fun i=>(i.zero,i.size,i.bytes))=some (some (.int .u64 0),1,8):=by kernel_rfl
theorem XP (l:List Nat):∀u∈ZL l,u.oneCell'=true:=by
 intro u hu;simp[ZL]at hu;obtain⟨a,_,rfl⟩:=hu;rfl
theorem ZbP (a b:List Nat):ZL (a++b)=ZL a++ZL b:=List.map_append
theorem Zch (l:List Nat):(ZL l).length=l.length*1:=by simp[ZL]
def Xr (w:World)(n:Nat)(l':List Nat)(e:Ending)(w':World):Prop:=
 ∃v,e=.returned v∧Row w' 53 1 v (n-1) (ZL l')∧Za (fun _=>False) w w'∧(∀x,v.ownBlock=some x→w.heap.size≤x)
theorem Zaq {w w1 w2:World}{n i m:Nat}{l:List Nat}{v1 v2:Value}(hl:l.length=n)(hi:i<n)(hm:m=n-(i+1))
 (h1:Row w1 53 1 v1 i (ZL (l.take i))∧Za (fun _=>False) w w1∧(∀x,v1.ownBlock=some x→w.heap.size≤x))
 (hA:Zc w1 w2 53 1 v1 v2 i m (ZL (l.take i)) (ZL (l.drop (i+1)))):Xr w n (l.eraseIdx i) (.returned v2) w2:=by
 refine⟨v2,rfl,?_,h1.2.1.trans hA.kept (fun _=>id) (fun x hx he=> ?_),fun x hx=> ?_⟩
 · have:=hA.row;rw[←ZbP,←List.eraseIdx_eq_take_drop_succ,show i+m=n-1 by omega]at this;exact this
 · have:=h1.2.2 x he;omega
 · rcases hA.own with e|e
   · exact h1.2.2 x (by rw[←e];exact hx)
   · exact Nat.le_trans h1.2.1.size (e x hx)
theorem ZcM (w:World)(g n cap i:Nat)(l:List Nat)(hr:Row w 53 1 (.slice (some ⟨g,0,none⟩) n cap) n (ZL l))(hl:l.length=n)(hi:i<n)(hn:n≤1000)(hcap:n≤cap)(hcm:cap≤maxLen):
 Calls Tryz.prog 114 #[.slice (some ⟨g,0,none⟩) n cap,.int .i64 i] w fun e w'=>Xr w n (l.eraseIdx i) e w':=by
 unfold maxLen at hcm;obtain⟨i0,hi0,hz0,hz1,hz2⟩:=info_parts Tryz.infoSt;have HI:Hid (Tryz.prog.info? 53=some i0∧i0.zero=some (.int .u64 0)∧i0.size=1∧i0.bytes=8):=⟨hi0,hz0,hz1,hz2⟩;clear hi0 hz0 hz1 hz2;have HN1:Hid (∀j u,(ZL (l.take i))[j]?=some u→w.cell? ((⟨g,0,none⟩:Addr).add j)=some u):=by
  intro j u hj;have e:(⟨g,0,none⟩:Addr).add j=⟨g,j,none⟩:=by cases j<;>simp[Addr.add]
  rw[e];refine hr.cell rfl j u ?_;have hjl:=(List.getElem?_eq_some_iff.mp hj).1;rw[←List.take_append_drop i l,ZbP,List.getElem?_append_left hjl];exact hj
 have HL1:Hid ((ZL (l.take i)).length=i*1):=by
  show _=_;rw[Zch,List.length_take];congr 1;omega
 have hii:(i:Int)≤(cap:Int):=by omega
 have hii1:(i:Int)+1≤(n:Int):=by omega
 have hnc:(n:Int)≤(cap:Int):=by omega
 have b0:0+i≤maxLen:=by unfold maxLen;omega
 have b1:(0+i)*8≤140737488355328:=by omega
 have HL2:Hid ((ZL (l.drop (i+1))).length=(n-(i+1))*1):=by
  show _=_;rw[Zch,List.length_drop,hl]
 have b2:i+(n-(i+1))≤maxLen:=by unfold maxLen;omega
 have b3:(i+(n-(i+1)))*8≤140737488355328:=by omega
 have HR:=hid hr;clear hr;by_cases hce:cap=i+1
 · have HN2:Hid (∀w1,Za (fun _=>False) w w1→∀j u,(ZL (l.drop (i+1)))[j]?=some u→w1.cell? ((⟨g,0,none⟩:Addr).add j)=some u):=by
    intro w1 _ j u hj;rw[List.drop_eq_nil_of_le (by omega)]at hj;simp[ZL]at hj
   subst hce;obtain rfl:n=i+1:=by omega
   have HL3:Hid ((ZL (l.drop (i+1))).length=0*1):=by
    show _=_;rw[HL2.out];omega
   have b4:i+0≤maxLen:=by unfold maxLen;omega
   have b5:(i+0)*8≤140737488355328:=by omega
   go_enter Tryz.func114,Tryz.ntmps114
   go_wp2_with (first
    |(at_builtin;refine Zf _ rfl (.tmp 6) (.tmp 9) 144 rfl 53 i0 (.int .u64 0) 1 8 Tryz.underlying144 HI.out.1 HI.out.2.1 HI.out.2.2.1 HI.out.2.2.2 rfl (by decide) (.slice none 0 0) 0 [] rfl (Row.nil _ _ _) ⟨g,0,none⟩ i (i+1) (ZL (l.take i)) rfl HL1.out HN1.out (XP _) b0 b1 ?_;intro v1 w1 hA1;have H1:Hid (Row w1 53 1 v1 i (ZL (l.take i))∧Za (fun _=>False) w w1∧(∀x,v1.ownBlock=some x→w.heap.size≤x)):=⟨by have:=hA1.row;rw[Nat.zero_add,List.nil_append]at this;exact this,hA1.kept.mono (fun k hk=>by simp[Value.ownBlock]at hk),fun x hx=>hA1.own.elim (fun e=>by rw[e]at hx;simp[Value.ownBlock]at hx) (fun e=>e x hx)⟩;clear hA1)
    |(at_builtin;refine Zf _ rfl (.tmp 11) (.tmp 15) 144 rfl 53 i0 (.int .u64 0) 1 8 Tryz.underlying144 HI.out.1 HI.out.2.1 HI.out.2.2.1 HI.out.2.2.2 rfl (by decide) _ i (ZL (l.take i)) rfl H1.out.1 ⟨g,0,none⟩ 0 0 (ZL (l.drop (i+1))) rfl HL3.out (HN2.out w1 H1.out.2.1) (XP _) b4 b5 ?_;intro v2 w2 hA2;have H2:Hid (Xr w (i+1) (l.eraseIdx i) (.returned v2) w2):=Zaq hl hi (by omega) H1.out hA2;clear hA2))
   go_ret;exact H2.out
 · have HN2:Hid (∀w1,Za (fun _=>False) w w1→∀j u,(ZL (l.drop (i+1)))[j]?=some u→w1.cell? ((⟨g,i+1,none⟩:Addr).add j)=some u):=by
    intro w1 hk j u hj;have e:(⟨g,i+1,none⟩:Addr).add j=⟨g,i+1+j,none⟩:=by cases j<;>simp[Addr.add]
    rw[e];refine(HR.out.kept hk (fun _ _=>id)).cell rfl (i+1+j) u ?_;have hlen:(ZL (l.take (i+1))).length=i+1:=by rw[Zch,List.length_take];omega
    rw[←List.take_append_drop (i+1) l,ZbP,List.getElem?_append_right (by omega),hlen,Nat.add_sub_cancel_left];exact hj
   go_enter Tryz.func114,Tryz.ntmps114
   go_wp2_with (first
    |(at_builtin;refine Zf _ rfl (.tmp 6) (.tmp 9) 144 rfl 53 i0 (.int .u64 0) 1 8 Tryz.underlying144 HI.out.1 HI.out.2.1 HI.out.2.2.1 HI.out.2.2.2 rfl (by decide) (.slice none 0 0) 0 [] rfl (Row.nil _ _ _) ⟨g,0,none⟩ i cap (ZL (l.take i)) rfl HL1.out HN1.out (XP _) b0 b1 ?_;intro v1 w1 hA1;have H1:Hid (Row w1 53 1 v1 i (ZL (l.take i))∧Za (fun _=>False) w w1∧(∀x,v1.ownBlock=some x→w.heap.size≤x)):=⟨by have:=hA1.row;rw[Nat.zero_add,List.nil_append]at this;exact this,hA1.kept.mono (fun k hk=>by simp[Value.ownBlock]at hk),fun x hx=>hA1.own.elim (fun e=>by rw[e]at hx;simp[Value.ownBlock]at hx) (fun e=>e x hx)⟩;clear hA1)
    |(at_builtin;refine Zf _ rfl (.tmp 11) (.tmp 15) 144 rfl 53 i0 (.int .u64 0) 1 8 Tryz.underlying144 HI.out.1 HI.out.2.1 HI.out.2.2.1 HI.out.2.2.2 rfl (by decide) _ i (ZL (l.take i)) rfl H1.out.1 ⟨g,i+1,none⟩ (n-(i+1)) (cap-(i+1)) (ZL (l.drop (i+1))) rfl HL2.out (HN2.out w1 H1.out.2.1) (XP _) b2 b3 ?_;intro v2 w2 hA2;have H2:Hid (Xr w n (l.eraseIdx i) (.returned v2) w2):=Zaq hl hi rfl H1.out hA2;clear hA2))
   go_ret;exact H2.out
structure ZD where
 up:Bool
 since:Nat
 horizon:Nat
 fls:List Nat
 wts:List Nat
 ents:List Zh
 nms:List Int
def Zi.p (n:Zi):ZD:=⟨n.up,n.since,n.horizon,n.fls,n.wts,n.ents,n.nms⟩
def Zm (w:World)(b:Nat)(R:Zd)(k:Nat)(p:ZD)(w':World):Prop:=∃nd',nd'.p=p∧Zs w b R w' (R.putN k nd')
theorem Zm.next {w w1 w2:World}{b k:Nat}{R:Zd}{p p2:ZD}(h:Zm w b R k p w1)(h2:∀nd',nd'.p=p→Ref w1 b (R.putN k nd')→Zm w1 b (R.putN k nd') k p2 w2):Zm w b R k p2 w2:=by
 obtain⟨n1,e1,b1⟩:=h;obtain⟨n2,e2,b2⟩:=h2 n1 e1 b1.1;refine⟨n2,e2,?_⟩;have:=b1.trans b2;rw[show(R.putN k n1).putN k n2=R.putN k n2 by simp[Zd.putN,List.set_set]]at this;exact this
theorem Ref.setFlB {w w1:World}{b k g:Nat}{R:Zd}{nd:Zi}(h:Ref w b R)(hnd:R.nodes[k]?=some nd)(ho:R.vn.ownBlock=some g)(l:List Nat)(v:Value)(k1:Za (fun j=>nd.fl.ownBlock=some j) w w1)(hr:Row w1 53 1 v l.length (ZL l))(hown:∀x,v.ownBlock=some x→nd.fl.ownBlock=some x∨w.heap.size≤x):
 Zm w b R k {nd.p with fls:=l} (w1.setCell ⟨g,k*7+3,none⟩ v):=by
 obtain⟨hk,hnd'⟩:=List.getElem?_eq_some_iff.mp hnd;have hrn:Row w1 146 7 R.vn R.nodes.length (R.nodes.flatMap nodeC):=h.nodes.kept k1 fun j hj he=>by
  have:=(h.fls nd (List.mem_of_getElem? hnd)).ne_row h.nodes (by decide) j he;exact this hj
 refine⟨{nd with fl:=v,fls:=l},rfl,h.putF hnd (f:=0) (r:=⟨53,1,nd.fl,nd.fls.length,ZL nd.fls⟩) (r':=⟨53,1,v,l.length,ZL l⟩) (by omega) rfl rfl k1 hr hown ((Za.setCell w1 _ _).mono fun j hj=>by rw[ho,hj]) ?_⟩;have:=hrn.set ho (k*7+3) v;rw[Zt nodeC 7 (fun _=>rfl) R.nodes k hk 3 (by omega) v {nd with fl:=v,fls:=l} (by rw[hnd'];rfl)]at this;rw[List.length_set];exact this
theorem Ref.setWtB {w w1:World}{b k g:Nat}{R:Zd}{nd:Zi}(h:Ref w b R)(hnd:R.nodes[k]?=some nd)(ho:R.vn.ownBlock=some g)(l:List Nat)(v:Value)(k1:Za (fun j=>nd.wt.ownBlock=some j) w w1)(hr:Row w1 53 1 v l.length (ZL l))(hown:∀x,v.ownBlock=some x→nd.wt.ownBlock=some x∨w.heap.size≤x):
 Zm w b R k {nd.p with wts:=l} (w1.setCell ⟨g,k*7+4,none⟩ v):=by
 obtain⟨hk,hnd'⟩:=List.getElem?_eq_some_iff.mp hnd;have hrn:Row w1 146 7 R.vn R.nodes.length (R.nodes.flatMap nodeC):=h.nodes.kept k1 fun j hj he=>by
  have:=(h.wts nd (List.mem_of_getElem? hnd)).ne_row h.nodes (by decide) j he;exact this hj
 refine⟨{nd with wt:=v,wts:=l},rfl,h.putF hnd (f:=1) (r:=⟨53,1,nd.wt,nd.wts.length,ZL nd.wts⟩) (r':=⟨53,1,v,l.length,ZL l⟩) (by omega) rfl rfl k1 hr hown ((Za.setCell w1 _ _).mono fun j hj=>by rw[ho,hj]) ?_⟩;have:=hrn.set ho (k*7+4) v;rw[Zt nodeC 7 (fun _=>rfl) R.nodes k hk 4 (by omega) v {nd with wt:=v,wts:=l} (by rw[hnd'];rfl)]at this;rw[List.length_set];exact this
theorem Ref.setHzB {w:World}{b k g:Nat}{R:Zd}{nd:Zi}(h:Ref w b R)(hnd:R.nodes[k]?=some nd)(ho:R.vn.ownBlock=some g)(t:Nat):
 Zm w b R k {nd.p with horizon:=t} (w.setCell ⟨g,k*7+2,none⟩ (.int .u64 (t:Int))):=by
 obtain⟨hk,hnd'⟩:=List.getElem?_eq_some_iff.mp hnd;refine⟨{nd with horizon:=t},rfl,h.putF hnd (f:=0) (r:=⟨53,1,nd.fl,nd.fls.length,ZL nd.fls⟩) (r':=⟨53,1,nd.fl,nd.fls.length,ZL nd.fls⟩) (by omega) rfl rfl (Za.refl _ w) (h.fls nd (List.mem_of_getElem? hnd)) (fun x hx=>.inl hx) ((Za.setCell w _ _).mono fun j hj=>by rw[ho,hj]) ?_⟩;have:=h.nodes.set ho (k*7+2) (.int .u64 (t:Int));rw[Zt nodeC 7 (fun _=>rfl) R.nodes k hk 2 (by omega) (.int .u64 (t:Int)) {nd with horizon:=t} (by rw[hnd'];rfl)]at this;rw[List.length_set];exact this
theorem Xm {w:World}{ao:Option Addr}{n cap i:Nat}{l:List Nat}(hr:Row w 53 1 (.slice ao n cap) n (ZL l))(hl:l.length=n)(hi:i<n)(hn:n≤1000):
 Calls Tryz.prog 114 #[.slice ao n cap,.int .i64 i] w fun e w'=>Xr w n (l.eraseIdx i) e w':=by
 rcases hr.shape with⟨_,h0,_⟩|⟨g,cp,cur,hv',hb,hcp,hcm,_⟩
 · omega
 · injection hv' with e1 _ e2;subst e1;subst e2;exact ZcM w g n cap i l hr hl hi hn hcp hcm
def Yh (R:Zd)(k i:Int):Int:=if k<0∨(R.nodes.length:Int)≤k then 9 else match R.nodes[k.toNat]? with
 |none=>9
 |some nd=>if i<0∨(nd.fls.length:Int)≤i then 10 else 0
theorem Ziu (w:World)(b:Nat)(R:Zd)(k i:Int)(h:Ref w b R)(hm:R.nodes.length≤3):
 Calls Tryz.prog 113 #[.pointer (some ⟨b,0,none⟩),.int .i64 k,.int .i64 i] w fun e w'=>e=.returned (.int .i64 (Yh R k i))∧w=w':=by
 have hno:=VX w b R k h;by_cases h0:k<0∨(R.nodes.length:Int)≤k
 · rw[decide_eq_true h0]at hno;have H0:=hid hno;have HL:Yh R k i=9:=by unfold Yh;rw[if_pos h0]
   rw[HL];clear h hno h0 HL;go_enter Tryz.func113,Tryz.ntmps113
   go_wp2_with (go_at_call 108;refine H0.out.mono ?_;rintro e w' ⟨rfl,rfl⟩)
   go_ret;exact⟨rfl,rfl⟩
 · rw[decide_eq_false h0]at hno;obtain⟨j,rfl⟩:∃j:Nat,k=j:=⟨k.toNat,by omega⟩;have hjl:j<R.nodes.length:=by omega
   obtain⟨nd,hnd⟩:∃nd,R.nodes[j]?=some nd:=⟨_,List.getElem?_eq_getElem hjl⟩;have hnd':=(List.getElem?_eq_some_iff.mp hnd).2;obtain⟨g,cap,hv,ho,hgl⟩:=h.nodes.block (by omega);have c3:=h.c3;rw[hv]at c3;obtain⟨af,cf,hvf,_⟩:=(h.fls nd (List.mem_of_getElem? hnd)).form;have a3:=h.nodes.cell ho (j*7+3) _ (by rw[Zy R.nodes j hjl 3 (by omega)];rfl);rw[hnd',hvf]at a3;have H0:=hid hno;have hj0:(0:Int)≤(j:Int):=by omega
   have hj1:(j:Int)<(R.nodes.length:Int):=by omega
   have HL:Yh R (j:Int) i=if i<0∨(nd.fls.length:Int)≤i then 10 else 0:=by unfold Yh;rw[if_neg h0,Int.toNat_natCast,hnd]
   rw[HL];obtain⟨fl,hfl⟩:∃x,x=nd.fls.length:=⟨_,rfl⟩;rw[←hfl]at a3⊢;clear h hno h0 HL hnd hnd' hv ho hvf hfl;by_cases hi0:i<0
   · have hd:decide (i<0)=true:=by simpa using hi0
     rw[if_pos (.inl hi0)];clear hi0;go_enter Tryz.func113,Tryz.ntmps113
     go_wp2_with (go_at_call 108;refine H0.out.mono ?_;rintro e w' ⟨rfl,rfl⟩)
     go_ret;exact⟨rfl,rfl⟩
   · have hd:decide (i<0)=false:=by simpa using hi0
     by_cases hi1:(fl:Int)≤i
     · rw[if_pos (.inr hi1)];go_enter Tryz.func113,Tryz.ntmps113
       go_wp2_with (go_at_call 108;refine H0.out.mono ?_;rintro e w' ⟨rfl,rfl⟩)
       go_ret;exact⟨rfl,rfl⟩
     · rw[if_neg (by omega)];go_enter Tryz.func113,Tryz.ntmps113
       go_wp2_with (go_at_call 108;refine H0.out.mono ?_;rintro e w' ⟨rfl,rfl⟩)
       go_ret;exact⟨rfl,rfl⟩
def YX (l:List Nat)(t:Nat):Int:=match l.findIdx? (fun x=>decide (x=t))with
 |some i=>(i:Int)
 |none=> -1
theorem Zaj {l:List Nat}{j:Nat}(hj:j<l.length):(ZL l)[j]?=some (.int .u64 (l[j]:Int)):=by
 unfold ZL;rw[List.getElem?_map,List.getElem?_eq_getElem hj];rfl
theorem Zjr (w:World)(b k t:Nat)(R:Zd)(nd:Zi)(h:Ref w b R)(hm:R.nodes.length≤3)(hnd:R.nodes[k]?=some nd)(hl:nd.wts.length≤1000):
 Calls Tryz.prog 115 #[.pointer (some ⟨b,0,none⟩),.int .i64 (k:Int),.int .u64 (t:Int)] w fun e w'=>e=.returned (.int .i64 (YX nd.wts t))∧w=w':=by
 obtain⟨hk,hnd'⟩:=List.getElem?_eq_some_iff.mp hnd;obtain⟨g,cap,hv,ho,hgl⟩:=h.nodes.block (by omega);have c3:=h.c3;rw[hv]at c3;obtain⟨af,cf,hvf,_⟩:=(h.wts nd (List.mem_of_getElem? hnd)).form;have a4:=h.nodes.cell ho (k*7+4) _ (by rw[Zy R.nodes k hk 4 (by omega)];rfl);rw[hnd',hvf]at a4;obtain⟨l,hll⟩:∃x,x=nd.wts:=⟨_,rfl⟩;have HP:Hid (∀j (hj:j<l.length),∃gw,af=some ⟨gw,0,none⟩∧w.cell? ⟨gw,j,none⟩=some (.int .u64 (l[j]:Int))):=by
  intro j hj;have hr:=h.wts nd (List.mem_of_getElem? hnd);rw[←hll,hvf,←hll]at hr;obtain⟨gw,c',e1,e2,_⟩:=hr.block (by omega);injection e1 with e1 _ _;exact⟨gw,e1,hr.cell e2 j _ (Zaj hj)⟩
 have hk0:(0:Int)≤(k:Int):=by omega
 have hk1:(k:Int)<(R.nodes.length:Int):=by omega
 rw[←hll]at a4 hl⊢;clear h hnd hnd' hv ho hvf hll;go_enter Tryz.func115,Tryz.ntmps115;go_wp2
 go_loopw [7] (fun iv wr=>∃j:Nat,j≤l.length∧iv=.int .i64 j∧Hid ((∀i (hi:i<l.length),i<j→l[i]≠t)∧w=wr)) (fun iv _=>l.length-(intOf iv).toNat)
 case atStart=>exact⟨0,Nat.zero_le _,rfl,fun i hi h=>by omega,rfl⟩
 case round=>
  obtain⟨j,hj,rfl,HN⟩:=hrel;obtain rfl:=HN.out.2;by_cases hlt:j<l.length
  · obtain⟨gw,hgw,p0⟩:=HP.out j hlt;obtain⟨x,hx⟩:∃x,x=l[j]:=⟨_,rfl⟩;have HX:Hid (l[j]=x):=hx.symm;rw[←hx]at p0;subst hgw;have hj0:(0:Int)≤(j:Int):=by omega
    have hj1:(j:Int)<(l.length:Int):=by omega
    clear hx;by_cases he:x=t
    · have hb:((x:Int)==(t:Int))=true:=by simp[he]
      have HR:Hid (YX l t=(j:Int)):=by
       show _=_;unfold YX;have:l.findIdx? (fun x=>decide (x=t))=some j:=by
        rw[List.findIdx?_eq_some_iff_getElem];exact⟨hlt,by rw[HX.out];simpa using he,fun i hi=>by simpa using HN.out.1 i (by omega) hi⟩
       rw[this]
      clear he;go_wp2;go_ret;exact⟨by rw[HR.out];rfl,rfl⟩
    · have hb:((x:Int)==(t:Int))=false:=beq_eq_false_iff_ne.mpr (by omega);go_wp2
      go_roundw
      case rel=>
       refine⟨j+1,by omega,by go_num,fun i hi hij=> ?_,by first|rfl|trivial⟩;by_cases hie:i=j
       · subst hie;rw[HX.out];exact he
       · exact HN.out.1 i hi (by omega)
      case measure=>simp[intOf];omega
  · have hje:j=l.length:=by omega
    subst hje;have HR:Hid (YX l t= -1):=by
     show _=_;unfold YX;have:l.findIdx? (fun x=>decide (x=t))=none:=by
      rw[List.findIdx?_eq_none_iff];intro x hx;obtain⟨i,hi,rfl⟩:=List.getElem_of_mem hx;simpa using HN.out.1 i hi hi
     rw[this]
    go_wp2;go_ret;exact⟨by rw[HR.out];rfl,rfl⟩
end Go.Proofs.YtpfcacedpkaihaaGreat
