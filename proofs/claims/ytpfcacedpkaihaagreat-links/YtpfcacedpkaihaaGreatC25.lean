import Derived.Deep.DeepCutAuto
import Derived.Deep.RegionHeld3
import Derived.Deep.DrawnRows
import Derived.Test.YtpfcacedpkaihaaGreatC17
import Derived.Test.YtpfcacedpkaihaaGreatC12
namespace Go.Proofs.YtpfcacedpkaihaaGreat
open Go.RowKit
set_option maxRecDepth 100000
set_option maxHeartbeats 16000000
section
theorem Tryz.infoPast :(Tryz.prog.info? 143).map (fun i=>(i.zero,i.size,i.bytes))=some (some (.agg #[.int .i32 0,.int .i32 0,.int .i32 0,.int .i32 0,.int .i32 0,.int .i32 0,.int .i32 0,.int .i32 0,.int .u8 0,.int .i64 0]),10,48):=by kernel_rfl
theorem Zhi {q:Zj}{kk:Nat}{y:Int}(hk:kk≤7):
 ((Zx q).toArray.setIfInBounds kk (.int .i32 y)).setIfInBounds 8 (.int .u8 (bits .or .u8 q.keys ((2:Int)^kk%256)))=(Zx (Vx q ((kk:Int),y))).toArray:=by
 have hc:kk=0∨kk=1∨kk=2∨kk=3∨kk=4∨kk=5∨kk=6∨kk=7:=by omega
 rcases hc with rfl|rfl|rfl|rfl|rfl|rfl|rfl|rfl<;>simp[Zx,Vx,bit1]
theorem ZiP {q:Zj}{kk:Nat}(hk:kk≤7):(Zx q).toArray[kk]?=some (.int .i32 (q.st kk)):=by
 have hc:kk=0∨kk=1∨kk=2∨kk=3∨kk=4∨kk=5∨kk=6∨kk=7:=by omega
 rcases hc with rfl|rfl|rfl|rfl|rfl|rfl|rfl|rfl<;>rfl
def Zd.pushP (R:Zd)(q:Zj)(v:Value):Zd:={R with past:=R.past++[q],vp:=v}
theorem Ref.pushP {w w':World}{b:Nat}{R:Zd}(h:Ref w b R)(q:Zj)(v:Value)(hA:Zc w w' 143 10 R.vp v R.past.length 1 (R.past.flatMap Zx) (Zx q)):
 Ref (w'.setCell ⟨b,0,none⟩ v) b (R.pushP q v)∧Za (R.fp b) w (w'.setCell ⟨b,0,none⟩ v)∧(∀k,(R.pushP q v).fp b k→R.fp b k∨w.heap.size≤k):=by
 refine h.put 0 0 ⟨143,10,R.vp,R.past.length,R.past.flatMap Zx⟩ ⟨143,10,v,(R.past++[q]).length,(R.past++[q]).flatMap Zx⟩ rfl hA.kept ?_ (fun x hx=>hA.own.imp (fun e=>by show R.vp.ownBlock=some x;rw[←e];exact hx) (fun e=>e x hx)) rfl (by dsimp only;decide) rfl;show Row _ _ 10 v (R.past++[q]).length ((R.past++[q]).flatMap Zx);rw[List.length_append,List.flatMap_append];simpa using hA.row
theorem ZjZ {W w':World}{b:Nat}{R:Zd}{v v':Value}{news xs:List Value}{n:Nat}{o:Obj}(h:Ref W b R)(hv:R.vp=v)(hA:Zc ((W.alloc o).drew) w' 143 10 v v' n 1 xs news):
 w'.cell? ⟨b,0,none⟩=some v∧w'.frozen? ⟨b,0,none⟩=false∧Zc W w' 143 10 v v' n 1 xs news:=by
 have hk:Za (fun x=>v.ownBlock=some x) W w':=(((Za.alloc W o (fun _=>False)).drew).trans hA.kept (fun _=>False.elim) (fun _ _=>id));have blk1:=h.blk.kept hk fun e=>h.past.ne_block h.blk (by decide) (by rw[hv,e]);refine⟨by rw[blk1.cell 0,←hv];rfl,blk1.free 0,hA.row,hk,?_⟩;rcases hA.own with e|e
 · exact .inl e
 · refine .inr fun x hx=> ?_;have h1:=e x hx;have h2:W.heap.size+1≤x:=by simpa using h1
   omega
theorem ZaO (q:Zj):∀u∈Zx q,u.oneCell'=true:=by
 intro u hu;simp[Zx]at hu;rcases hu with rfl|rfl|rfl|rfl|rfl|rfl|rfl|rfl|rfl|rfl<;>rfl
theorem ZhO (w:World)(q:Zj)(t:TypeId):∀j u,(Zx q)[j]?=some u→(w.alloc (.cells #[.int .i32 (q.st 0),.int .i32 (q.st 1),.int .i32 (q.st 2),.int .i32 (q.st 3),.int .i32 (q.st 4),.int .i32 (q.st 5),.int .i32 (q.st 6),.int .i32 (q.st 7),.int .u8 q.keys,.int .i64 q.tick] t)).cell? ((⟨w.heap.size,0,none⟩:Addr).add j)=some u:=by
 intro j u hj;have e:(⟨w.heap.size,0,none⟩:Addr).add j=⟨w.heap.size,j,none⟩:=by cases j<;>simp[Addr.add]
 rw[e,World.cell?_alloc_at _ _ _ _ rfl];simpa[Zx]using hj
theorem rtell (w:World)(b:Nat)(R:Zd)(k t:Nat)(nd:Zi)(h:Ref w b R)(hf:R.Fit)(hnd:R.nodes[k]?=some nd)(ht:t≤700):
 Calls Tryz.prog 78 #[.pointer (some ⟨b,0,none⟩),.int .i64 k,.int .u64 t] w fun e w'=>X8 w b R k nd t e w':=by
 cases hfe:V4 nd t with
 |true=>exact ZjD w b R k t nd h hf hnd ht hfe
 |false=>exact ZjG w b R k t nd h hf hnd ht hfe
def VM (l l':List Zi)(t k:Nat):Prop:=l'.length=l.length∧∀(j:Nat)(nd:Zi),l[j]?=some nd→(j<k→∃v,l'[j]?=some (Xi nd t v))∧(k≤j→l'[j]?=some nd)
theorem VM.next {l l':List Zi}{t k:Nat}{nd:Zi}(h:VM l l' t k)(hk:l[k]?=some nd)(v:Value):VM l (l'.set k (Xi nd t v)) t (k+1):=by
 have hlt:k<l'.length:=by rw[h.1];exact(List.getElem?_eq_some_iff.mp hk).1
 refine⟨by rw[List.length_set];exact h.1,fun j a ha=>⟨fun hj=> ?_,fun hj=> ?_⟩⟩
 · by_cases e:j=k
   · subst e;rw[hk]at ha;injection ha with ha;subst ha;exact⟨v,by rw[List.getElem?_set_self hlt]⟩
   · obtain⟨u,hu⟩:=(h.2 j a ha).1 (by omega);exact⟨u,by rw[List.getElem?_set_ne (fun x=>e x.symm)];exact hu⟩
 · rw[List.getElem?_set_ne (by omega)];exact(h.2 j a ha).2 (by omega)
theorem Zhh {nd:Zi}{t:Nat}(v:Value)(h:nd.fls.length≤12∧nd.horizon≤700∧∀x∈nd.fls,x≤700)(ht:t≤700):(Xi nd t v).fls.length≤12∧(Xi nd t v).horizon≤700∧∀x∈(Xi nd t v).fls,x≤700:=by
 have hl:(leftN nd t).fls.length≤12∧(leftN nd t).horizon≤700∧∀x∈(leftN nd t).fls,x≤700:=by
  unfold leftN
  split
  · simp[zeroN]
  · refine⟨Nat.le_trans (List.length_filter_le _ _) h.1,h.2.1,fun x hx=>h.2.2 x (List.mem_filter.mp hx).1⟩
 refine⟨?_,hl.2.1,?_⟩
 · show(if(leftN nd t).fls.length<12 then(leftN nd t).fls++[t]else(leftN nd t).fls).length≤12
   split
   · simp;omega
   · exact hl.1
 · intro x hx;have hx':x∈(if(leftN nd t).fls.length<12 then(leftN nd t).fls++[t]else(leftN nd t).fls):=hx
   split at hx'
   · simp at hx';rcases hx' with hx'|rfl
     · exact hl.2.2 x hx'
     · exact ht
   · exact hl.2.2 x hx'
def Zgu (w:World)(b:Nat)(R:Zd)(ws:List (Int×Int))(e:Ending)(w':World):Prop:=
 e=.returned (.tuple #[.int .u64 (R.past.length:Int),.int .i64 0])∧∃(p:Zj)(v:Value)(l:List Zi),R.past[R.past.length-1]?=some p∧
  Ref w' b {R.pushP (Yd {p with keys:=0,tick:=R.clock} ws) v with nodes:=l}∧VM R.nodes l R.past.length R.nodes.length∧
  ({R.pushP (Yd {p with keys:=0,tick:=R.clock} ws) v with nodes:=l}:Zd).Fit∧Za (R.fp b) w w'∧
  (∀k,({R.pushP (Yd {p with keys:=0,tick:=R.clock} ws) v with nodes:=l}:Zd).fp b k→R.fp b k∨w.heap.size≤k)
attribute [local go_sem ↓] Go.wp_at_zero Go.wp_at_succ
theorem ZdD (w:World)(b:Nat)(R:Zd)(ao:Option Addr)(n cap:Nat)(ws:List (Int×Int))(h:Ref w b R)(hf:R.Fit)(hw:Wr w ao n ws)(hn:n≤8)(hk:ws.all Yl=true)(hlt7:R.past.length<701):
 Calls Tryz.prog 29 #[.pointer (some ⟨b,0,none⟩),.slice ao n cap] w fun e w'=>Zgu w b R ws e w':=by
 have HW:=hid hw;have HB:Hid (∀j (h:j<ws.length),0≤ws[j].1∧ws[j].1<8):=by
  intro j hj;have:=List.all_eq_true.mp hk _ (List.getElem_mem hj);simpa[Yl]using this
 have hl:=hw.len;have HR:=hid h;have HF:Hid R.Fit:=hf;have hp0:=hf.pos;have hc0:=hf.clk0;have hc1:=hf.clk1;obtain⟨gp,cp,hvp,hop,hgpl⟩:=h.past.block hp0;have HVP:Hid (R.vp=.slice (some ⟨gp,0,none⟩) R.past.length cp∧R.vp.ownBlock=some gp):=⟨hvp,hop⟩;have HNW:Hid (∀W:World,(∀k,k<w.heap.size→W.heap[k]?=w.heap[k]?)→Calls Tryz.prog 77 #[.pointer (some ⟨b,0,none⟩)] W fun e w'=>e=.returned (.int .u64 ((R.past.length-1:Nat):Int))∧W=w'):=
  fun W hW=>Vv W b R (h.same fun k hk=>hW k (h.lt k hk)) hf
 clear hw hk h hf hvp hop;go_enter Tryz.func29,Tryz.ntmps29;go_wp2
 go_loop [6] (fun i=>∃k:Nat,k≤n∧i=.int .i64 k) (fun i=>n-(intOf i).toNat)
 case atStart=>exact⟨0,Nat.zero_le _,rfl⟩
 case round=>
  obtain⟨k,hkn,rfl⟩:=hrel;by_cases hlt:k<n
  · have hlt':k<ws.length:=by omega
    obtain⟨bl,off,hao,c0,_⟩:=HW.out.cell k hlt';obtain⟨x,hx⟩:∃x,x=ws[k].1:=⟨_,rfl⟩;obtain⟨hx0,hx8⟩:=HB.out k hlt';rw[←hx]at c0 hx0 hx8;subst hao;clear hx;have hd:decide (x<0)=false:=by simp;omega
    go_wp2
    go_round
    case rel=>exact⟨k+1,by omega,by go_num⟩
    case measure=>simp[intOf];omega
  · have hne:(((R.past.length-1:Nat):Int)==700)=false:=beq_eq_false_iff_ne.mpr (by omega);have c0:=HR.out.c0;rw[HVP.out.1]at c0;have c1:=HR.out.c1;have hbl:b<w.heap.size:=HR.out.blk.lt;obtain⟨p,hp⟩:∃p,p=R.past[R.past.length-1]:=⟨_,rfl⟩;have HS:Hid (∀f (hf:f<10),w.cell? ⟨gp,(R.past.length-1)*10+f,none⟩=(Zx p)[f]?):=by
     intro f hf;have e:=Vk R.past (R.past.length-1) (by omega) f hf;rw[←hp]at e;obtain⟨u,hu⟩:∃u,(Zx p)[f]?=some u:=⟨(Zx p)[f]'(by simpa[Zx]using hf),List.getElem?_eq_getElem _⟩;rw[hu];exact HR.out.past.cell HVP.out.2 _ u (e.trans hu)
    have HPE:=hid hp;clear hp;have s0:w.cell? ⟨gp,(R.past.length-1)*10,none⟩=some (.int .i32 (p.st 0)):=HS.out 0 (by omega);have s1:w.cell? ⟨gp,(R.past.length-1)*10+1,none⟩=some (.int .i32 (p.st 1)):=HS.out 1 (by omega);have s2:w.cell? ⟨gp,(R.past.length-1)*10+2,none⟩=some (.int .i32 (p.st 2)):=HS.out 2 (by omega);have s3:w.cell? ⟨gp,(R.past.length-1)*10+3,none⟩=some (.int .i32 (p.st 3)):=HS.out 3 (by omega);have s4:w.cell? ⟨gp,(R.past.length-1)*10+4,none⟩=some (.int .i32 (p.st 4)):=HS.out 4 (by omega);have s5:w.cell? ⟨gp,(R.past.length-1)*10+5,none⟩=some (.int .i32 (p.st 5)):=HS.out 5 (by omega);have s6:w.cell? ⟨gp,(R.past.length-1)*10+6,none⟩=some (.int .i32 (p.st 6)):=HS.out 6 (by omega);have s7:w.cell? ⟨gp,(R.past.length-1)*10+7,none⟩=some (.int .i32 (p.st 7)):=HS.out 7 (by omega);have hix:((R.past.length-1:Nat):Int)<(R.past.length:Int):=by omega
    go_wp2_with (go_at_call 77;refine(HNW.out _ (fun _ _=>rfl)).mono ?_;rintro e w' ⟨rfl,rfl⟩)
    have HMK:Hid (∀(wx:World)(c:Array Value),Za (fun _=>False) w wx→Blk wx w.heap.size 143 c→Za (fun _=>False) w wx∧Blk wx w.heap.size 143 c):=fun _ _ h1 h2=>⟨h1,h2⟩
    go_cut [7] (fun pp wx=>pp=.pointer (some ⟨w.heap.size,0,none⟩)∧Hid (Za (fun _=>False) w wx∧Blk wx w.heap.size 143 (Zx {p with keys:=0,tick:=R.clock}).toArray))
    case first=>
     have HNC:Hid (∀W:World,W.cell? ⟨b,0,none⟩=some (.slice (some ⟨gp,0,none⟩) R.past.length cp)→Calls Tryz.prog 77 #[.pointer (some ⟨b,0,none⟩)] W fun e w'=>e=.returned (.int .u64 ((R.past.length-1:Nat):Int))∧W=w'):=fun W hW=>Zhm W b _ _ _ hW (by omega) (by omega)
     go_region_held3 (fun w'=>w'.cell? ⟨b,0,none⟩=some (.slice (some ⟨gp,0,none⟩) R.past.length cp)∧w'.cell? ⟨b,1,none⟩=some (.int .i64 R.clock)∧w'.cell? ⟨gp,(R.past.length-1)*10,none⟩=some (.int .i32 (p.st 0))∧w'.cell? ⟨gp,(R.past.length-1)*10+1,none⟩=some (.int .i32 (p.st 1))∧w'.cell? ⟨gp,(R.past.length-1)*10+2,none⟩=some (.int .i32 (p.st 2))∧w'.cell? ⟨gp,(R.past.length-1)*10+3,none⟩=some (.int .i32 (p.st 3))∧w'.cell? ⟨gp,(R.past.length-1)*10+4,none⟩=some (.int .i32 (p.st 4))∧w'.cell? ⟨gp,(R.past.length-1)*10+5,none⟩=some (.int .i32 (p.st 5))∧w'.cell? ⟨gp,(R.past.length-1)*10+6,none⟩=some (.int .i32 (p.st 6))∧w'.cell? ⟨gp,(R.past.length-1)*10+7,none⟩=some (.int .i32 (p.st 7))) (go_keep) ((go_at_call 77;refine(HNC.out _ ?_).mono ?_;(simp[*]);rintro e w' ⟨rfl,rfl⟩))
     all_goals
      go_wp2
      go_meet
      case rel=>exact⟨rfl,(Za.alloc w _ _).drew,Blk.same (Blk.new w _ _) rfl⟩
    case rest=>
     obtain⟨rfl,HC⟩:=hcut;clear s0 s1 s2 s3 s4 s5 s6 s7 c0 c1 HMK;go_wp2
     go_loopw [8] (fun i wr=>∃k:Nat,k≤n∧i=.int .i64 k∧Hid (Za (fun _=>False) w wr∧Blk wr w.heap.size 143 (Zx (Yd {p with keys:=0,tick:=R.clock} (ws.take k))).toArray)) (fun i _=>n-(intOf i).toNat)
     case atStart=>exact⟨0,Nat.zero_le _,rfl,HC.out.1,HC.out.2⟩
     case round=>
      obtain⟨k,hkn,rfl,HB2⟩:=hrel;obtain⟨q,hq⟩:∃q,q=Yd {p with keys:=0,tick:=R.clock} (ws.take k):=⟨_,rfl⟩;rw[←hq]at HB2;have HQ:=hid hq;clear hq;by_cases hlt:k<n
      · have hlt':k<ws.length:=by omega
        obtain⟨bl,off,hao,z0,z1⟩:=HW.out.cell k hlt';have hbl:bl<w.heap.size:=World.block_lt_of_cell? w _ z0;have hbb:=HB2.out.1.block bl hbl id;have c0:=(World.cell?_of_block (a:=⟨bl,off+k*2,none⟩) hbb).trans z0;have c1:=(World.cell?_of_block (a:=⟨bl,off+k*2+1,none⟩) hbb).trans z1;clear hbb z0 z1;obtain⟨hx0,hx8⟩:=HB.out k hlt';obtain⟨kk,hkk⟩:∃kk:Nat,ws[k].1=kk:=⟨ws[k].1.toNat,by omega⟩;obtain⟨y,hy⟩:∃y,ws[k].2=y:=⟨_,rfl⟩;rw[hkk]at c0 hx8;rw[hy]at c1;have HE:Hid (Yd {p with keys:=0,tick:=R.clock} (ws.take (k+1))=Vx q ((kk:Int),y)):=by
         show _=_;rw[ZaH _ ws k hlt',←HQ.out,←hkk,←hy]
        have hk7:kk≤7:=by omega
        have hne:bl≠w.heap.size:=by omega
        have d0:=HB2.out.2.cell kk;rw[ZiP hk7]at d0;have d8:wr.cell? ⟨w.heap.size,8,none⟩=some (.int .u8 q.keys):=HB2.out.2.cell 8;have f0:=HB2.out.2.free kk;have f8:=HB2.out.2.free 8;have hkz:(0:Int)≤(kk:Int):=by omega
        have hkz8:(kk:Int)<8:=by omega
        subst hao;clear hkk hy hx0
        go_wp2_with fail
        have hne2:w.heap.size≠bl:=Ne.symm hne
        go_region_held3 (fun w'=>w'.cell? ⟨bl,off+k*2,none⟩=some (.int .i64 (kk:Int))∧w'.cell? ⟨bl,off+k*2+1,none⟩=some (.int .i32 y)) (first|go_keep|(refine⟨?_,?_⟩<;>(rw[World.cell?_setCell_other _ _ _ _ (by simp[hne,hne2])];first|assumption|simp[*]))) (fail)
        go_wp2_with fail
        have hb15:Blk ((wr.setCell ⟨w.heap.size,kk,none⟩ (.int .i32 y)).drew) w.heap.size 143 ((Zx q).toArray.setIfInBounds kk (.int .i32 y)):=Blk.same (HB2.out.2.set kk _) rfl;have hk15:Za (fun _=>False) w ((wr.setCell ⟨w.heap.size,kk,none⟩ (.int .i32 y)).drew):=(HB2.out.1.trans (Za.setCell wr ⟨w.heap.size,kk,none⟩ (.int .i32 y)) (fun _=>id) (fun i hi he=>by simp at he;omega)).drew;have e0:((wr.setCell ⟨w.heap.size,kk,none⟩ (.int .i32 y)).drew).cell? ⟨bl,off+k*2,none⟩=some (.int .i64 (kk:Int)):=(World.cell?_setCell_other _ _ _ _ (by simp)).trans c0;have e8:((wr.setCell ⟨w.heap.size,kk,none⟩ (.int .i32 y)).drew).cell? ⟨w.heap.size,8,none⟩=some (.int .u8 q.keys):=(World.cell?_setCell_other _ _ _ _ (by simp)).trans d8;have g8:=hb15.free 8;clear c0 c1 d0 d8 f0 f8;generalize hW15:(wr.setCell ⟨w.heap.size,kk,none⟩ (.int .i32 y)).drew=W at hb15 hk15 e0 e8 g8⊢;have HB15:Hid (Blk W w.heap.size 143 ((Zx q).toArray.setIfInBounds kk (.int .i32 y))∧Za (fun _=>False) w W):=⟨hb15,hk15⟩;clear hW15 hb15 hk15
        go_region
        all_goals
         go_wp2
         go_roundw
         case rel=>
          refine⟨k+1,by omega,by go_num,?_,?_⟩
          · exact(HB15.out.2.trans (Za.setCell W ⟨w.heap.size,8,none⟩ _) (fun _=>id) (fun i hi he=>by simp at he;omega)).drew
          · rw[HE.out,←Zhi hk7];exact Blk.same (HB15.out.1.set 8 _) rfl
         case measure=>simp[intOf];omega
      · have hk9:k=n:=by omega
        subst hk9;rw[←hl,List.take_length]at HQ;have hR9:Ref wr b R:=HR.out.kept HB2.out.1 (fun _ _=>id);have HR9:=hid hR9;have c0:=hR9.c0;rw[HVP.out.1]at c0;have t0:wr.cell? ⟨w.heap.size,0,none⟩=some (.int .i32 (q.st 0)):=HB2.out.2.cell 0;have t1:wr.cell? ⟨w.heap.size,1,none⟩=some (.int .i32 (q.st 1)):=HB2.out.2.cell 1;have t2:wr.cell? ⟨w.heap.size,2,none⟩=some (.int .i32 (q.st 2)):=HB2.out.2.cell 2;have t3:wr.cell? ⟨w.heap.size,3,none⟩=some (.int .i32 (q.st 3)):=HB2.out.2.cell 3;have t4:wr.cell? ⟨w.heap.size,4,none⟩=some (.int .i32 (q.st 4)):=HB2.out.2.cell 4;have t5:wr.cell? ⟨w.heap.size,5,none⟩=some (.int .i32 (q.st 5)):=HB2.out.2.cell 5;have t6:wr.cell? ⟨w.heap.size,6,none⟩=some (.int .i32 (q.st 6)):=HB2.out.2.cell 6;have t7:wr.cell? ⟨w.heap.size,7,none⟩=some (.int .i32 (q.st 7)):=HB2.out.2.cell 7;have t8:wr.cell? ⟨w.heap.size,8,none⟩=some (.int .u8 q.keys):=HB2.out.2.cell 8;have t9:wr.cell? ⟨w.heap.size,9,none⟩=some (.int .i64 q.tick):=HB2.out.2.cell 9;clear hR9
        go_wp2_with fail
        obtain⟨i0,hi,hz0,hz1,hz2⟩:=info_parts Tryz.infoPast;have HI:Hid (Tryz.prog.info? 143=some i0∧i0.zero=some (.agg #[.int .i32 0,.int .i32 0,.int .i32 0,.int .i32 0,.int .i32 0,.int .i32 0,.int .i32 0,.int .i32 0,.int .u8 0,.int .i64 0])∧i0.size=10∧i0.bytes=48):=⟨hi,hz0,hz1,hz2⟩;clear hi hz0 hz1 hz2;have hbr:b<wr.heap.size:=HR9.out.blk.lt;have qb:∀o:Obj,(wr.alloc o).cell? ⟨b,0,none⟩=some (.slice (some ⟨gp,0,none⟩) R.past.length cp):=fun o=>(World.cell?_alloc_past _ _ _ hbr).trans c0;have HROW:Hid (∀o:Obj,Row ((wr.alloc o).drew) 143 10 (.slice (some ⟨gp,0,none⟩) R.past.length cp) R.past.length (R.past.flatMap Zx)):=fun o=>by rw[←HVP.out.1];exact HR9.out.past.kept ((Za.alloc wr o (fun _=>False)).drew) (fun _ _=>id)
        have HAP:Hid (∀(o:Obj)(w':World)(v':Value)(news:List Value),Zc ((wr.alloc o).drew) w' 143 10 (.slice (some ⟨gp,0,none⟩) R.past.length cp) v' R.past.length 1 (R.past.flatMap Zx) news→w'.cell? ⟨b,0,none⟩=some (.slice (some ⟨gp,0,none⟩) R.past.length cp)∧w'.frozen? ⟨b,0,none⟩=false∧Zc wr w' 143 10 (.slice (some ⟨gp,0,none⟩) R.past.length cp) v' R.past.length 1 (R.past.flatMap Zx) news):=fun o w' v' news hA=>ZjZ HR9.out HVP.out.1 hA;have b1:R.past.length+1≤maxLen:=by unfold maxLen;omega
        have b2:(R.past.length+1)*48≤140737488355328:=by omega
        go_cut [79] (fun _ wx=>Hid (∃v,Ref wx b (R.pushP q v)∧Za (R.fp b) w wx∧(∀k,(R.pushP q v).fp b k→R.fp b k∨w.heap.size≤k)))
        case first=>
         go_region_law (refine Zw rfl (.tmp 83) (.tmp 85) 80 rfl 143 i0 (.agg #[.int .i32 0,.int .i32 0,.int .i32 0,.int .i32 0,.int .i32 0,.int .i32 0,.int .i32 0,.int .i32 0,.int .u8 0,.int .i64 0]) 10 48 Tryz.underlying80 HI.out.1 HI.out.2.1 HI.out.2.2.1 HI.out.2.2.2 rfl (Nat.succ_pos 9) (.slice (some ⟨gp,0,none⟩) R.past.length cp) R.past.length (R.past.flatMap Zx) rfl (HROW.out _) ⟨wr.heap.size,0,none⟩ 1 1 (Zx q) rfl rfl (fun j u hj=>ZhO wr q _ j u hj) (ZaO q) b1 b2 ?_;intro v' w' hA;obtain⟨p1,p2,p4⟩:=HAP.out _ _ _ _ hA;clear hA;obtain⟨ao',cap',hv',_⟩:=p4.row.form;subst hv')
         all_goals
          have hz:=Ref.pushP HR9.out q _ (by rw[HVP.out.1];exact p4);have HZ:Hid (∃v,Ref (w'.setCell ⟨b,0,none⟩ (.slice ao' (R.past.length+1) cap')) b (R.pushP q v)∧Za (R.fp b) w (w'.setCell ⟨b,0,none⟩ (.slice ao' (R.past.length+1) cap'))∧(∀k,(R.pushP q v).fp b k→R.fp b k∨w.heap.size≤k)):=
           ⟨_,hz.1,HB2.out.1.trans hz.2.1 (fun _=>False.elim) (fun _ _=>id),fun k hk=>(hz.2.2 k hk).imp id fun hh=>Nat.le_trans HB2.out.1.size hh⟩
          clear hz p4 p1 p2 qb;go_wp2
          go_meet
          case rel=>exact HZ
        case rest=>
         have HCUT:=hcut;clear hcut c0 t0 t1 t2 t3 t4 t5 t6 t7 t8 t9 qb;obtain⟨v2,hR2,hK2,hF2⟩:=HCUT.out;have hfit2:(R.pushP q v2).Fit:=⟨by simp[Zd.pushP],by show(R.past++[q]).length≤701;simp;omega,HF.out.clk0,HF.out.clk1,HF.out.rmax,HF.out.npos,HF.out.nmax,HF.out.fmax⟩;have HFit2:Hid (R.pushP q v2).Fit:=hfit2;have HR2:=hid hR2;have HK2:=hid hK2;have HF2:=hid hF2;have HNW2:Hid (Calls Tryz.prog 77 #[.pointer (some ⟨b,0,none⟩)] wc fun e w'=>e=.returned (.int .u64 (R.past.length:Int))∧wc=w'):=by
          have:=Vv wc b (R.pushP q v2) hR2 hfit2;have h0:(R.pushP q v2).past.length-1=R.past.length:=by simp[Zd.pushP]
          rw[h0]at this;exact this
         obtain⟨gn,cn,hvn,hon,_⟩:=hR2.nodes.block HF.out.npos;have hvn':R.vn=.slice (some ⟨gn,0,none⟩) R.nodes.length cn:=hvn;have HVN:=hid hvn';have hnm:=HF.out.nmax;clear hR2 hK2 hF2 hfit2 hvn hvn' hon HCUT
         go_wp2_with (go_at_call 77;refine HNW2.out.mono ?_;rintro e w' ⟨rfl,rfl⟩)
         go_loopw [10] (fun i wr=>∃k:Nat,k≤R.nodes.length∧i=.int .i64 k∧Hid (∃l,Ref wr b {R.pushP q v2 with nodes:=l}∧VM R.nodes l R.past.length k∧({R.pushP q v2 with nodes:=l}:Zd).Fit∧Za (R.fp b) w wr∧(∀k,({R.pushP q v2 with nodes:=l}:Zd).fp b k→R.fp b k∨w.heap.size≤k))) (fun i _=>R.nodes.length-(intOf i).toNat)
         case atStart=>exact⟨0,Nat.zero_le _,rfl,R.nodes,HR2.out,⟨rfl,fun j nd hj=>⟨fun h=>absurd h (Nat.not_lt_zero _),fun _=>hj⟩⟩,HFit2.out,HK2.out,HF2.out⟩
         case round=>
          obtain⟨k,hkn,rfl,HL⟩:=hrel;obtain⟨l,hRl,hTo,hFl,hKl,hPl⟩:=HL.out;have e3:=hRl.c3;have e3':wr.cell? ⟨b,3,none⟩=some (.slice (some ⟨gn,0,none⟩) R.nodes.length cn):=by rw[e3];show some R.vn=_;rw[HVN.out]
          clear e3;by_cases hlt:k<R.nodes.length
          · obtain⟨nd,hnd⟩:∃nd,R.nodes[k]?=some nd:=⟨_,List.getElem?_eq_getElem hlt⟩;have hnl:l[k]?=some nd:=(hTo.2 k nd hnd).2 (Nat.le_refl _);have HTELL:Hid (Calls Tryz.prog 78 #[.pointer (some ⟨b,0,none⟩),.int .i64 k,.int .u64 R.past.length] wr fun e w'=>X8 wr b {R.pushP q v2 with nodes:=l} k nd R.past.length e w'):=rtell wr b _ k R.past.length nd hRl hFl hnl (by omega);have HALL:Hid (VM R.nodes l R.past.length k∧({R.pushP q v2 with nodes:=l}:Zd).Fit∧Za (R.fp b) w wr∧(∀k,({R.pushP q v2 with nodes:=l}:Zd).fp b k→R.fp b k∨w.heap.size≤k)∧R.nodes[k]?=some nd∧nd∈l):=⟨hTo,hFl,hKl,hPl,hnd,List.mem_of_getElem? hnl⟩;clear hRl hTo hFl hKl hPl hnd hnl HL
            go_wp2_with (go_at_call 78;refine HTELL.out.mono ?_;rintro e w3 ⟨rfl,v3,hR3,hK3,hP3⟩)
            obtain⟨hTo,hFl,hKl,hPl,hnd,hmem⟩:=HALL.out;have hfit3:({R.pushP q v2 with nodes:=l.set k (Xi nd R.past.length v3)}:Zd).Fit:=by
             refine⟨hFl.pos,hFl.pmax,hFl.clk0,hFl.clk1,hFl.rmax,?_,?_,fun a ha=> ?_⟩
             · show 0<(l.set k _).length;rw[List.length_set];exact hFl.npos
             · show(l.set k _).length≤3;rw[List.length_set];exact hFl.nmax
             · rcases List.mem_or_eq_of_mem_set ha with ha|rfl
               · exact hFl.fmax a ha
               · exact Zhh v3 (hFl.fmax nd hmem) (by omega)
            have HDONE:Hid (∃l,Ref w3 b {R.pushP q v2 with nodes:=l}∧VM R.nodes l R.past.length (k+1)∧({R.pushP q v2 with nodes:=l}:Zd).Fit∧Za (R.fp b) w w3∧(∀k,({R.pushP q v2 with nodes:=l}:Zd).fp b k→R.fp b k∨w.heap.size≤k)):=by
             refine⟨_,hR3,hTo.next hnd v3,hfit3,hKl.trans hK3 (fun _=>id) (fun x hx hf=> ?_),fun x hx=> ?_⟩
             · rcases hPl x hf with h|h
               · exact h
               · omega
             · rcases hP3 x hx with h|h
               · exact hPl x h
               · exact .inr (Nat.le_trans hKl.size h)
            clear hTo hFl hKl hPl hnd hmem hfit3 hR3 hK3 hP3
            go_roundw
            case rel=>exact⟨k+1,by omega,by go_num,HDONE⟩
            case measure=>simp[intOf];omega
          · have hkk:k=R.nodes.length:=by omega
            subst hkk;clear hRl hTo hFl hKl hPl;go_wp2;go_ret2;obtain⟨l,hRl,hTo,hFl,hKl,hPl⟩:=HL.out;rw[HQ.out]at hRl hFl hPl;exact⟨rfl,p,v2,l,by rw[HPE.out];exact List.getElem?_eq_getElem (by omega),hRl,hTo,hFl,hKl,hPl⟩
end
def Ziv (w:World)(e:Ending)(w':World):Prop:=e=.returned (.tuple #[.int .u64 0,.int .i64 6])∧w=w'
theorem Zd9 (w:World)(b:Nat)(R:Zd)(ao:Option Addr)(n cap:Nat)(ws:List (Int×Int))(h:Ref w b R)(hf:R.Fit)(hw:Wr w ao n ws)(hn:n≤8)(hk:ws.all Yl=true)(h7:R.past.length=701):
 Calls Tryz.prog 29 #[.pointer (some ⟨b,0,none⟩),.slice ao n cap] w fun e w'=>Ziv w e w':=by
 have HW:=hid hw;have HB:Hid (∀j (h:j<ws.length),0≤ws[j].1∧ws[j].1<8):=by
  intro j hj;have:=List.all_eq_true.mp hk _ (List.getElem_mem hj);simpa[Yl]using this
 have hl:=hw.len;have HNW:Hid (Calls Tryz.prog 77 #[.pointer (some ⟨b,0,none⟩)] w fun e w'=>e=.returned (.int .u64 700)∧w=w'):=by
  have:=Vv w b R h hf;rw[h7]at this;exact this
 clear hw hk h hf h7;go_enter Tryz.func29,Tryz.ntmps29;go_wp2
 go_loop [6] (fun i=>∃k:Nat,k≤n∧i=.int .i64 k) (fun i=>n-(intOf i).toNat)
 case atStart=>exact⟨0,Nat.zero_le _,rfl⟩
 case round=>
  obtain⟨k,hkn,rfl⟩:=hrel;by_cases hlt:k<n
  · have hlt':k<ws.length:=by omega
    obtain⟨bl,off,hao,c0,_⟩:=HW.out.cell k hlt';obtain⟨x,hx⟩:∃x,x=ws[k].1:=⟨_,rfl⟩;obtain⟨hx0,hx8⟩:=HB.out k hlt';rw[←hx]at c0 hx0 hx8;subst hao;clear hx;have hd:decide (x<0)=false:=by simp;omega
    go_wp2
    go_round
    case rel=>exact⟨k+1,by omega,by go_num⟩
    case measure=>simp[intOf];omega
  · go_wp2_with (go_at_call 77;refine HNW.out.mono ?_;rintro e w' ⟨rfl,rfl⟩)
    go_ret2;exact⟨rfl,rfl⟩
theorem Zf8 (n r:Int)(w:World)(h:n<1∨3<n):
 Calls Tryz.prog 24 #[.int .i64 n,.int .i64 r] w fun e w'=>e=.returned (.tuple #[.pointer none,.int .i64 1])∧w=w':=by
 by_cases h0:n<1
 · have hd:decide (n<1)=true:=by simpa using h0
   go_enter Tryz.func24,Tryz.ntmps24;go_wp2;go_ret2;exact⟨rfl,rfl⟩
 · have hd:decide (n<1)=false:=by simpa using h0
   have h3:3<n:=by omega
   go_enter Tryz.func24,Tryz.ntmps24;go_wp2;go_ret2;exact⟨rfl,rfl⟩
theorem ZhV (n r:Int)(w:World)(h1:1≤n)(h2:n≤3)(h:r<1∨6<r):
 Calls Tryz.prog 24 #[.int .i64 n,.int .i64 r] w fun e w'=>e=.returned (.tuple #[.pointer none,.int .i64 2])∧w=w':=by
 have hd0:decide (n<1)=false:=by simp;omega
 by_cases h0:r<1
 · have hd:decide (r<1)=true:=by simpa using h0
   go_enter Tryz.func24,Tryz.ntmps24;go_wp2;go_ret2;exact⟨rfl,rfl⟩
 · have hd:decide (r<1)=false:=by simpa using h0
   have h6:6<r:=by omega
   go_enter Tryz.func24,Tryz.ntmps24;go_wp2;go_ret2;exact⟨rfl,rfl⟩
def upN :Zi:={zeroN with up:=true}
def XK (room:Int)(k:Nat)(vp vn:Value):Zd:=⟨[zeroP],0,[],List.replicate k upN,room,0,[],[],vp,ZH,vn,ZH,ZH⟩
theorem Tryz.infoNode :(Tryz.prog.info? 146).map (fun i=>(i.zero,i.size,i.bytes))=some (some (.agg #[.bool false,.int .u64 0,.int .u64 0,.slice none 0 0,.slice none 0 0,.slice none 0 0,.slice none 0 0]),7,120):=by kernel_rfl
structure Za9 (w wr:World)(room:Int)(k:Nat)(vp vn:Value):Prop where
 ref:Ref wr w.heap.size (XK room k vp vn)
 kept:Za (fun _=>False) w wr
 new:∀x,(XK room k vp vn).fp w.heap.size x→w.heap.size≤x
theorem ZgQ :∀r∈Z3 upN,r.v=.slice none 0 0∧r.n=0∧r.xs=[]:=by
 intro r hr;simp only[Z3,upN,zeroN,List.mem_cons,List.not_mem_nil,or_false]at hr;rcases hr with rfl|rfl|rfl|rfl<;>exact⟨rfl,rfl,rfl⟩
theorem Za9.start (w:World)(room:Int){w':World}{v:Value}{o:Obj}
 (hA:Zc ((w.alloc (.cells #[.slice none 0 0,.int .i64 0,.slice none 0 0,.slice none 0 0,.int .i64 room,.slice none 0 0,.slice none 0 0,.int .i64 0] 84)).alloc o) w' 143 10 (.slice none 0 0) v 0 1 [] (Zx zeroP)):
 Za9 w (w'.setCell ⟨w.heap.size,0,none⟩ v) room 0 v ZH:=by
 have hnil:∀r∈(⟨[],0,[],[],room,0,[],[],ZH,ZH,ZH,ZH,ZH⟩:Zd).rows,r.v=.slice none 0 0∧r.n=0∧r.xs=[]:=by
  intro r hr;simp only[Zd.rows,List.flatMap_nil,List.mem_cons,List.not_mem_nil,or_false]at hr;rcases hr with rfl|rfl|rfl|rfl|rfl<;>exact⟨rfl,rfl,rfl⟩
 have h0:Ref (w.alloc (.cells #[.slice none 0 0,.int .i64 0,.slice none 0 0,.slice none 0 0,.int .i64 room,.slice none 0 0,.slice none 0 0,.int .i64 0] 84)) w.heap.size ⟨[],0,[],[],room,0,[],[],ZH,ZH,ZH,ZH,ZH⟩:=
  ⟨Blk.new _ _ _,ZbQ hnil⟩
 obtain⟨z1,z2,z3⟩:=h0.pushP zeroP v hA.of_alloc;have hfp:∀x,(⟨[],0,[],[],room,0,[],[],ZH,ZH,ZH,ZH,ZH⟩:Zd).fp w.heap.size x→x=w.heap.size:=by
  rintro x (rfl|⟨r,hr,hx⟩)
  · rfl
  · rw[(hnil r hr).1]at hx;simp[Value.ownBlock]at hx
 refine⟨z1,(Za.alloc w _ (fun _=>False)).trans z2 (fun _=>id) (fun x hx hf=> ?_),fun x hx=> ?_⟩
 · have:=hfp x hf;omega
 · rcases z3 x hx with h|h
   · rw[hfp x h];exact Nat.le_refl _
   · simp at h;omega
theorem Za9.next {w wr w':World}{room:Int}{k:Nat}{vp vn v:Value}{o:Obj}(h:Za9 w wr room k vp vn)(hA:Zc (wr.alloc o) w' 146 7 vn v k 1 ((List.replicate k upN).flatMap nodeC) (nodeC upN)):
 Za9 w (w'.setCell ⟨w.heap.size,3,none⟩ v) room (k+1) vp v:=by
 have hA:=hA.of_alloc;have r:=h.ref;have k1:=hA.kept;have k2:=Za.setCell w' ⟨w.heap.size,3,none⟩ v;have ownv:∀x,v.ownBlock=some x→vn.ownBlock=some x∨wr.heap.size≤x:=fun x hx=>hA.own.imp (fun e=>by rw[←e];exact hx) (fun e=>e x hx);have blk1:Blk w' w.heap.size _ _:=r.blk.kept k1 fun he=>r.nodes.ne_block r.blk (by decide) he;have hn:Yw.Is w' ⟨146,7,v,(List.replicate (k+1) upN).length,(List.replicate (k+1) upN).flatMap nodeC⟩:=by
  show Row w' _ 7 v (List.replicate (k+1) upN).length ((List.replicate (k+1) upN).flatMap nodeC);rw[List.length_replicate,List.replicate_succ',List.flatMap_append];simpa using hA.row
 have all1:=(r.all.put 2 (XK room k vp vn).nodeD ⟨146,7,v,(List.replicate (k+1) upN).length,(List.replicate (k+1) upN).flatMap nodeC⟩ rfl k1 hn ownv).more ZgQ;have er:(XK room (k+1) vp v).rows=((XK room k vp vn).rows.set 2 ⟨146,7,v,(List.replicate (k+1) upN).length,(List.replicate (k+1) upN).flatMap nodeC⟩)++Z3 upN:=by
  show _::_::_::_::_::(List.replicate (k+1) upN).flatMap Z3=_::_::_::_::_::((List.replicate k upN).flatMap Z3++Z3 upN);have e:(List.replicate (k+1) upN).flatMap Z3=(List.replicate k upN).flatMap Z3++Z3 upN:=by rw[List.replicate_succ',List.flatMap_append];simp
  rw[e];rfl
 have mem:∀a∈(XK room (k+1) vp v).rows,∀x,a.v.ownBlock=some x→w.heap.size≤x:=by
  intro a ha x hx;rw[er]at ha;rcases List.mem_append.mp ha with ha|ha
  · rcases List.mem_or_eq_of_mem_set ha with ha|rfl
    · exact h.new x (.inr ⟨a,ha,hx⟩)
    · rcases ownv x hx with e|e
      · exact h.new x (Ue e)
      · exact Nat.le_trans h.kept.size e
  · rw[(ZgQ a ha).1]at hx;simp[Value.ownBlock]at hx
 refine⟨⟨blk1.set 3 v,?_⟩,h.kept.trans (k1.trans k2 (H:=fun x=>vn.ownBlock=some x∨x=w.heap.size) (fun x hx=>.inl hx) (fun x _ hx=>.inr hx)) (fun _=>id) (fun x hx hf=> ?_),?_⟩
 · rw[er];refine all1.kept k2 ?_;rintro j ⟨a,ha,hj⟩ he;subst he;exact(all1.row a ha).ne_block blk1 (Vw (R:=XK room (k+1) vp v) (by rw[er];exact ha)) hj
 · rcases hf with hf|hf
   · have:=h.new x (Ue hf);omega
   · omega
 · rintro x (rfl|⟨a,ha,hx⟩)
   · exact Nat.le_refl _
   · exact mem a ha x hx
theorem ZdH :∀u∈nodeC upN,u.oneCell'=true:=by
 intro u hu;simp[nodeC,upN,zeroN]at hu;rcases hu with rfl|rfl|rfl<;>rfl
theorem Zhf (w:World)(t:TypeId):∀j u,(nodeC upN)[j]?=some u→(w.alloc (.cells #[.bool true,.int .u64 0,.int .u64 0,.slice none 0 0,.slice none 0 0,.slice none 0 0,.slice none 0 0] t)).cell? ((⟨w.heap.size,0,none⟩:Addr).add j)=some u:=by
 intro j u hj;have e:(⟨w.heap.size,0,none⟩:Addr).add j=⟨w.heap.size,j,none⟩:=by cases j<;>simp[Addr.add]
 rw[e,World.cell?_alloc_at _ _ _ _ rfl];simpa[nodeC,upN,zeroN]using hj
def ZjF (w:World)(n:Nat)(room:Int)(e:Ending)(w':World):Prop:=
 e=.returned (.tuple #[.pointer (some ⟨w.heap.size,0,none⟩),.int .i64 0])∧∃vp vn,Za9 w w' room n vp vn
theorem ZhP (w:World)(o:Obj)(t:TypeId):∀j u,(Zx zeroP)[j]?=some u→((w.alloc o).alloc (.cells #[.int .i32 0,.int .i32 0,.int .i32 0,.int .i32 0,.int .i32 0,.int .i32 0,.int .i32 0,.int .i32 0,.int .u8 0,.int .i64 0] t)).cell? ((⟨w.heap.size+1,0,none⟩:Addr).add j)=some u:=by
 intro j u hj;have e:(⟨w.heap.size+1,0,none⟩:Addr).add j=⟨w.heap.size+1,j,none⟩:=by cases j<;>simp[Addr.add]
 rw[e,World.cell?_alloc_at _ _ _ _ (by simp)];simpa[Zx,zeroP]using hj
theorem rnew (n:Nat)(r:Int)(w:World)(h1:1≤n)(h2:n≤3)(h3:1≤r)(h4:r≤6):
 Calls Tryz.prog 24 #[.int .i64 n,.int .i64 r] w fun e w'=>ZjF w n r e w':=by
 have hd0:decide ((n:Int)<1)=false:=by simp;omega
 have hd1:decide (r<1)=false:=by simp;omega
 obtain⟨i0,hi,hz0,hz1,hz2⟩:=info_parts Tryz.infoPast;have HI:Hid (Tryz.prog.info? 143=some i0∧i0.zero=some (.agg #[.int .i32 0,.int .i32 0,.int .i32 0,.int .i32 0,.int .i32 0,.int .i32 0,.int .i32 0,.int .i32 0,.int .u8 0,.int .i64 0])∧i0.size=10∧i0.bytes=48):=⟨hi,hz0,hz1,hz2⟩;clear hi hz0 hz1 hz2;obtain⟨i1,hi,hz0,hz1,hz2⟩:=info_parts Tryz.infoNode;have HN:Hid (Tryz.prog.info? 146=some i1∧i1.zero=some (.agg #[.bool false,.int .u64 0,.int .u64 0,.slice none 0 0,.slice none 0 0,.slice none 0 0,.slice none 0 0])∧i1.size=7∧i1.bytes=120):=⟨hi,hz0,hz1,hz2⟩;clear hi hz0 hz1 hz2;go_enter Tryz.func24,Tryz.ntmps24
 go_wp2_with (at_builtin;go_must (refine Zf _ rfl (.tmp 27) (.tmp 29) 80 rfl 143 i0 (.agg #[.int .i32 0,.int .i32 0,.int .i32 0,.int .i32 0,.int .i32 0,.int .i32 0,.int .i32 0,.int .i32 0,.int .u8 0,.int .i64 0]) 10 48 Tryz.underlying80 HI.out.1 HI.out.2.1 HI.out.2.2.1 HI.out.2.2.2 rfl (by decide) (.slice none 0 0) 0 [] rfl (Row.nil _ _ _) ⟨w.heap.size+1,0,none⟩ 1 1 (Zx zeroP) rfl rfl (ZhP w _ _) (ZaO zeroP) (by unfold maxLen;omega) (by omega) ?_);intro v' w1 hA;have HS:Hid (Za9 w (w1.setCell ⟨w.heap.size,0,none⟩ v') r 0 v' ZH):=Za9.start w r hA;have hb1:=(hA.kept.block w.heap.size (by simp;omega) (by simp[Value.ownBlock]));have hc0:w1.cell? ⟨w.heap.size,0,none⟩=some (.slice none 0 0):=(World.cell?_of_block (a:=⟨w.heap.size,0,none⟩) hb1).trans (by simp[go_sem]);have hf0:w1.frozen? ⟨w.heap.size,0,none⟩=false:=(World.frozen?_of_block (a:=⟨w.heap.size,0,none⟩) hb1).trans (by simp[go_sem]);clear hb1;obtain⟨ao',cap',hv',_⟩:=hA.row.form;clear hA;subst hv')
 go_loopw [7] (fun i wr=>∃k:Nat,k≤n∧i=.int .i64 k∧Hid (∃vp vn,Za9 w wr r k vp vn)) (fun i _=>n-(intOf i).toNat)
 case atStart=>exact⟨0,Nat.zero_le _,rfl,_,_,HS.out⟩
 case round=>
  obtain⟨k,hk,rfl,HL⟩:=hrel;obtain⟨vp,vn,hL⟩:=HL.out;obtain⟨ao,cap,hvn,_⟩:=hL.ref.nodes.form
  have hvn':vn=.slice ao k cap:=by have:(XK r k vp vn).nodes.length=k:=by simp[XK]
                                   rw[this]at hvn;exact hvn
  subst hvn';have c3:wr.cell? ⟨w.heap.size,3,none⟩=some (.slice ao k cap):=hL.ref.c3;have f3:=hL.ref.blk.free 3;have hz:=hL.ref.blk.lt;have HLL:=hid hL;have HROW:Hid (∀o:Obj,Row (wr.alloc o) 146 7 (.slice ao k cap) k ((List.replicate k upN).flatMap nodeC)):=fun o=>by
   have:=hL.ref.nodes.kept (Za.alloc wr o (fun _=>False)) (fun _ _=>id);have e:(XK r k vp (.slice ao k cap)).nodes.length=k:=by simp[XK]
   rw[e]at this;exact this
  have HAFT:Hid (∀(o:Obj)(w':World)(v':Value),Zc (wr.alloc o) w' 146 7 (.slice ao k cap) v' k 1 ((List.replicate k upN).flatMap nodeC) (nodeC upN)→w'.cell? ⟨w.heap.size,3,none⟩=some (.slice ao k cap)∧w'.frozen? ⟨w.heap.size,3,none⟩=false):=by
   intro o w' v' hA;have bb:=hL.ref.blk.kept hA.of_alloc.kept fun he=>hL.ref.nodes.ne_block hL.ref.blk (by decide) he;exact⟨bb.cell 3,bb.free 3⟩
  clear hL hvn;by_cases hlt:k<n
  · go_wp2_with (at_builtin;go_must (refine Zf _ rfl (.tmp 42) (.tmp 44) 82 rfl 146 i1 (.agg #[.bool false,.int .u64 0,.int .u64 0,.slice none 0 0,.slice none 0 0,.slice none 0 0,.slice none 0 0]) 7 120 Tryz.underlying82 HN.out.1 HN.out.2.1 HN.out.2.2.1 HN.out.2.2.2 rfl (by decide) (.slice ao k cap) k ((List.replicate k upN).flatMap nodeC) rfl (HROW.out _) ⟨wr.heap.size,0,none⟩ 1 1 (nodeC upN) rfl rfl (Zhf wr _) ZdH (by unfold maxLen;omega) (by omega) ?_);intro v' w1 hA;obtain⟨x3,y3⟩:=HAFT.out _ _ _ hA;have HNX:Hid (Za9 w (w1.setCell ⟨w.heap.size,3,none⟩ v') r (k+1) vp v'):=HLL.out.next hA;obtain⟨ao',cap',hv',_⟩:=hA.row.form;clear hA;subst hv')
    go_roundw
    case rel=>exact⟨k+1,by omega,by go_num,vp,_,HNX.out⟩
    case measure=>simp[intOf];omega
  · have hkk:k=n:=by omega
    subst hkk;go_wp2;go_ret2;exact⟨rfl,vp,_,HLL.out⟩
end Go.Proofs.YtpfcacedpkaihaaGreat
