import Derived.Test.YtpfcacedpkaihaaGreatC30
namespace Go.Proofs.YtpfcacedpkaihaaGreat
open Go.RowKit
set_option maxRecDepth 100000
set_option maxHeartbeats 16000000
theorem dlook0 (w:World)(b k g:Nat)(D:Ze)(nd:Zn)(h:Dev w b D)(hnd:D.nodes[k]?=some nd)(ho:D.vn.ownBlock=some g)(hw:nd.p.Walk):
 Calls Tryz.prog 109 #[.pointer (some ⟨g,k*8,none⟩)] w fun e w'=>∃wa wc ea ec,e=.returned (.agg #[.bool nd.p.up,.int .u64 (nd.p.horizon:Int),.slice wa (Z4 nd.p 4).length wc,.slice ea nd.p.ents.length ec])∧Hid (ZG 5 1 u8C w w' (.slice wa (Z4 nd.p 4).length wc) (Z4 nd.p 4)∧ZG 55 6 Zk w w' (.slice ea nd.p.ents.length ec) (nd.p.ents.map (·.e))):=by
 have hr:=h.ents nd (List.mem_of_getElem? hnd);obtain⟨ao,cap,hv,hp⟩:=hr.helds;have c5:w.cell? ⟨g,k*8+5,none⟩=some nd.en:=h.nodeC hnd ho 5 (by omega) _ rfl;have c0:w.cell? ⟨g,k*8,none⟩=some (.bool nd.p.up):=h.nodeC hnd ho 0 (by omega) _ rfl;have c2:w.cell? ⟨g,k*8+2,none⟩=some (.int .u64 (nd.p.horizon:Int)):=h.nodeC hnd ho 2 (by omega) _ rfl;have hgl:g<w.heap.size:=World.block_lt_of_cell? w _ c5;have hel:=hw.el;rw[hv]at c5;obtain⟨l,hll⟩:∃l,l=nd.p.ents:=⟨_,rfl⟩;have HP:Hid (∀j (hj:j<l.length),∃ge,ao=some ⟨ge,0,none⟩∧ge<w.heap.size∧∀f,f<7→w.cell? ⟨ge,j*7+f,none⟩=(heldC l[j])[f]?):=by rw[hll];exact hp
 have HN:Hid (∀W,Za (fun _=>False) w W→Calls Tryz.prog 150 #[.pointer (some ⟨g,k*8,none⟩)] W fun e w'=>∃ao cap,e=.returned (.slice ao (Z4 nd.p 4).length cap)∧Hid (ZG 5 1 u8C W w' (.slice ao (Z4 nd.p 4).length cap) (Z4 nd.p 4))):=fun W hW=>Ziz W b k g D nd (h.kept hW (fun _ _=>id)) hnd ho hw;have HC:Hid (∀W,Za (fun _=>False) w W→W.cell? ⟨g,k*8,none⟩=some (.bool nd.p.up)∧W.cell? ⟨g,k*8+2,none⟩=some (.int .u64 (nd.p.horizon:Int))):=fun W hW=>⟨hW.hold c0,hW.hold c2⟩;rw[←hll]at hel c5⊢;obtain⟨wn,hwn⟩:∃x,x=Z4 nd.p 4:=⟨_,rfl⟩;obtain⟨up,hup⟩:∃x,x=nd.p.up:=⟨_,rfl⟩;obtain⟨hzn,hhz⟩:∃x,x=nd.p.horizon:=⟨_,rfl⟩;rw[←hwn]at HN⊢;rw[←hup,←hhz]at HC⊢;obtain⟨i0,hi,hz0,hz1,hz2⟩:=info_parts Tryz.infoEntry;have HI:Hid (Tryz.prog.info? 55=some i0∧i0.zero=some (.agg #[.string ByteArray.empty,.int .i32 0,.int .u64 0,.int .u64 0,.bool false,.int .u64 0])∧i0.size=6∧i0.bytes=56):=⟨hi,hz0,hz1,hz2⟩;clear hi hz0 hz1 hz2 h hnd ho hw hr hp hv hll c0 c2 hwn hup hhz;have HB:Hid (∀o W,Za (fun _=>False) (w.alloc (.cells #[.bool false,.int .u64 0,.slice none 0 0,.slice none 0 0] o)) W→Za (fun _=>False) w W∧Blk W w.heap.size o #[.bool false,.int .u64 0,.slice none 0 0,.slice none 0 0]):=fun o W hW=>⟨(Za.alloc _ _ _).trans hW (fun _=>id) (fun _ _=>id),(Blk.new w _ _).kept hW id⟩;go_enter Tryz.func109,Tryz.ntmps109;go_wp2;obtain⟨kW,bW⟩:=HB.out 102 _ (Za.refl _ _);generalize w.alloc (.cells #[.bool false,.int .u64 0,.slice none 0 0,.slice none 0 0] 102)=W at kW bW⊢;have HKW:Hid (Za (fun _=>False) w W∧Blk W w.heap.size 102 #[.bool false,.int .u64 0,.slice none 0 0,.slice none 0 0]):=⟨kW,bW⟩;clear kW bW HB
 go_loopw [3,12] (fun v iv wr=>∃j:Nat,j≤l.length∧iv=.int .i64 j∧Hid (ZG 55 6 Zk W wr v ((l.take j).map (·.e)))) (fun _ iv _=>l.length-(intOf iv).toNat)
 case atStart=>exact⟨0,Nat.zero_le _,rfl,ZG.start _ _ _ _⟩
 case round=>
  obtain⟨j,hj,rfl,HG⟩:=hrel;obtain⟨av,cv,hvv,_⟩:=HG.out.row.form;have hfl:((l.take j).map (·.e)).length=j:=by rw[List.length_map,List.length_take];omega
  rw[hfl]at hvv;subst hvv;have hkw:Za (fun _=>False) w wr:=HKW.out.1.trans HG.out.kept (fun _=>id) (fun _ _=>id);by_cases hlt:j<l.length
  · obtain⟨ge,hao,hge,hc⟩:=HP.out j hlt;have HX:Hid ((l.take (j+1)).map (·.e)=(l.take j).map (·.e)++[l[j].e]):=by show _=_;rw[List.take_succ_eq_append_getElem hlt,List.map_append];rfl
    obtain⟨x,hx⟩:∃x,x=l[j]:=⟨_,rfl⟩;rw[←hx]at hc HX;have d0:wr.cell? ⟨ge,j*7,none⟩=some (.string x.e.q):=hkw.hold (hc 0 (by omega));have d1:wr.cell? ⟨ge,j*7+1,none⟩=some (.int .i32 x.e.val):=hkw.hold (hc 1 (by omega));have d2:wr.cell? ⟨ge,j*7+2,none⟩=some (.int .u64 (x.e.fr:Int)):=hkw.hold (hc 2 (by omega));have d3:wr.cell? ⟨ge,j*7+3,none⟩=some (.int .u64 (x.e.till:Int)):=hkw.hold (hc 3 (by omega));have d4:wr.cell? ⟨ge,j*7+4,none⟩=some (.bool x.e.op):=hkw.hold (hc 4 (by omega));have d5:wr.cell? ⟨ge,j*7+5,none⟩=some (.int .u64 (x.e.kn:Int)):=hkw.hold (hc 5 (by omega));have d6:wr.cell? ⟨ge,j*7+6,none⟩=some (.int .u64 (x.used:Int)):=hkw.hold (hc 6 (by omega));have hj0:(0:Int)≤(j:Int):=by omega
    have hj1:(j:Int)<(l.length:Int):=by omega
    have HROW:Hid (∀o o',Row ((wr.alloc o).alloc o') 55 6 (.slice av j cv) j (((l.take j).map (·.e)).flatMap Zk)):=fun o o'=>by have:=(HG.out.row.kept (Za.alloc wr o (fun _=>False)) (fun _ _=>id)).kept (Za.alloc _ o' (fun _=>False)) (fun _ _=>id);rw[hfl]at this;exact this
    have HNX:Hid (∀(o o':Obj)(w':World)(v':Value),Zc ((wr.alloc o).alloc o') w' 55 6 (.slice av j cv) v' j 1 (((l.take j).map (·.e)).flatMap Zk) (Zk x.e)→ZG 55 6 Zk W w' v' ((l.take j).map (·.e)++[x.e])):=by
     intro o o' w' v' hA;have hA':Zc ((wr.alloc o).alloc o') w' 55 6 (.slice av j cv) v' ((l.take j).map (·.e)).length 1 (((l.take j).map (·.e)).flatMap Zk) (Zk x.e):=by rw[hfl];exact hA
     exact(HG.out.more ((Za.alloc wr o (fun _=>False)).allocNew o')).next hA'
    have b1:j+1≤maxLen:=by unfold maxLen;omega
    have b2:(j+1)*56≤140737488355328:=by omega
    clear hx hc hge hfl hkw;subst hao
    go_wp2_with (at_builtin;go_must (refine Zf _ rfl (.tmp 16) (.tmp 19) 51 rfl 55 i0 (.agg #[.string ByteArray.empty,.int .i32 0,.int .u64 0,.int .u64 0,.bool false,.int .u64 0]) 6 56 Tryz.underlying51 HI.out.1 HI.out.2.1 HI.out.2.2.1 HI.out.2.2.2 rfl (by decide) (.slice av j cv) j _ rfl (HROW.out _ _) ⟨wr.heap.size+1,0,none⟩ 1 1 (Zk x.e) rfl rfl (fun j u hj=>by simpa using Zhq (wr.alloc _) x.e _ j u hj) (ZdW x.e) b1 b2 ?_);intro v' w1 hA;have HA:Hid (ZG 55 6 Zk W w1 v' ((l.take j).map (·.e)++[x.e])):=HNX.out _ _ _ _ hA;clear hA)
    go_roundw
    case rel=>exact⟨j+1,by omega,by go_num,by rw[HX.out];exact HA.out⟩
    case measure=>simp[intOf];omega
  · have hjn:j=l.length:=by omega
    subst hjn;have HG2:Hid (ZG 55 6 Zk W wr (.slice av l.length cv) (l.map (·.e))):=by have:=HG.out;rw[List.take_length]at this;exact this
    have HKR:=hid hkw;clear hfl hkw HG
    go_wp2_with (go_at_call 150;refine(HN.out _ HKR.out).mono ?_;rintro e w1 ⟨wa,wc,rfl,HW⟩)
    obtain⟨c0,c2⟩:=HC.out w1 (HKR.out.trans HW.out.kept (fun _=>id) (fun _ _=>id));have bR:=(HKW.out.2.kept HG2.out.kept id).kept HW.out.kept id;have r0:w1.cell? ⟨w.heap.size,0,none⟩=some (.bool false):=bR.cell 0;have r1:w1.cell? ⟨w.heap.size,1,none⟩=some (.int .u64 0):=bR.cell 1;have r2:w1.cell? ⟨w.heap.size,2,none⟩=some (.slice none 0 0):=bR.cell 2;have r3:w1.cell? ⟨w.heap.size,3,none⟩=some (.slice none 0 0):=bR.cell 3;have rf:∀i,w1.frozen? ⟨w.heap.size,i,none⟩=false:=fun i=>bR.free i;have hgne:g≠w.heap.size:=by omega
    have HFIN:Hid (∀W',Za (fun k=>k=w.heap.size) w1 W'→ZG 5 1 u8C w W' (.slice wa wn.length wc) wn∧ZG 55 6 Zk w W' (.slice av l.length cv) (l.map (·.e))):=fun W' k=>by
     have kk:Za (fun _=>False) w W':=(HKR.out.trans HW.out.kept (fun _=>id) (fun _ _=>id)).trans k (fun _=>id) (fun i hi he=>by omega);have hsw:=HKW.out.1.size;have hsz:W.heap.size≤wr.heap.size:=HG2.out.kept.size;have hbl:w.heap.size<W.heap.size:=HKW.out.2.lt;refine⟨⟨HW.out.row.kept k (fun i hi he=>by have:=HW.out.new i hi;omega),kk,fun i hi=>by have:=HW.out.new i hi;omega⟩,⟨((HG2.out.row.kept HW.out.kept (fun _ _=>id))).kept k (fun i hi he=>by have:=HG2.out.new i hi;omega),kk,fun i hi=>by have:=HG2.out.new i hi;omega⟩⟩
    clear bR
    go_region
    all_goals
     go_wp2;refine bodyPost_ret (v:=.agg #[.bool up,.int .u64 (hzn:Int),.slice wa wn.length wc,.slice av l.length cv]) (by simp[results,Tryz.results109,go_sem, *]) rfl ⟨wa,wc,av,cv,rfl,HFIN.out _ ?_⟩
     repeat first
      |with_reducible refine Za.setO ?_ _ _
      |with_reducible exact Za.refl _ _
      |with_reducible refine Za.drewN ?_ _
      |with_reducible refine Za.drew ?_
def ZfA (p:Zb)(w w':World)(wa ea:Option Addr)(wc ec:Nat):Prop:=ZG 5 1 u8C w w' (.slice wa (Z4 p 4).length wc) (Z4 p 4)∧ZG 55 6 Zk w w' (.slice ea p.ents.length ec) (p.ents.map (·.e))
theorem dlook (w:World)(b k:Nat)(D:Ze)(nd:Zn)(h:Dev w b D)(hnd:D.nodes[k]?=some nd)(hw:nd.p.Walk):
 Calls Tryz.prog 49 #[.pointer (some ⟨b,0,none⟩),.int .i64 (k:Int)] w fun e w'=>∃wa wc ea ec,e=.returned (.tuple #[.agg #[.bool nd.p.up,.int .u64 (nd.p.horizon:Int),.slice wa (Z4 nd.p 4).length wc,.slice ea nd.p.ents.length ec],.int .i64 0])∧Hid (ZfA nd.p w w' wa ea wc ec):=by
 have hk:k<D.nodes.length:=(List.getElem?_eq_some_iff.mp hnd).1;obtain⟨g,cv,hv,ho,hgl⟩:=h.nodes.block (by omega);have HS:Hid (∀W,Za (fun _=>False) w W→Calls Tryz.prog 106 #[.pointer (some ⟨b,0,none⟩),.int .i64 (k:Int)] W fun e w'=>e=.returned (.tuple #[.pointer (some ⟨g,k*8,none⟩),.int .i64 0])∧W=w'):=fun W hW=>Zbl W b k g D (h.kept hW (fun _ _=>id)) hk ho;have HL:Hid (∀W,Za (fun _=>False) w W→Calls Tryz.prog 109 #[.pointer (some ⟨g,k*8,none⟩)] W fun e w'=>∃wa wc ea ec,e=.returned (.agg #[.bool nd.p.up,.int .u64 (nd.p.horizon:Int),.slice wa (Z4 nd.p 4).length wc,.slice ea nd.p.ents.length ec])∧Hid (ZG 5 1 u8C W w' (.slice wa (Z4 nd.p 4).length wc) (Z4 nd.p 4)∧ZG 55 6 Zk W w' (.slice ea nd.p.ents.length ec) (nd.p.ents.map (·.e)))):=fun W hW=>dlook0 W b k g D nd (h.kept hW (fun _ _=>id)) hnd ho hw;obtain⟨p,hp⟩:∃p,p=nd.p:=⟨_,rfl⟩;rw[←hp]at HL⊢;clear h hnd hw hk hv ho hp;go_enter Tryz.func49,Tryz.ntmps49
 go_wp2_with first
  |(go_at_call 106;refine(HS.out _ (Za.alloc _ _ _)).mono ?_;rintro e w1 ⟨rfl,rfl⟩)
  |(go_at_call 109;refine(HL.out _ (Za.alloc _ _ _)).mono ?_;rintro e w1 ⟨wa,wc,ea,ec,rfl,HG⟩;have bR:=(Blk.new w 102 #[.bool false,.int .u64 0,.slice none 0 0,.slice none 0 0]).kept HG.out.1.kept id;have r0:w1.cell? ⟨w.heap.size,0,none⟩=some (.bool false):=bR.cell 0;have r1:w1.cell? ⟨w.heap.size,1,none⟩=some (.int .u64 0):=bR.cell 1;have r2:w1.cell? ⟨w.heap.size,2,none⟩=some (.slice none 0 0):=bR.cell 2;have r3:w1.cell? ⟨w.heap.size,3,none⟩=some (.slice none 0 0):=bR.cell 3;have rf:∀i,w1.frozen? ⟨w.heap.size,i,none⟩=false:=fun i=>bR.free i;clear bR)
 refine bodyPost_ret (v:=.tuple #[.agg #[.bool p.up,.int .u64 (p.horizon:Int),.slice wa (Z4 p 4).length wc,.slice ea p.ents.length ec],.int .i64 0]) (by simp[results,Tryz.results49,go_sem, *]) rfl ⟨wa,wc,ea,ec,rfl,?_⟩;have hF:∀W',Za (fun k=>k=w.heap.size) w1 W'→ZfA p w W' wa ea wc ec:=fun W' k=>by
  have hsz:(w.alloc (.cells #[.bool false,.int .u64 0,.slice none 0 0,.slice none 0 0] 102)).heap.size=w.heap.size+1:=by simp
  have kk:Za (fun _=>False) w W':=((Za.alloc _ _ _).trans HG.out.1.kept (fun _=>id) (fun _ _=>id)).trans k (fun _=>id) (fun i hi he=>by omega);refine⟨⟨HG.out.1.row.kept k (fun i hi he=>by have:=HG.out.1.new i hi;omega),kk,fun i hi=>by have:=HG.out.1.new i hi;omega⟩,⟨HG.out.2.row.kept k (fun i hi he=>by have:=HG.out.2.new i hi;omega),kk,fun i hi=>by have:=HG.out.2.new i hi;omega⟩⟩
 refine hF _ ?_
 repeat first
  |with_reducible refine Za.setO ?_ _ _
  |with_reducible exact Za.refl _ _
theorem Zj8 (w:World)(b k:Nat)(D:Ze)(nd:Zn)(h:Dev w b D)(hnd:D.nodes[k]?=some nd)(hw:nd.p.Walk):
 Calls Tryz.prog 53 #[.pointer (some ⟨b,0,none⟩),.int .i64 (k:Int)] w fun e w'=>∃ao cap,e=.returned (.tuple #[.slice ao nd.p.flight.length cap,.int .i64 0])∧Hid (ZG 62 2 Xh w w' (.slice ao nd.p.flight.length cap) (nd.p.flight.map Yz)):=by
 have hk:k<D.nodes.length:=(List.getElem?_eq_some_iff.mp hnd).1;obtain⟨g,cv,hv,ho,hgl⟩:=h.nodes.block (by omega);have HS:Hid (Calls Tryz.prog 106 #[.pointer (some ⟨b,0,none⟩),.int .i64 (k:Int)] w fun e w'=>e=.returned (.tuple #[.pointer (some ⟨g,k*8,none⟩),.int .i64 0])∧w=w'):=Zbl w b k g D h hk ho;have HL:Hid (Calls Tryz.prog 110 #[.pointer (some ⟨g,k*8+7,none⟩)] w fun e w'=>∃ao cap,e=.returned (.slice ao nd.p.flight.length cap)∧Hid (ZG 62 2 Xh w w' (.slice ao nd.p.flight.length cap) (nd.p.flight.map Yz))):=dlinks w b k g D nd h hnd ho hw.fl hw.fs;obtain⟨p,hp⟩:∃p,p=nd.p:=⟨_,rfl⟩;rw[←hp]at HL⊢;clear h hnd hw hk hv ho hp;go_enter Tryz.func53,Tryz.ntmps53
 go_wp2_with first
  |(go_at_call 106;refine HS.out.mono ?_;rintro e w1 ⟨rfl,rfl⟩)
  |(go_at_call 110;refine HL.out.mono ?_;rintro e w1 ⟨ao,cap,rfl,HG⟩)
 go_ret2;exact⟨ao,cap,rfl,HG.out⟩
theorem Zg6 (w:World)(b:Nat)(D:Ze)(k:Int)(h:Dev w b D)(hk:k<0∨(D.nodes.length:Int)≤k):
 Calls Tryz.prog 49 #[.pointer (some ⟨b,0,none⟩),.int .i64 k] w fun e w'=>e=.returned (.tuple #[.agg #[.bool false,.int .u64 0,.slice none 0 0,.slice none 0 0],.int .i64 9])∧Za (fun _=>False) w w':=by
 have HS:Hid (∀W,Za (fun _=>False) w W→Calls Tryz.prog 106 #[.pointer (some ⟨b,0,none⟩),.int .i64 k] W fun e w'=>e=.returned (.tuple #[.pointer none,.int .i64 9])∧W=w'):=fun W hW=>Xc W b D k (h.kept hW (fun _ _=>id)) hk;clear h hk;go_enter Tryz.func49,Tryz.ntmps49
 go_wp2_with (go_at_call 106;refine(HS.out _ (Za.alloc _ _ _)).mono ?_;rintro e w1 ⟨rfl,rfl⟩)
 refine bodyPost_ret (v:=.tuple #[.agg #[.bool false,.int .u64 0,.slice none 0 0,.slice none 0 0],.int .i64 9]) (by simp[results,Tryz.results49,go_sem]) rfl ⟨rfl,?_⟩;have hF:∀W',Za (fun k=>k=w.heap.size) (w.alloc (.cells #[.bool false,.int .u64 0,.slice none 0 0,.slice none 0 0] 102)) W'→Za (fun _=>False) w W':=fun W' k=>(Za.alloc w _ (fun _=>False)).trans k (fun _=>id) (fun i hi he=>by omega);refine hF _ ?_
 repeat first
  |with_reducible refine Za.setO ?_ _ _
  |with_reducible exact Za.refl _ _
theorem ZeS (w:World)(b:Nat)(D:Ze)(k:Int)(h:Dev w b D)(hk:k<0∨(D.nodes.length:Int)≤k):
 Calls Tryz.prog 53 #[.pointer (some ⟨b,0,none⟩),.int .i64 k] w fun e w'=>e=.returned (.tuple #[.slice none 0 0,.int .i64 9])∧w=w':=by
 have HS:Hid (Calls Tryz.prog 106 #[.pointer (some ⟨b,0,none⟩),.int .i64 k] w fun e w'=>e=.returned (.tuple #[.pointer none,.int .i64 9])∧w=w'):=Xc w b D k h hk;clear h hk;go_enter Tryz.func53,Tryz.ntmps53
 go_wp2_with (go_at_call 106;refine HS.out.mono ?_;rintro e w1 ⟨rfl,rfl⟩)
 go_ret2;exact⟨rfl,rfl⟩
end Go.Proofs.YtpfcacedpkaihaaGreat
