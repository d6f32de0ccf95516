import Derived.Test.YtpfcacedpkaihaaGreatC38
import Derived.Test.YtpfcacedpkaihaaGreatC31
import Derived.Test.YtpfcacedpkaihaaGreatC36
import Derived.Test.YtpfcacedpkaihaaGreatC35
namespace Go.Proofs.YtpfcacedpkaihaaGreat
open Go.RowKit
set_option maxRecDepth 100000
set_option maxHeartbeats 16000000
theorem Zgq (w:World)(up:Bool)(since hz t:Nat)(fl wt en nm:Value)(ht:t≤1000000):
 Calls Tryz.prog 146 #[.agg #[.bool up,.int .u64 (since:Int),.int .u64 (hz:Int),fl,wt,en,nm],.int .u64 (t:Int)] w fun e w'=>e=.returned (.bool (decide (since<t∧t≤hz∧hz<t+6)))∧Za (fun _=>False) w w':=by
 have hwr:IntKind.u64.wrap ((t:Int)+6)=(t:Int)+6:=by simp[IntKind.wrap,IntKind.bits,IntKind.signed];omega
 have HQ:Hid (∀x:Bool,(x=true↔since<t∧t≤hz∧hz<t+6)→(Ending.returned (.bool x))=.returned (.bool (decide (since<t∧t≤hz∧hz<t+6)))):=fun x hx=>by
  cases x with
  |true=>rw[decide_eq_true (hx.mp rfl)]
  |false=>rw[decide_eq_false (fun hh=>by cases hx.mpr hh)]
 go_enter Tryz.func146,Tryz.ntmps146;go_wp2
 all_goals
  go_ret;exact⟨HQ.out _ (by simp<;>omega),Za.alloc _ _ _⟩
structure Y6 (w W:World)(S:Nat)(A:Array Value)(K T:Int)(e:Zh):Prop where
 low:Za (fun _=>False) w W
 nb:Blk W w.heap.size 146 A
 eb:Blk W (w.heap.size+1) 55 (Z8 e)
 zb:Blk W (w.heap.size+1+1) 55 Zbk
 sb:Blk W S 70 #[.int .u8 K,.int .i64 T]
 far:w.heap.size+1+1<S
theorem Y6.same {w W W':World}{S:Nat}{A:Array Value}{K T:Int}{e:Zh}(h:Y6 w W S A K T e)(k:Za (fun _=>False) W W'):Y6 w W' S A K T e:=
 ⟨h.low.trans k (fun _=>id) (fun _ _=>id),h.nb.kept k id,h.eb.kept k id,h.zb.kept k id,h.sb.kept k id,h.far⟩
theorem Y6.set {w W:World}{S:Nat}{A:Array Value}{K T:Int}{e e':Zh}(h:Y6 w W S A K T e)(i:Nat)(v:Value)(he:(Z8 e).setIfInBounds i v=Z8 e'):Y6 w (W.setCell ⟨w.heap.size+1,i,none⟩ v) S A K T e':=by
 have k:=Za.setCell W ⟨w.heap.size+1,i,none⟩ v;have hf:=h.far;refine⟨h.low.setNew _ _ _ (by omega),h.nb.kept k (by simp),?_,h.zb.kept k (by simp),h.sb.kept k (by simp;omega),h.far⟩;rw[←he];exact h.eb.set i v
theorem kres {w W:World}{B:Nat}(h:Za (fun _=>False) w W)(hb:w.heap.size≤B)(a b c d e f:Value):Za (fun _=>False) w ((((((W.setCell ⟨B,0,none⟩ a).setCell ⟨B,1,none⟩ b).setCell ⟨B,2,none⟩ c).setCell ⟨B,3,none⟩ d).setCell ⟨B,4,none⟩ e).setCell ⟨B,5,none⟩ f):=
 (((((h.setNew _ _ _ hb).setNew _ _ _ hb).setNew _ _ _ hb).setNew _ _ _ hb).setNew _ _ _ hb).setNew _ _ _ hb
def Zfb (w:World)(l:List Zj)(since hz:Nat)(p:Zh)(e:Ending)(w':World):Prop:=
 Za (fun _=>False) w w'∧((∃y,Vz l since hz p=some y∧e=.returned (.tuple #[.agg (Z8 y),.bool true]))∨(Vz l since hz p=none∧∃y,e=.returned (.tuple #[.agg (Z8 y),.bool false])))
theorem rlate (w:World)(b:Nat)(R:Zd)(up:Bool)(since hz:Nat)(fl wt en nm:Value)(p:Zh)(h:Ref w b R)(hf:R.Fit)(hhz:hz<R.past.length)(hq:p.q.size≤maxLen):
 Calls Tryz.prog 102 #[.pointer (some ⟨b,0,none⟩),.agg #[.bool up,.int .u64 (since:Int),.int .u64 (hz:Int),fl,wt,en,nm],.agg (Z8 p)] w fun e w'=>Zfb w R.past since hz p e w':=by
 by_cases hs:p.op=false∨hz≤p.kn
 · refine(Zew w b up since hz fl wt en nm p hs).mono fun e w' hp=>⟨hp.2,.inl ⟨p,?_,hp.1⟩⟩;unfold Vz;rw[if_pos hs]
 · have ho:p.op=true:=by cases hh:p.op with
    |true=>rfl
    |false=>exact absurd (.inl hh) hs
   have hlt:p.kn<hz:=by have:=mt Or.inr hs;omega
   obtain⟨l,hl⟩:∃l,l=R.past:=⟨_,rfl⟩;obtain⟨K,hK⟩:∃K,K=Xk p.q:=⟨_,rfl⟩;have hpm:=hf.pmax;have HLE:Hid (∀r:Option Zh,XB l K since hz p.kn (hz-p.kn) p=r→Vz l since hz p=r.map fun y=>if y.op then {y with kn:=hz}else y):=fun r hr=>by
    unfold Vz;rw[if_neg hs,←hK,hr]
   have HT:Hid (∀W,Za (fun _=>False) w W→∀t:Nat,t<l.length→Calls Tryz.prog 141 #[.pointer (some ⟨b,0,none⟩),.int .u64 (t:Int),.int .u8 K] W fun e w'=>e=.returned (.bool (ZU l K t))∧W=w'):=by
    intro W hW t ht;rw[hl]at ht⊢;have hq:R.past[t]?=some R.past[t]:=List.getElem?_eq_getElem ht;rw[Xb K hq];exact Zci W b R t K _ (h.kept hW fun _ _=>id) hf hq
   have HPA:Hid (∀(W:World),Calls Tryz.prog 26 #[.string p.q] W fun e w'=>∃y er:Int,e=.returned (.tuple #[.agg #[.int .u8 K,.int .i64 y],.int .i64 er])∧Za (fun _=>False) W w'):=fun W=>(Zay p.q W hq).mono fun e w' hp=>⟨_,_,by rw[hK];exact hp.1,Za.of_below hp.2 _⟩;have HRE:Hid (∀(W:World)(t:Nat),t≤1000000→Calls Tryz.prog 146 #[.agg #[.bool up,.int .u64 (since:Int),.int .u64 (hz:Int),fl,wt,en,nm],.int .u64 (t:Int)] W fun e w'=>e=.returned (.bool (decide (since<t∧t≤hz∧hz<t+6)))∧Za (fun _=>False) W w'):=fun W t ht=>Zgq W up since hz t fl wt en nm ht;rw[←hl]at hhz⊢;obtain⟨pq,pv,pf,pt,po,pk⟩:=p;have ho':po=true:=ho;subst ho';have hlt':pk<hz:=hlt;have hl7:l.length≤1000:=by rw[hl];omega
   have hd:decide ((hz:Int)≤(pk:Int))=false:=by simp;omega
   show Calls Tryz.prog 102 #[.pointer (some ⟨b,0,none⟩),.agg #[.bool up,.int .u64 (since:Int),.int .u64 (hz:Int),fl,wt,en,nm],.agg #[.string pq,.int .i32 pv,.int .u64 (pf:Int),.int .u64 (pt:Int),.bool true,.int .u64 (pk:Int)]] w _;dsimp only at HLE HPA;obtain⟨A,hA⟩:∃A:Array Value,A=#[.bool up,.int .u64 (since:Int),.int .u64 (hz:Int),fl,wt,en,nm]:=⟨_,rfl⟩;have HLA:Hid (∀(w1:World)(T:Int),Za (fun _=>False) (((w.alloc (.cells #[.bool up,.int .u64 (since:Int),.int .u64 (hz:Int),fl,wt,en,nm] 146)).alloc (.cells #[.string pq,.int .i32 pv,.int .u64 (pf:Int),.int .u64 (pt:Int),.bool true,.int .u64 (pk:Int)] 55)).alloc (.cells Zbk 55)) w1→Y6 w (w1.alloc (.cells #[.int .u8 K,.int .i64 T] 70)) w1.heap.size A K T ⟨pq,pv,pf,pt,true,pk⟩):=by
    intro w1 T k;have k0:Za (fun _=>False) w w1:=(((Za.alloc w _ (fun _=>False)).allocNew _).allocNew _).trans k (fun _=>id) (fun _ _=>id);have hsz:=k.size;simp at hsz;refine⟨k0.allocNew _,?_,?_,?_,Blk.new _ _ _,by omega⟩
    · rw[hA];exact(((Blk.new w _ _).kept (((Za.alloc _ _ (fun _=>False)).allocNew _)) id).kept k id).kept (Za.alloc _ _ (fun _=>False)) id
    · have:=(((Blk.new (w.alloc (.cells #[.bool up,.int .u64 (since:Int),.int .u64 (hz:Int),fl,wt,en,nm] 146)) 55 #[.string pq,.int .i32 pv,.int .u64 (pf:Int),.int .u64 (pt:Int),.bool true,.int .u64 (pk:Int)]).kept (Za.alloc _ (.cells Zbk 55) (fun _=>False)) id).kept k id).kept (Za.alloc _ (.cells #[.int .u8 K,.int .i64 T] 70) (fun _=>False)) id;simpa[Z8]using this
    · have:=((Blk.new ((w.alloc (.cells #[.bool up,.int .u64 (since:Int),.int .u64 (hz:Int),fl,wt,en,nm] 146)).alloc (.cells #[.string pq,.int .i32 pv,.int .u64 (pf:Int),.int .u64 (pt:Int),.bool true,.int .u64 (pk:Int)] 55)) 55 Zbk).kept k id).kept (Za.alloc _ (.cells #[.int .u8 K,.int .i64 T] 70) (fun _=>False)) id;simpa using this
   have HF:Hid (∀W S T e,Y6 w W S A K T e→W.cell? ⟨w.heap.size,0,none⟩=some (.bool up)∧W.cell? ⟨w.heap.size,1,none⟩=some (.int .u64 (since:Int))∧W.cell? ⟨w.heap.size,2,none⟩=some (.int .u64 (hz:Int))∧W.cell? ⟨w.heap.size,3,none⟩=some fl∧W.cell? ⟨w.heap.size,4,none⟩=some wt∧W.cell? ⟨w.heap.size,5,none⟩=some en∧W.cell? ⟨w.heap.size,6,none⟩=some nm∧W.cell? ⟨S,0,none⟩=some (.int .u8 K)):=by
    intro W S T e hL;have hn:=hL.nb;rw[hA]at hn;exact⟨hn.cell 0,hn.cell 1,hn.cell 2,hn.cell 3,hn.cell 4,hn.cell 5,hn.cell 6,hL.sb.cell 0⟩
   have HG:Hid (∀W S T (e:Zh),Y6 w W S A K T e→W.cell? ⟨w.heap.size+1,0,none⟩=some (.string e.q)∧W.cell? ⟨w.heap.size+1,1,none⟩=some (.int .i32 e.val)∧W.cell? ⟨w.heap.size+1,2,none⟩=some (.int .u64 (e.fr:Int))∧W.cell? ⟨w.heap.size+1,3,none⟩=some (.int .u64 (e.till:Int))∧W.cell? ⟨w.heap.size+1,4,none⟩=some (.bool e.op)∧W.cell? ⟨w.heap.size+1,5,none⟩=some (.int .u64 (e.kn:Int))∧(∀i,W.frozen? ⟨w.heap.size+1,i,none⟩=false)∧(∀i,W.frozen? ⟨w.heap.size+1+1,i,none⟩=false)∧W.cell? ⟨w.heap.size+1+1,0,none⟩=some (.string ⟨#[]⟩)∧W.cell? ⟨w.heap.size+1+1,1,none⟩=some (.int .i32 0)∧W.cell? ⟨w.heap.size+1+1,2,none⟩=some (.int .u64 0)∧W.cell? ⟨w.heap.size+1+1,3,none⟩=some (.int .u64 0)∧W.cell? ⟨w.heap.size+1+1,4,none⟩=some (.bool false)∧W.cell? ⟨w.heap.size+1+1,5,none⟩=some (.int .u64 0)):=by
    intro W S T e hL;have hn:=hL.eb;have hz:=hL.zb;exact⟨hn.cell 0,hn.cell 1,hn.cell 2,hn.cell 3,hn.cell 4,hn.cell 5,hn.free,hz.free,hz.cell 0,hz.cell 1,hz.cell 2,hz.cell 3,hz.cell 4,hz.cell 5⟩
   clear h hf hs hq hK ho hl hlt hA;go_enter Tryz.func102,Tryz.ntmps102
   go_wp2_with (go_at_call 26;refine(HPA.out _).mono ?_;rintro e w1 ⟨T,er,rfl,hk1⟩;have HL0:=HLA.out w1 T hk1;have HL1:Hid (Y6 w (w1.alloc (.cells #[.int .u8 K,.int .i64 T] 70)) w1.heap.size A K T ⟨pq,pv,pf,pt,true,pk⟩):=HL0;have n2:(w1.alloc (.cells #[.int .u8 K,.int .i64 T] 70)).cell? ⟨w.heap.size,2,none⟩=some (.int .u64 (hz:Int)):=(HF.out _ _ _ _ HL0).2.2.1;clear hk1 HL0)
   clear n2;generalize w1.alloc (.cells #[.int .u8 K,.int .i64 T] 70)=W0 at HL1⊢;generalize w1.heap.size=S at HL1⊢;have HST:Hid (∀W (e:Zh),Y6 w W S A K T e→S≠w.heap.size+1∧w.heap.size+1≠S):=fun W e hL=>by have:=hL.far;omega
   go_loopw [10] (fun tv wr=>∃(m:Nat)(e:Zh),m≤hz-pk∧tv=.int .u64 ((pk+m:Nat):Int)∧Hid (Y6 w wr S A K T e∧e.kn=pk∧XB l K since hz pk (hz-pk) ⟨pq,pv,pf,pt,true,pk⟩=XB l K since hz pk m e)) (fun tv _=>(intOf tv).toNat)
   case atStart=>exact⟨hz-pk,_,Nat.le_refl _,by rw[show pk+(hz-pk)=hz by omega],HL1.out,rfl,rfl⟩
   case round=>
    obtain⟨m,⟨q',v',f',t',o',k'⟩,hm,rfl,HI⟩:=hrel;obtain rfl:k'=pk:=HI.out.2.1;obtain⟨n0,n1,n2,n3,n4,n5,n6,s0⟩:=HF.out wr S T _ HI.out.1;obtain⟨e0,e1,e2,e3,e4,e5,ef,zf,z0,z1,z2,z3,z4,z5⟩:=HG.out wr S T _ HI.out.1;dsimp only at e0 e1 e2 e3 e4 e5
    match m,hm,HI with
    |0,hm,HI=>
     have hd1:decide ((k':Int)<((k'+0:Nat):Int))=false:=by simp
     have HE:Hid (Vz l since hz ⟨pq,pv,pf,pt,true,k'⟩=some (if o' then⟨q',v',f',t',o',hz⟩else⟨q',v',f',t',o',k'⟩)):=HLE.out (some _) HI.out.2.2;have HK:Hid (Za (fun _=>False) w wr):=HI.out.1.low;cases o' with
     |true=>
      go_wp2;exact bodyPost_ret (v:=.tuple #[.agg (Z8 ⟨q',v',f',t',true,hz⟩),.bool true]) (by simp[results,Tryz.results102,go_sem,Z8,z0,z1,z2,z3,z4,z5]) rfl ⟨kres (HK.out.setNew _ _ _ (by omega)) (by omega) _ _ _ _ _ _,.inl ⟨_,HE.out,rfl⟩⟩
     |false=>
      go_wp2;exact bodyPost_ret (v:=.tuple #[.agg (Z8 ⟨q',v',f',t',false,k'⟩),.bool true]) (by simp[results,Tryz.results102,go_sem,Z8,z0,z1,z2,z3,z4,z5]) rfl ⟨kres HK.out (by omega) _ _ _ _ _ _,.inl ⟨_,HE.out,rfl⟩⟩
    |m+1,hm,HI=>
     have hd1:decide ((k':Int)<((k'+(m+1):Nat):Int))=true:=by simp;omega
     by_cases hr:since<k'+(m+1)∧hz<k'+(m+1)+6
     · have HR1:Hid (∀W:World,Calls Tryz.prog 146 #[.agg #[.bool up,.int .u64 (since:Int),.int .u64 (hz:Int),fl,wt,en,nm],.int .u64 ((k'+(m+1):Nat):Int)] W fun e w'=>e=.returned (.bool true)∧Za (fun _=>False) W w'):=fun W=>by
        have:=HRE.out W (k'+(m+1)) (by omega);rw[decide_eq_true (show since<k'+(m+1)∧k'+(m+1)≤hz∧hz<k'+(m+1)+6 from⟨hr.1,by omega,hr.2⟩)]at this;exact this
       have HGO:Hid (XB l K since hz k' (hz-k') ⟨pq,pv,pf,pt,true,k'⟩=XB l K since hz k' m (if ZU l K (k'+(m+1))then⟨q',v',f',k'+(m+1),false,k'⟩else⟨q',v',f',t',o',k'⟩)):=by
        show _=_;rw[HI.out.2.2,XB,if_pos (show since<k'+m+1∧hz<k'+m+1+6 from hr)];rfl
       have HT1:Hid (∀W,Za (fun _=>False) w W→Calls Tryz.prog 141 #[.pointer (some ⟨b,0,none⟩),.int .u64 ((k'+(m+1):Nat):Int),.int .u8 K] W fun e w'=>e=.returned (.bool (ZU l K (k'+(m+1))))∧W=w'):=fun W hW=>HT.out W hW (k'+(m+1)) (by omega);cases hy:ZU l K (k'+(m+1))with
       |true=>
        rw[hy]at HT1 HGO;clear hy hr
        go_wp2_with first
         |(go_at_call 146;refine(HR1.out _).mono ?_;rintro e w2 ⟨rfl,hk2⟩;have HL2:Hid (Y6 w w2 S A K T ⟨q',v',f',t',o',k'⟩):=HI.out.1.same hk2;clear hk2 n0 n1 n2 n3 n4 n5 n6 s0 e0 e1 e2 e3 e4 e5 ef zf z0 z1 z2 z3 z4 z5;obtain⟨_,_,_,_,_,_,_,s0⟩:=HF.out w2 S T _ HL2.out;obtain⟨e0,e1,e2,e3,e4,e5,ef,_⟩:=HG.out w2 S T _ HL2.out)
         |(go_at_call 141;refine(HT1.out _ HL2.out.low).mono ?_;rintro e w3 ⟨rfl,rfl⟩)
        go_roundw
        case rel=>exact⟨m,⟨q',v',f',k'+(m+1),false,k'⟩,by omega,by go_num,(HL2.out.set (e':=⟨q',v',f',t',false,k'⟩) 4 _ rfl).set 3 _ rfl,rfl,HGO.out⟩
        case measure=>simp[intOf];omega
       |false=>
        rw[hy]at HT1 HGO;clear hy hr
        go_wp2_with first
         |(go_at_call 146;refine(HR1.out _).mono ?_;rintro e w2 ⟨rfl,hk2⟩;have HL2:Hid (Y6 w w2 S A K T ⟨q',v',f',t',o',k'⟩):=HI.out.1.same hk2;clear hk2 n0 n1 n2 n3 n4 n5 n6 s0 e0 e1 e2 e3 e4 e5 ef zf z0 z1 z2 z3 z4 z5;obtain⟨_,_,_,_,_,_,_,s0⟩:=HF.out w2 S T _ HL2.out)
         |(go_at_call 141;refine(HT1.out _ HL2.out.low).mono ?_;rintro e w3 ⟨rfl,rfl⟩)
        go_roundw
        case rel=>exact⟨m,⟨q',v',f',t',o',k'⟩,by omega,by go_num,HL2.out,rfl,HGO.out⟩
        case measure=>simp[intOf];omega
     · have HR1:Hid (∀W:World,Calls Tryz.prog 146 #[.agg #[.bool up,.int .u64 (since:Int),.int .u64 (hz:Int),fl,wt,en,nm],.int .u64 ((k'+(m+1):Nat):Int)] W fun e w'=>e=.returned (.bool false)∧Za (fun _=>False) W w'):=fun W=>by
        have:=HRE.out W (k'+(m+1)) (by omega);rw[decide_eq_false (show¬(since<k'+(m+1)∧k'+(m+1)≤hz∧hz<k'+(m+1)+6)from fun hh=>hr ⟨hh.1,hh.2.2⟩)]at this;exact this
       have HE:Hid (Vz l since hz ⟨pq,pv,pf,pt,true,k'⟩=none):=HLE.out none (by rw[HI.out.2.2,XB,if_neg (show¬(since<k'+m+1∧hz<k'+m+1+6)from hr)]);clear hr
       go_wp2_with (go_at_call 146;refine(HR1.out _).mono ?_;rintro e w2 ⟨rfl,hk2⟩;have HL2:Hid (Y6 w w2 S A K T ⟨q',v',f',t',o',k'⟩):=HI.out.1.same hk2;clear hk2 n0 n1 n2 n3 n4 n5 n6 s0 e0 e1 e2 e3 e4 e5 ef zf z0 z1 z2 z3 z4 z5;obtain⟨e0,e1,e2,e3,e4,e5,ef,zf,z0,z1,z2,z3,z4,z5⟩:=HG.out w2 S T _ HL2.out)
       exact bodyPost_ret (v:=.tuple #[.agg (Z8 ⟨q',v',f',t',o',k'⟩),.bool false]) (by simp[results,Tryz.results102,go_sem,Z8,z0,z1,z2,z3,z4,z5]) rfl ⟨kres HL2.out.low (by omega) _ _ _ _ _ _,.inr ⟨HE.out,_,rfl⟩⟩
def Zax (x:Int×Int):List Value:=[.int .u8 x.1,.int .u8 x.2]
def VT (l:List Zj)(t:Nat):Int×Int:=((t:Int)%256,(l[t]?.map Zj.keys).getD 0)
theorem Tryz.infoMsgD :(Tryz.prog.info? 62).map (fun i=>(i.zero,i.size,i.bytes))=some (some (.agg #[.int .u8 0,.int .u8 0]),2,2):=by kernel_rfl
theorem ZdU (x:Int×Int):∀u∈Zax x,u.oneCell'=true:=by
 intro u hu;simp[Zax]at hu;rcases hu with rfl|rfl<;>rfl
theorem ZhS (w:World)(x:Int×Int)(t:TypeId):∀j u,(Zax x)[j]?=some u→(w.alloc (.cells #[.int .u8 x.1,.int .u8 x.2] t)).cell? ((⟨w.heap.size,0,none⟩:Addr).add j)=some u:=by
 intro j u hj;have e':(⟨w.heap.size,0,none⟩:Addr).add j=⟨w.heap.size,j,none⟩:=by cases j<;>simp[Addr.add]
 rw[e',World.cell?_alloc_at _ _ _ _ rfl];simpa[Zax]using hj
def Zbv (w:World)(R:Zd)(k:Int)(e:Ending)(w':World):Prop:=
 ((k<0∨(R.nodes.length:Int)≤k)∧e=.returned (.tuple #[.slice none 0 0,.int .i64 9])∧w=w')∨
 (∃(j:Nat)(nd:Zi)(ao:Option Addr)(cap:Nat),k=(j:Int)∧R.nodes[j]?=some nd∧e=.returned (.tuple #[.slice ao nd.fls.length cap,.int .i64 0])∧ZG 62 2 Zax w w' (.slice ao nd.fls.length cap) (nd.fls.map (VT R.past)))
theorem Zkm (w:World)(b:Nat)(R:Zd)(k:Int)(h:Ref w b R)(hm:R.nodes.length≤3)(hl:∀nd∈R.nodes,nd.fls.length≤1000∧∀t∈nd.fls,t<R.past.length)(hp:R.past.length≤1000):
 Calls Tryz.prog 54 #[.pointer (some ⟨b,0,none⟩),.int .i64 k] w fun e w'=>Zbv w R k e w':=by
 have hno:=VX w b R k h;by_cases h0:k<0∨(R.nodes.length:Int)≤k
 · rw[decide_eq_true h0]at hno;have H0:=hid hno;have HQ:=hid h0;clear h hno h0 hl;go_enter Tryz.func54,Tryz.ntmps54
   go_wp2_with (go_at_call 108;refine H0.out.mono ?_;rintro e w' ⟨rfl,rfl⟩)
   go_ret2;exact .inl ⟨HQ.out,rfl,rfl⟩
 · rw[decide_eq_false h0]at hno;obtain⟨j,rfl⟩:∃j:Nat,k=j:=⟨k.toNat,by omega⟩;have hjl:j<R.nodes.length:=by omega
   obtain⟨nd,hnd⟩:∃nd,R.nodes[j]?=some nd:=⟨_,List.getElem?_eq_getElem hjl⟩;have hnd':=(List.getElem?_eq_some_iff.mp hnd).2;have hmem:=List.mem_of_getElem? hnd;obtain⟨g,cap,hv,ho,hgl⟩:=h.nodes.block (by omega);have c3:=h.c3;rw[hv]at c3;obtain⟨af,cf,hvf,_⟩:=(h.fls nd hmem).form;have a3:=h.nodes.cell ho (j*7+3) _ (by rw[Zy R.nodes j hjl 3 (by omega)];rfl);rw[hnd',hvf]at a3;obtain⟨l,hll⟩:∃x,x=nd.fls:=⟨_,rfl⟩;have H0:=hid hno;have HC:Hid (∀W,Za (fun _=>False) w W→W.cell? ⟨b,3,none⟩=some (.slice (some ⟨g,0,none⟩) R.nodes.length cap)∧W.cell? ⟨g,j*7+3,none⟩=some (.slice af l.length cf)):=fun W hW=>⟨hW.hold c3,by rw[hll];exact hW.hold a3⟩;obtain⟨hln,hlt⟩:=hl nd hmem;have HP:Hid (∀i (hi:i<l.length),∃gw gp cp,af=some ⟨gw,0,none⟩∧R.vp=.slice (some ⟨gp,0,none⟩) R.past.length cp∧l[i]<R.past.length∧∀W,Za (fun _=>False) w W→W.cell? ⟨gw,i,none⟩=some (.int .u64 (l[i]:Int))∧W.cell? ⟨b,0,none⟩=some (.slice (some ⟨gp,0,none⟩) R.past.length cp)∧W.cell? ⟨gp,l[i]*10+8,none⟩=some (.int .u8 (VT R.past l[i]).2)):=by
    intro i hi;have hti:l[i]<R.past.length:=hlt _ (by rw[←hll];exact List.getElem_mem hi);have hr:=h.fls nd hmem;rw[←hll,hvf,←hll]at hr;obtain⟨gw,c',e1,e2,_⟩:=hr.block (by omega);injection e1 with e1 _ _;obtain⟨gp,cp,hvp,hop,_⟩:=h.past.block (by omega);refine⟨gw,gp,cp,e1,hvp,hti,fun W hW=>⟨(hr.kept hW (fun _ _=>id)).cell e2 i _ (Zaj hi),?_,?_⟩⟩
    · rw[←hvp];exact hW.hold h.c0
    · refine(h.past.kept hW (fun _ _=>id)).cell hop _ _ ?_;rw[ZO Zx 10 (fun _=>rfl) R.past l[i] hti 8 (by omega)];show some _=_;unfold VT;rw[List.getElem?_eq_getElem hti];rfl
   obtain⟨i0,hi,hz0,hz1,hz2⟩:=info_parts Tryz.infoMsgD;have HI:Hid (Tryz.prog.info? 62=some i0∧i0.zero=some (.agg #[.int .u8 0,.int .u8 0])∧i0.size=2∧i0.bytes=2):=⟨hi,hz0,hz1,hz2⟩;have HND:Hid (R.nodes[j]?=some nd∧l=nd.fls):=⟨hnd,hll⟩;have hj0:(0:Int)≤(j:Int):=by omega
   have hj1:(j:Int)<(R.nodes.length:Int):=by omega
   rw[←hll]at hln;clear h hno h0 hl hnd hnd' hmem hv ho hvf hlt hi hz0 hz1 hz2 c3 a3 hll;go_enter Tryz.func54,Tryz.ntmps54
   go_wp2_with (go_at_call 108;refine H0.out.mono ?_;rintro e w' ⟨rfl,rfl⟩)
   go_loopw [7,8] (fun v iv wr=>∃i:Nat,i≤l.length∧iv=.int .i64 i∧Hid (ZG 62 2 Zax w wr v ((l.take i).map (VT R.past)))) (fun _ iv _=>l.length-(intOf iv).toNat)
   case atStart=>exact⟨0,Nat.zero_le _,rfl,ZG.start _ _ _ _⟩
   case round=>
    obtain⟨i,hi,rfl,HG⟩:=hrel;obtain⟨av,cv,hvv,_⟩:=HG.out.row.form;have hfl:((l.take i).map (VT R.past)).length=i:=by rw[List.length_map,List.length_take];omega
    rw[hfl]at hvv;subst hvv;obtain⟨c3,a3⟩:=HC.out wr HG.out.kept;by_cases hlt:i<l.length
    · obtain⟨gw,gp,cp,haf,_,hti,hcell⟩:=HP.out i hlt;obtain⟨p0,q0,q8⟩:=hcell wr HG.out.kept;have HX:Hid ((l.take (i+1)).map (VT R.past)=(l.take i).map (VT R.past)++[VT R.past l[i]]):=by show _=_;rw[List.take_succ_eq_append_getElem hlt,List.map_append];rfl
      obtain⟨x,hx⟩:∃x,x=l[i]:=⟨_,rfl⟩;rw[←hx]at p0 q8 HX hti;obtain⟨ks,hks⟩:∃y,y=(VT R.past x).2:=⟨_,rfl⟩;have HMS:Hid (VT R.past x=((x:Int)%256,ks)):=by show _=_;rw[hks];rfl
      rw[←hks]at q8;rw[HMS.out]at HX;have hi0:(0:Int)≤(i:Int):=by omega
      have hi1:(i:Int)<(l.length:Int):=by omega
      have hx0:(0:Int)≤(x:Int):=by omega
      have hx1:(x:Int)<(R.past.length:Int):=by omega
      have HROW:Hid (∀o,Row (wr.alloc o) 62 2 (.slice av i cv) i (((l.take i).map (VT R.past)).flatMap Zax)):=fun o=>by have:=HG.out.row.kept (Za.alloc wr o (fun _=>False)) (fun _ _=>id);rw[hfl]at this;exact this
      have HNX:Hid (∀(o:Obj)(w':World)(v':Value),Zc (wr.alloc o) w' 62 2 (.slice av i cv) v' i 1 (((l.take i).map (VT R.past)).flatMap Zax) (Zax ((x:Int)%256,ks))→ZG 62 2 Zax w w' v' ((l.take i).map (VT R.past)++[((x:Int)%256,ks)])):=by
       intro o w' v' hA;have hA':Zc (wr.alloc o) w' 62 2 (.slice av i cv) v' ((l.take i).map (VT R.past)).length 1 (((l.take i).map (VT R.past)).flatMap Zax) (Zax ((x:Int)%256,ks)):=by rw[hfl];exact hA
       exact(HG.out.more (Za.alloc wr o (fun _=>False))).next hA'
      have b1:i+1≤maxLen:=by unfold maxLen;omega
      have b2:(i+1)*2≤140737488355328:=by omega
      clear hx hks hfl hcell;subst haf
      go_wp2_with (at_builtin;go_must (refine Zf _ rfl (.tmp 38) (.tmp 51) 60 rfl 62 i0 (.agg #[.int .u8 0,.int .u8 0]) 2 2 Tryz.underlying60 HI.out.1 HI.out.2.1 HI.out.2.2.1 HI.out.2.2.2 rfl (by decide) (.slice av i cv) i _ rfl (HROW.out _) ⟨wr.heap.size,0,none⟩ 1 1 (Zax ((x:Int)%256,ks)) rfl rfl (fun j u hj=>ZhS wr ((x:Int)%256,ks) _ j u hj) (ZdU _) b1 b2 ?_);intro v' w1 hA;have HA:Hid (ZG 62 2 Zax w w1 v' ((l.take i).map (VT R.past)++[((x:Int)%256,ks)])):=HNX.out _ _ _ hA;clear hA)
      go_roundw
      case rel=>exact⟨i+1,by omega,by go_num,by rw[HX.out];exact HA.out⟩
      case measure=>simp[intOf];omega
    · have hie:i=l.length:=by omega
      subst hie;have HG2:Hid (ZG 62 2 Zax w wr (.slice av l.length cv) (l.map (VT R.past))):=by have:=HG.out;rw[List.take_length]at this;exact this
      clear hfl;go_wp2;go_ret2;refine .inr ⟨j,nd,av,cv,rfl,HND.out.1,?_,?_⟩
      · rw[←HND.out.2];rfl
      · rw[←HND.out.2];exact HG2.out
theorem ZgZ (t:Nat)(h:t≤1000000):ZbX t=(t:Int)%256:=by
 have e:bits .and .u64 (t:Int) 255=IntKind.u64.wrap (((BitVec.ofInt 64 (t:Int)) &&& BitVec.ofInt 64 255).toNat:Int):=rfl;have e2:((BitVec.ofInt 64 (t:Int)) &&& BitVec.ofInt 64 255).toNat=t%256:=by
  rw[BitVec.toNat_and,BitVec.ofInt_natCast,BitVec.toNat_ofNat,Nat.mod_eq_of_lt (by omega)];show t &&& 255=t%256;exact Nat.and_two_pow_sub_one_eq_mod t 8
 unfold ZbX;rw[e,e2];simp[IntKind.wrap,IntKind.bits,IntKind.signed]
def Yf (wts:List Nat)(a n:Nat):List Int:=(List.range' a n).flatMap fun t=>(wts.filter fun x=>decide (x=t)).map fun _=>(t:Int)%256
theorem Zb9 (wts:List Nat)(a n m:Nat)(h:∀x∈wts,¬(a+n≤x∧x<a+n+m)):Yf wts a (n+m)=Yf wts a n:=by
 unfold Yf;rw[←List.range'_append_1,List.flatMap_append];have:(List.range' (a+n) m).flatMap (fun t=>(wts.filter fun x=>decide (x=t)).map fun _=>(t:Int)%256)=[]:=by
  rw[List.flatMap_eq_nil_iff];intro t ht;rw[List.mem_range'_1]at ht;rw[List.map_eq_nil_iff,List.filter_eq_nil_iff];intro x hx he;have:x=t:=by simpa using he
  subst this;exact h x hx ht
 rw[this,List.append_nil]
theorem Zcl {l:List Nat}(hn:l.Nodup)(t:Nat):l.filter (fun x=>decide (x=t))=if t∈l then[t]else[]:=by
 induction l with
 |nil=>rfl
 |cons x r ih=>
  rw[List.nodup_cons]at hn;rw[List.filter_cons,ih hn.2];by_cases e:x=t
  · subst e;simp[hn.1]
  · have e':¬t=x:=fun h=>e h.symm;simp[e,e']
theorem Vh (wts:List Nat)(a n:Nat):Yf wts a (n+1)=Yf wts a n++(wts.filter fun x=>decide (x=a+n)).map fun _=>((a+n:Nat):Int)%256:=by
 unfold Yf;rw[←List.range'_append_1,List.flatMap_append];simp
theorem Zc9 (l:List (Nat×Int))(t:Nat):ZB l t=true↔t∈l.map (·.1):=by
 unfold ZB;rw[List.any_eq_true,List.mem_map];simp
theorem ZhN {s:Zb}{top:Nat}(ht:s.horizon≤top)(hm:top≤700)(hs:∀c∈s.waits,s.horizon+1<c.1∧c.1≤s.horizon+5∧c.1≤top)(hn:(s.waits.map (·.1)).Nodup):
 Yf (s.waits.map (·.1)) (s.horizon+1) (top-s.horizon)=Z4 s 4:=by
 have hW:∀x∈s.waits.map (·.1),s.horizon+1<x∧x≤s.horizon+5∧x≤top:=by
  intro x hx;obtain⟨c,hc,rfl⟩:=List.mem_map.mp hx;exact hs c hc
 have key:∀i,i≤4→Yf (s.waits.map (·.1)) (s.horizon+1) (i+1)=Z4 s i:=by
  intro i
  induction i with
  |zero=>
   intro _;rw[Vh,Zcl hn,if_neg (fun hx=>by have:=hW _ hx;omega)];rfl
  |succ i ih=>
   intro hi;rw[Vh,ih (by omega),Zcl hn,show s.horizon+1+(i+1)=s.horizon+2+i by omega];cases hb:ZB s.waits (s.horizon+2+i)with
   |true=>
    rw[if_pos ((Zc9 _ _).mp hb),Zdk hb,ZgZ _ (by omega)];rfl
   |false=>
    rw[if_neg (fun hx=>by rw[(Zc9 _ _).mpr hx]at hb;cases hb),Zfa hb];simp
 rw[←key 4 (by omega)];by_cases h5:top-s.horizon≤5
 · have:=Zb9 (s.waits.map (·.1)) (s.horizon+1) (top-s.horizon) (5-(top-s.horizon)) (fun x hx hh=>by have:=hW x hx;omega);rw[show top-s.horizon+(5-(top-s.horizon))=4+1 by omega]at this;exact this.symm
 · have:=Zb9 (s.waits.map (·.1)) (s.horizon+1) 5 (top-s.horizon-5) (fun x hx hh=>by have:=hW x hx;omega);rw[show 5+(top-s.horizon-5)=top-s.horizon by omega]at this;exact this
def VF (w:World)(R:Zd)(k:Int)(e:Ending)(w':World):Prop:=
 ((k<0∨(R.nodes.length:Int)≤k)∧e=.returned (.tuple #[.agg #[.bool false,.int .u64 0,.slice none 0 0,.slice none 0 0],.int .i64 9])∧Za (fun _=>False) w w')∨
 (∃(j:Nat)(nd:Zi)(wa ea:Option Addr)(wc ec:Nat),k=(j:Int)∧R.nodes[j]?=some nd∧e=.returned (.tuple #[.agg #[.bool nd.up,.int .u64 (nd.horizon:Int),.slice wa (Yf nd.wts (nd.horizon+1) (R.past.length-1-nd.horizon)).length wc,.slice ea nd.ents.length ec],.int .i64 0])∧
  ZG 5 1 u8C w w' (.slice wa (Yf nd.wts (nd.horizon+1) (R.past.length-1-nd.horizon)).length wc) (Yf nd.wts (nd.horizon+1) (R.past.length-1-nd.horizon))∧ZG 55 6 Zk w w' (.slice ea nd.ents.length ec) nd.ents)
def Zie (w w':World)(wa ea:Option Addr)(wc ec:Nat)(ns:List Int)(es:List Zh):Prop:=ZG 5 1 u8C w w' (.slice wa ns.length wc) ns∧ZG 55 6 Zk w w' (.slice ea es.length ec) es
def ZgD (up:Bool)(hz:Nat)(ns:List Int)(es:List Zh)(r:Int)(w:World)(e:Ending)(w':World):Prop:=∃wa wc ea ec,e=.returned (.tuple #[.agg #[.bool up,.int .u64 (hz:Int),.slice wa ns.length wc,.slice ea es.length ec],.int .i64 r])∧Hid (Zie w w' wa ea wc ec ns es)
theorem Zc4 {w w':World}(k:Za (fun _=>False) w w'):Zie w w' none none 0 0 [] []:=⟨(ZG.start _ _ _ w).more k,(ZG.start _ _ _ w).more k⟩
theorem Zib {w:World}{xb cb:Nat}{D:Ze}{R:Zd}(h:ZP w xb cb D R)(hnn:R.uses.length<9223372036854775807)(k:Int)
 (hdoc:∀w2,Ref w2 cb R→Calls Tryz.prog 50 #[.pointer (some ⟨cb,0,none⟩),.int .i64 k] w2 fun e w3=>VF w2 R k e w3):
 ∃(up:Bool)(hz:Nat)(ns:List Int)(es:List Zh)(r:Int),ns.length≤1000∧es.length≤1000∧
  (Calls Tryz.prog 49 #[.pointer (some ⟨xb,0,none⟩),.int .i64 k] w fun e w1=>ZgD up hz ns es r w e w1)∧
  ∀w2,Ref w2 cb R→Calls Tryz.prog 50 #[.pointer (some ⟨cb,0,none⟩),.int .i64 k] w2 fun e w3=>ZgD up hz ns es r w2 e w3:=by
 have hlen:D.nodes.length=R.nodes.length:=by rw[h.sim.len];show _=(D.nodes.map _).length;rw[List.length_map]
 by_cases hk:k<0∨(R.nodes.length:Int)≤k
 · refine⟨false,0,[],[],9,by simp,by simp,(Zg6 w xb D k h.dev (by omega)).mono fun e w1 hp=>⟨none,0,none,0,hp.1,Zc4 hp.2⟩,fun w2 h2=>(hdoc w2 h2).mono fun e w3 hq=> ?_⟩;rcases hq with⟨_,e2,k2⟩|⟨j,nd,_,_,_,_,rfl,hnd,_⟩
   · exact⟨none,0,none,0,e2,Zc4 k2⟩
   · have:=(List.getElem?_eq_some_iff.mp hnd).1;omega
 · obtain⟨j,rfl⟩:∃j:Nat,k=j:=⟨k.toNat,by omega⟩;have hjl:j<R.nodes.length:=by omega
   have hjd:j<D.nodes.length:=by omega
   obtain⟨dn,hdn⟩:∃dn,D.nodes[j]?=some dn:=⟨_,List.getElem?_eq_getElem hjd⟩;obtain⟨nd,hnd⟩:∃nd,R.nodes[j]?=some nd:=⟨_,List.getElem?_eq_getElem hjl⟩;have hs:D.pu.sites[j]?=some dn.p:=by show(D.nodes.map _)[j]?=_;rw[List.getElem?_map,hdn];rfl
   have hn:=h.sim.node j dn.p nd hs hnd;have hg:=h.good.sites dn.p (List.mem_of_getElem? hs);have hpm:=h.good.pmax;have hpl:=h.sim.plen;have hw:dn.p.Walk:=hg.walk hpm hnn;have e1:nd.horizon=dn.p.horizon:=hn.hz;have e2:nd.up=dn.p.up:=hn.up;have e3:nd.ents=dn.p.ents.map (·.e):=hn.ents;have e4:Yf nd.wts (nd.horizon+1) (R.past.length-1-nd.horizon)=Z4 dn.p 4:=by
    have e5:nd.wts=dn.p.waits.map (·.1):=hn.wts;have e6:R.past.length-1=D.pu.past.length:=by omega
    rw[e5,e1,e6];exact ZhN hg.hz hpm hg.ws hg.wn
   have hwl:=Zdj dn.p 4;have hel:=hw.el;refine⟨dn.p.up,dn.p.horizon,Z4 dn.p 4,dn.p.ents.map (·.e),0,by omega,by rw[List.length_map];omega,(dlook w xb j D dn h.dev hdn hw).mono fun e w1 hp=> ?_,fun w2 h2=>(hdoc w2 h2).mono fun e w3 hq=> ?_⟩
   · obtain⟨wa,wc,ea,ec,e7,HL⟩:=hp;refine⟨wa,wc,ea,ec,by rw[e7,List.length_map],?_⟩;have hh:=HL.out;have el:dn.p.ents.length=(dn.p.ents.map (·.e)).length:=(List.length_map _).symm;unfold ZfA at hh;rw[el]at hh;exact hh
   · rcases hq with⟨hb,_⟩|⟨j',nd',wa,ea,wc,ec,hj',hnd',e7,g1,g2⟩
     · omega
     · obtain rfl:j=j':=by omega
       rw[hnd]at hnd';injection hnd' with hnd';subst hnd';rw[e4]at e7 g1;rw[e3]at e7 g2;rw[e1,e2]at e7;exact⟨wa,wc,ea,ec,e7,g1,g2⟩
def Zc7 (l:List (Int×Int))(r:Int)(w:World)(e:Ending)(w':World):Prop:=∃ao cap,e=.returned (.tuple #[.slice ao l.length cap,.int .i64 r])∧Hid (ZG 62 2 Xh w w' (.slice ao l.length cap) l)
theorem ZeI {w:World}{xb cb:Nat}{D:Ze}{R:Zd}(h:ZP w xb cb D R)(hnn:R.uses.length<9223372036854775807)(k:Int):
 ∃(l:List (Int×Int))(r:Int),l.length≤1000∧
  (Calls Tryz.prog 53 #[.pointer (some ⟨xb,0,none⟩),.int .i64 k] w fun e w1=>Zc7 l r w e w1)∧
  ∀w2,Ref w2 cb R→Calls Tryz.prog 54 #[.pointer (some ⟨cb,0,none⟩),.int .i64 k] w2 fun e w3=>Zc7 l r w2 e w3:=by
 have hlen:D.nodes.length=R.nodes.length:=by rw[h.sim.len];show _=(D.nodes.map _).length;rw[List.length_map]
 have hpm:=h.good.pmax;have hpl:=h.sim.plen;have hdoc:∀w2,Ref w2 cb R→Calls Tryz.prog 54 #[.pointer (some ⟨cb,0,none⟩),.int .i64 k] w2 fun e w3=>Zbv w2 R k e w3:=fun w2 h2=>by
  refine Zkm w2 cb R k h2 h.rfit.nmax (fun nd hnd=> ?_) (by omega);obtain⟨j,hj⟩:=List.getElem?_of_mem hnd;have hjl:=(List.getElem?_eq_some_iff.mp hj).1;have hs:D.pu.sites[j]?=some (D.nodes[j]'(by omega)).p:=by show(D.nodes.map _)[j]?=_;rw[List.getElem?_map,List.getElem?_eq_getElem (by omega)];rfl
  have hn:=h.sim.node j _ nd hs hj;have hg:=h.good.sites _ (List.mem_of_getElem? hs);have e1:nd.fls=((D.nodes[j]'(by omega)).p).flight.map (·.1):=hn.fls;rw[e1];refine⟨by rw[List.length_map];have:=hg.fl;omega,fun t ht=> ?_⟩;obtain⟨c,hc,rfl⟩:=List.mem_map.mp ht;exact(hn.flk c hc).1
 by_cases hk:k<0∨(R.nodes.length:Int)≤k
 · refine⟨[],9,by simp,(ZeS w xb D k h.dev (by omega)).mono fun e w1 hp=>⟨none,0,hp.1,by rw[hp.2];exact ZG.start _ _ _ _⟩,fun w2 h2=>(hdoc w2 h2).mono fun e w3 hq=> ?_⟩;rcases hq with⟨_,e2,rfl⟩|⟨j,nd,_,_,rfl,hnd,_⟩
   · exact⟨none,0,e2,ZG.start _ _ _ _⟩
   · have:=(List.getElem?_eq_some_iff.mp hnd).1;omega
 · obtain⟨j,rfl⟩:∃j:Nat,k=j:=⟨k.toNat,by omega⟩;have hjl:j<R.nodes.length:=by omega
   have hjd:j<D.nodes.length:=by omega
   obtain⟨dn,hdn⟩:∃dn,D.nodes[j]?=some dn:=⟨_,List.getElem?_eq_getElem hjd⟩;obtain⟨nd,hnd⟩:∃nd,R.nodes[j]?=some nd:=⟨_,List.getElem?_eq_getElem hjl⟩;have hs:D.pu.sites[j]?=some dn.p:=by show(D.nodes.map _)[j]?=_;rw[List.getElem?_map,hdn];rfl
   have hn:=h.sim.node j dn.p nd hs hnd;have hg:=h.good.sites dn.p (List.mem_of_getElem? hs);have hw:dn.p.Walk:=hg.walk hpm hnn;have e1:nd.fls.map (VT R.past)=dn.p.flight.map Yz:=by
    have e2:nd.fls=dn.p.flight.map (·.1):=hn.fls;rw[e2,List.map_map];refine List.map_congr_left fun c hc=> ?_;have h1:=hn.flk c hc;have h2:=hg.fs c hc;show VT R.past c.1=(ZbX c.1,c.2);rw[ZgZ c.1 (by omega),h1.2];rfl
   have hfl:=hw.fl;refine⟨dn.p.flight.map Yz,0,by rw[List.length_map];omega,(Zj8 w xb j D dn h.dev hdn hw).mono fun e w1 hp=> ?_,fun w2 h2=>(hdoc w2 h2).mono fun e w3 hq=> ?_⟩
   · obtain⟨ao,cap,e7,HG⟩:=hp;refine⟨ao,cap,by rw[e7,List.length_map],?_⟩;have hh:=HG.out;have el:dn.p.flight.length=(dn.p.flight.map Yz).length:=(List.length_map _).symm;rw[el]at hh;exact hh
   · rcases hq with⟨hb,_⟩|⟨j',nd',ao,cap,hj',hnd',e7,g1⟩
     · omega
     · obtain rfl:j=j':=by omega
       rw[hnd]at hnd';injection hnd' with hnd';subst hnd';have e8:nd.fls.length=(dn.p.flight.map Yz).length:=by rw[←e1,List.length_map]
       rw[e1]at g1;rw[e8]at e7 g1;exact⟨ao,cap,e7,g1⟩
theorem Za.setF {F:Nat→Prop}{A:Nat}{W X:World}(h:Za F W X)(hA:F A)(f:Nat)(v:Value):Za F W (X.setCell ⟨A,f,none⟩ v):=
 h.trans (Za.setCell X ⟨A,f,none⟩ v) (fun _=>id) (fun _ _ he=>by rw[he];exact hA)
theorem Zgx (wts:List Nat)(a n:Nat):(Yf wts a n).length≤n*wts.length:=by
 induction n with
 |zero=>simp[Yf]
 |succ n ih=>
  rw[Vh,List.length_append,List.length_map,Nat.succ_mul];have:=List.length_filter_le (fun x=>decide (x=a+n)) wts;omega
structure LS (w wr:World)(up:Bool)(hz:Nat)(nc:Array Value)(v:Value)(l:List Int):Prop where
 kept:Za (fun _=>False) w wr
 b0:Blk wr w.heap.size 102 #[.bool false,.int .u64 0,.slice none 0 0,.slice none 0 0]
 b1:Blk wr (w.heap.size+1) 146 nc
 b2:Blk wr (w.heap.size+2) 102 #[.bool up,.int .u64 (hz:Int),v,.slice none 0 0]
 row:Row wr 5 1 v l.length (l.flatMap u8C)
 new:∀k,v.ownBlock=some k→w.heap.size≤k
theorem LS.start (w:World)(up:Bool)(hz:Nat)(nc:Array Value):LS w (((w.alloc (.cells #[.bool false,.int .u64 0,.slice none 0 0,.slice none 0 0] 102)).alloc (.cells nc 146)).alloc (.cells #[.bool up,.int .u64 (hz:Int),.slice none 0 0,.slice none 0 0] 102)) up hz nc (.slice none 0 0) []:=by
 have k1:=fun(W:World)(o:Obj)=>Za.alloc W o (fun _=>False);refine⟨((k1 _ _).allocNew _).allocNew _,((Blk.new w _ _).kept (k1 _ _) id).kept (k1 _ _) id,?_,?_,Row.nil _ _ _,fun k hk=>XN hk⟩
 · have:=(Blk.new (w.alloc (.cells #[.bool false,.int .u64 0,.slice none 0 0,.slice none 0 0] 102)) 146 nc);simp only[World.size_alloc]at this;exact this.kept (k1 _ _) id
 · have:=(Blk.new ((w.alloc (.cells #[.bool false,.int .u64 0,.slice none 0 0,.slice none 0 0] 102)).alloc (.cells nc 146)) 102 #[.bool up,.int .u64 (hz:Int),.slice none 0 0,.slice none 0 0]);simp only[World.size_alloc]at this;exact this
theorem LS.more {w wr W:World}{up:Bool}{hz:Nat}{nc:Array Value}{v:Value}{l:List Int}(h:LS w wr up hz nc v l)(k:Za (fun _=>False) wr W):LS w W up hz nc v l:=
 ⟨h.kept.trans k (fun _=>id) (fun _ _=>id),h.b0.kept k id,h.b1.kept k id,h.b2.kept k id,h.row.kept k (fun _ _=>id),h.new⟩
theorem LS.next {w wr w2:World}{up:Bool}{hz:Nat}{nc:Array Value}{v v':Value}{l:List Int}{x:Int}{o:Obj}(h0:LS w wr up hz nc v l)(hA:Zc (wr.alloc o) w2 5 1 v v' l.length 1 (l.flatMap u8C) (u8C x)):
 w2.cell? ⟨w.heap.size+2,2,none⟩=some v∧w2.frozen? ⟨w.heap.size+2,2,none⟩=false∧LS w (w2.setCell ⟨w.heap.size+2,2,none⟩ v') up hz nc v' (l++[x]):=by
 have h:=h0.more (Za.alloc wr o (fun _=>False));have c0:=h.b0.kept hA.kept (h.row.ne_block h.b0 (by decide));have c1:=h.b1.kept hA.kept (h.row.ne_block h.b1 (by decide));have c2:=h.b2.kept hA.kept (h.row.ne_block h.b2 (by decide));have kS:=Za.setCell w2 ⟨w.heap.size+2,2,none⟩ v';have hsz:=h.kept.size;have hr:Row w2 5 1 v' (l++[x]).length ((l++[x]).flatMap u8C):=Vc hA.row;have hn:∀k,v'.ownBlock=some k→w.heap.size≤k:=fun k hk=>by
  rcases hA.own with e|e
  · exact h.new k (by rw[←e];exact hk)
  · exact Nat.le_trans hsz (e k hk)
 refine⟨c2.cell 2,c2.free 2,⟨(h.kept.trans hA.kept (H:=fun _=>False) (fun _=>id) (fun k hk he=>by have:=h.new k he;omega)).trans kS (fun _=>id) (fun k hk he=>by simp at he;omega),c0.kept kS (by simp),c1.kept kS (by simp),c2.set 2 v',hr.kept kS (fun k hk he=> ?_),hn⟩⟩;simp at he;subst he;exact Row.ne_block hr c2 (by decide) hk
theorem Zhl (w:World)(b:Nat)(R:Zd)(k:Int)(h:Ref w b R)(h0:k<0∨(R.nodes.length:Int)≤k):
 Calls Tryz.prog 50 #[.pointer (some ⟨b,0,none⟩),.int .i64 k] w fun e w'=>e=.returned (.tuple #[.agg #[.bool false,.int .u64 0,.slice none 0 0,.slice none 0 0],.int .i64 9])∧Za (fun _=>False) w w':=by
 have H0:Hid (∀W,Za (fun _=>False) w W→Calls Tryz.prog 108 #[.pointer (some ⟨b,0,none⟩),.int .i64 k] W fun e w'=>e=.returned (.bool true)∧W=w'):=fun W hW=>by
  have:=VX W b R k (h.kept hW (fun _ _=>id));rw[decide_eq_true h0]at this;exact this
 clear h h0;go_enter Tryz.func50,Tryz.ntmps50
 go_wp2_with (go_at_call 108;refine(H0.out _ (Za.alloc _ _ _)).mono ?_;rintro e w1 ⟨rfl,rfl⟩)
 refine bodyPost_ret (v:=.tuple #[.agg #[.bool false,.int .u64 0,.slice none 0 0,.slice none 0 0],.int .i64 9]) (by simp[results,Tryz.results50,go_sem]) rfl ⟨rfl,?_⟩;have hF:∀W',Za (fun k=>k=w.heap.size) (w.alloc (.cells #[.bool false,.int .u64 0,.slice none 0 0,.slice none 0 0] 102)) W'→Za (fun _=>False) w W':=fun W' k=>(Za.alloc w _ (fun _=>False)).trans k (fun _=>id) (fun i hi he=>by omega);refine hF _ ?_
 repeat first
  |with_reducible refine Za.setO ?_ _ _
  |with_reducible exact Za.refl _ _
theorem rlook (w:World)(b:Nat)(R:Zd)(k:Int)(h:Ref w b R)(hf:R.Fit)(hl:∀nd∈R.nodes,nd.wts.length≤1000∧nd.ents.length≤1000∧nd.horizon<R.past.length):
 Calls Tryz.prog 50 #[.pointer (some ⟨b,0,none⟩),.int .i64 k] w fun e w'=>VF w R k e w':=by
 by_cases h0:k<0∨(R.nodes.length:Int)≤k
 · exact(Zhl w b R k h h0).mono fun e w' hp=>.inl ⟨h0,hp⟩
 · obtain⟨j,rfl⟩:∃j:Nat,k=j:=⟨k.toNat,by omega⟩;have hjl:j<R.nodes.length:=by omega
   obtain⟨nd,hnd⟩:∃nd,R.nodes[j]?=some nd:=⟨_,List.getElem?_eq_getElem hjl⟩;have hnd':=(List.getElem?_eq_some_iff.mp hnd).2;have hmem:=List.mem_of_getElem? hnd;obtain⟨g,cap,hv,ho,hgl⟩:=h.nodes.block (by omega);have c3:=h.c3;rw[hv]at c3;obtain⟨hl1,hl2,hl3⟩:=hl nd hmem;obtain⟨aw,cw,hvw,_⟩:=(h.wts nd hmem).form;obtain⟨ae,ce,hve,hae0⟩:=(h.ents nd hmem).form;have nc:∀f u,(nodeC nd)[f]?=some u→f<7→w.cell? ⟨g,j*7+f,none⟩=some u:=fun f u hu hf7=>h.nodes.cell ho _ _ (by rw[Zy R.nodes j hjl f hf7,hnd'];exact hu);have n0:w.cell? ⟨g,j*7,none⟩=some (.bool nd.up):=nc 0 _ rfl (by omega);have n1:w.cell? ⟨g,j*7+1,none⟩=some (.int .u64 (nd.since:Int)):=nc 1 _ rfl (by omega);have n2:w.cell? ⟨g,j*7+2,none⟩=some (.int .u64 (nd.horizon:Int)):=nc 2 _ rfl (by omega);have n3:w.cell? ⟨g,j*7+3,none⟩=some nd.fl:=nc 3 _ rfl (by omega);have n4:w.cell? ⟨g,j*7+4,none⟩=some nd.wt:=nc 4 _ rfl (by omega);have n5:w.cell? ⟨g,j*7+5,none⟩=some nd.en:=nc 5 _ rfl (by omega);have n6:w.cell? ⟨g,j*7+6,none⟩=some nd.nm:=nc 6 _ rfl (by omega);rw[hvw]at n4;rw[hve]at n5;obtain⟨af,cf,hvf,_⟩:=(h.fls nd hmem).form;obtain⟨am,cm,hvm,_⟩:=(h.nms nd hmem).form;rw[hvf]at n3;rw[hvm]at n6;have H0:Hid (∀W,Za (fun _=>False) w W→Calls Tryz.prog 108 #[.pointer (some ⟨b,0,none⟩),.int .i64 (j:Int)] W fun e w'=>e=.returned (.bool false)∧W=w'):=fun W hW=>by
    have:=VX W b R (j:Int) (h.kept hW (fun _ _=>id));rw[decide_eq_false h0]at this;exact this
   obtain⟨nw,hnw⟩:∃nw,nw=R.past.length-1:=⟨_,rfl⟩;have HNW:Hid (∀W,Za (fun _=>False) w W→Calls Tryz.prog 77 #[.pointer (some ⟨b,0,none⟩)] W fun e w'=>e=.returned (.int .u64 (nw:Int))∧W=w'):=fun W hW=>by rw[hnw];exact Vv W b R (h.kept hW (fun _ _=>id)) hf
   obtain⟨wts,hwts⟩:∃x,x=nd.wts:=⟨_,rfl⟩;obtain⟨ents,hents⟩:∃x,x=nd.ents:=⟨_,rfl⟩;obtain⟨hz,hhz⟩:∃x,x=nd.horizon:=⟨_,rfl⟩;obtain⟨up,hup⟩:∃x,x=nd.up:=⟨_,rfl⟩;have HWT:Hid (∀i (hi:i<wts.length),∃gw,aw=some ⟨gw,0,none⟩∧∀W,Za (fun _=>False) w W→W.cell? ⟨gw,i,none⟩=some (.int .u64 (wts[i]:Int))):=by
    intro i hi;have hr:=h.wts nd hmem;rw[←hwts,hvw,←hwts]at hr;obtain⟨gw,c',e1,e2,_⟩:=hr.block (by omega);injection e1 with e1 _ _;exact⟨gw,e1,fun W hW=>(hr.kept hW (fun _ _=>id)).cell e2 i _ (Zaj hi)⟩
   have HEN:Hid (Row w 55 6 (.slice ae ents.length ce) ents.length (ents.flatMap Zk)):=by
    have:=h.ents nd hmem;rw[hve,←hents]at this;exact this
   have HRES:Hid (∀(w':World)(wa ea:Option Addr)(wc ec:Nat),ZG 5 1 u8C w w' (.slice wa (Yf wts (hz+1) (nw-hz)).length wc) (Yf wts (hz+1) (nw-hz))→ZG 55 6 Zk w w' (.slice ea ents.length ec) ents→VF w R (j:Int) (.returned (.tuple #[.agg #[.bool up,.int .u64 (hz:Int),.slice wa (Yf wts (hz+1) (nw-hz)).length wc,.slice ea ents.length ec],.int .i64 0])) w'):=by
    intro w' wa ea wc ec g1 g2;rw[hwts,hhz,hnw]at g1;rw[hents]at g2;refine .inr ⟨j,nd,wa,ea,wc,ec,rfl,hnd,?_,g1,g2⟩;rw[hwts,hhz,hnw,hents,hup]
   obtain⟨N,hN⟩:∃N,N=nw-hz:=⟨_,rfl⟩;have HNZ:Hid (nw=hz+N):=by show nw=hz+N;omega
   have hnm:nw≤700:=by have:=hf.pmax;omega
   have hhm:hz≤700:=by omega
   rw[←hN]at HRES;rw[←hup]at n0;rw[←hhz]at n2;rw[←hwts]at n4 hl1;rw[←hents]at n5 hl2;obtain⟨i0,hi,hz0,hz1,hz2⟩:=info_parts Tryz.infoU8;have HI:Hid (Tryz.prog.info? 5=some i0∧i0.zero=some (.int .u8 0)∧i0.size=1∧i0.bytes=1):=⟨hi,hz0,hz1,hz2⟩;obtain⟨i1,hj,hy0,hy1,hy2⟩:=info_parts Tryz.infoEntry;have HI1:Hid (Tryz.prog.info? 55=some i1∧i1.zero=some (.agg #[.string ByteArray.empty,.int .i32 0,.int .u64 0,.int .u64 0,.bool false,.int .u64 0])∧i1.size=6∧i1.bytes=56):=⟨hj,hy0,hy1,hy2⟩;have hj0:(0:Int)≤(j:Int):=by omega
   have hj1:(j:Int)<(R.nodes.length:Int):=by omega
   have hgz:g<w.heap.size:=hgl;have hbz:b<w.heap.size:=World.block_lt_of_cell? w _ c3;generalize nd.since=since at n1;generalize nd.fls.length=fn at n3;generalize nd.nms.length=nmn at n6;clear hi hz0 hz1 hz2 hj hy0 hy1 hy2 h hf hl h0 hnd hnd' hmem hv ho hvw hve hvf hvm nc hae0 hnw hN hwts hents hhz hup hl3 hgl;obtain⟨C,hC⟩:∃C:Array Value,C=#[.bool up,.int .u64 (since:Int),.int .u64 (hz:Int),.slice af fn cf,.slice aw wts.length cw,.slice ae ents.length ce,.slice am nmn cm]:=⟨_,rfl⟩;have HST:Hid (LS w (((w.alloc (.cells #[.bool false,.int .u64 0,.slice none 0 0,.slice none 0 0] 102)).alloc (.cells #[.bool up,.int .u64 (since:Int),.int .u64 (hz:Int),.slice af fn cf,.slice aw wts.length cw,.slice ae ents.length ce,.slice am nmn cm] 146)).alloc (.cells #[.bool up,.int .u64 (hz:Int),.slice none 0 0,.slice none 0 0] 102)) up hz C (.slice none 0 0) []):=by rw[hC];exact LS.start w up hz _
   have HC4:Hid (C[4]?=some (.slice aw wts.length cw)∧C[5]?=some (.slice ae ents.length ce)):=by rw[hC];exact⟨rfl,rfl⟩
   clear hC;go_enter Tryz.func50,Tryz.ntmps50
   go_wp2_with (go_at_call 108;refine(H0.out _ (Za.alloc _ _ _)).mono ?_;rintro e w1 ⟨rfl,rfl⟩)
   go_loopw [9] (fun tv wr=>∃T:Nat,tv=.int .u64 (T:Int)∧∃i:Nat,Hid (T=hz+1+i)∧i≤N∧T≤800∧∃v,Hid (LS w wr up hz C v (Yf wts (hz+1) i))) (fun tv _=>hz+1+N-(intOf tv).toNat)
   case atStart=>exact⟨hz+1,by go_num,0,rfl,Nat.zero_le _,by have:=HNZ.out;omega,.slice none 0 0,HST⟩
   case round=>
    obtain⟨T,rfl,i,HT,hi,hT8,v,HL⟩:=hrel;by_cases hlt:i<N
    · have hle:T≤nw:=by have:=HT.out;have:=HNZ.out;omega
      have hLR:=Zgx wts (hz+1) i;have hLR2:(Yf wts (hz+1) i).length≤701000:=by
       have:i*wts.length≤701*1000:=Nat.mul_le_mul (by have:=HNZ.out;omega) hl1;omega
      clear hLR
      go_wp2_with (go_at_call 77;refine(HNW.out _ HL.out.kept).mono ?_;rintro e w1 ⟨rfl,rfl⟩)
      go_loopw [10] (fun iv wr=>∃m:Nat,m≤wts.length∧iv=.int .i64 m∧∃v,Hid (LS w wr up hz C v (Yf wts (hz+1) i++((wts.take m).filter fun x=>decide (x=T)).map fun _=>(T:Int)%256))) (fun iv _=>wts.length-(intOf iv).toNat)
      case atStart=>exact⟨0,Nat.zero_le _,rfl,v,by show LS _ _ _ _ _ _ _;have:=HL.out;simpa using this⟩
      case round=>
       obtain⟨m,hm,rfl,v2,HM⟩:=hrel;have r4:wr.cell? ⟨w.heap.size+1,4,none⟩=some (.slice aw wts.length cw):=by rw[HM.out.b1.cell];exact HC4.out.1
       by_cases hml:m<wts.length
       · obtain⟨gw,haw,hcw⟩:=HWT.out m hml;have p0:=hcw wr HM.out.kept;have hm0:(0:Int)≤(m:Int):=by omega
         have hm1:(m:Int)<(wts.length:Int):=by omega
         have hflt:((wts.take m).filter fun x=>decide (x=T)).length≤1000:=by
          have:=List.length_filter_le (fun x=>decide (x=T)) (wts.take m);rw[List.length_take]at this;omega
         obtain⟨L,hL⟩:∃L,L=Yf wts (hz+1) i++((wts.take m).filter fun x=>decide (x=T)).map fun _=>(T:Int)%256:=⟨_,rfl⟩;have hLn:L.length≤702000:=by rw[hL,List.length_append,List.length_map];omega
         obtain⟨x,hx⟩:∃x,x=wts[m]:=⟨_,rfl⟩;rw[←hx]at p0;subst haw;by_cases hxT:x=T
         · have HX:Hid (Yf wts (hz+1) i++((wts.take (m+1)).filter fun x=>decide (x=T)).map (fun _=>(T:Int)%256)=L++[(T:Int)%256]):=by
            show _=_;rw[hL,List.take_succ_eq_append_getElem hml,List.filter_append,List.map_append,←hx,List.append_assoc];simp[hxT]
           rw[←hL]at HM;obtain⟨av,cv,hvv,_⟩:=HM.out.row.form;obtain⟨n,hn⟩:∃n,n=L.length:=⟨_,rfl⟩;rw[←hn]at hvv hLn;subst hvv;have r2:wr.cell? ⟨w.heap.size+2,2,none⟩=some (.slice av n cv):=HM.out.b2.cell 2;have HROW:Hid (∀o,Row (wr.alloc o) 5 1 (.slice av n cv) n (L.flatMap u8C)):=fun o=>by have:=HM.out.row.kept (Za.alloc wr o (fun _=>False)) (fun _ _=>id);rw[←hn]at this;exact this
           have HNX:Hid (∀(o:Obj)(w2:World)(v':Value),Zc (wr.alloc o) w2 5 1 (.slice av n cv) v' n 1 (L.flatMap u8C) (u8C ((T:Int)%256))→w2.cell? ⟨w.heap.size+2,2,none⟩=some (.slice av n cv)∧w2.frozen? ⟨w.heap.size+2,2,none⟩=false∧Hid (LS w (w2.setCell ⟨w.heap.size+2,2,none⟩ v') up hz C v' (L++[(T:Int)%256]))):=by
            intro o w2 v' hA;rw[hn]at hA⊢;obtain⟨y1,y2,y3⟩:=HM.out.next (o:=o) (x:=(T:Int)%256) (by rw[←hn]at hA⊢;exact hA);exact⟨by rw[←hn];exact y1,y2,y3⟩
           have b1:n+1≤maxLen:=by unfold maxLen;omega
           have b2:(n+1)*1≤140737488355328:=by omega
           have hxI:((x:Int)==(T:Int))=true:=by rw[hxT];simp
           clear hn hL hx hxT
           go_wp2_with (at_builtin;go_must (refine Zf _ rfl (.tmp 52) (.tmp 56) 100 rfl 5 i0 (.int .u8 0) 1 1 Tryz.underlying100 HI.out.1 HI.out.2.1 HI.out.2.2.1 HI.out.2.2.2 rfl (by decide) (.slice av n cv) n _ rfl (HROW.out _) ⟨wr.heap.size,0,none⟩ 1 1 (u8C ((T:Int)%256)) rfl rfl (fun j u hj=>ZgL wr _ _ j u hj) (Zcy _) b1 b2 ?_);intro v' w2 hA;obtain⟨q1,q2,HA⟩:=HNX.out _ _ _ hA;obtain⟨av',cv',hv',_⟩:=hA.row.form;clear hA;subst hv')
           go_roundw
           case rel=>exact⟨m+1,by omega,by go_num,_,by rw[HX.out];exact HA.out⟩
           case measure=>simp[intOf];omega
         · have HX:Hid (Yf wts (hz+1) i++((wts.take (m+1)).filter fun x=>decide (x=T)).map (fun _=>(T:Int)%256)=L):=by
            show _=_;rw[hL,List.take_succ_eq_append_getElem hml,List.filter_append,List.map_append,←hx];simp[hxT]
           rw[←hL]at HM;have hxI:((x:Int)==(T:Int))=false:=beq_eq_false_iff_ne.mpr (by omega);clear hL hx hxT;go_wp2
           go_roundw
           case rel=>exact⟨m+1,by omega,by go_num,v2,by rw[HX.out];exact HM.out⟩
           case measure=>simp[intOf];omega
       · have hme:m=wts.length:=by omega
         subst hme;have HX:Hid (Yf wts (hz+1) i++((wts.take wts.length).filter fun x=>decide (x=T)).map (fun _=>(T:Int)%256)=Yf wts (hz+1) (i+1)):=by
          show _=_;rw[List.take_length,Vh,HT.out]
         rw[HX.out]at HM;have hTI:T+1=hz+1+(i+1):=by have:=HT.out;omega
         have HTI:=hid hTI;clear hTI;go_wp2
         go_roundw
         case rel=>exact⟨T+1,by go_num,i+1,HTI,by omega,by have:=HTI.out;have:=HNZ.out;omega,v2,HM⟩
         case measure=>have:=HT.out;simp[intOf];omega
    · have hie:i=N:=by omega
      subst hie;have hgt:¬T≤nw:=by have:=HT.out;have:=HNZ.out;omega
      obtain⟨av,cv,hvv,_⟩:=HL.out.row.form;obtain⟨L,hL⟩:∃L,L=Yf wts (hz+1) i:=⟨_,rfl⟩;rw[←hL]at HL HRES hvv;clear hL;subst hvv;have r5:wr.cell? ⟨w.heap.size+1,5,none⟩=some (.slice ae ents.length ce):=by rw[HL.out.b1.cell];exact HC4.out.2
      have r0:wr.cell? ⟨w.heap.size+2,0,none⟩=some (.bool up):=HL.out.b2.cell 0;have r1:wr.cell? ⟨w.heap.size+2,1,none⟩=some (.int .u64 (hz:Int)):=HL.out.b2.cell 1;have r2:wr.cell? ⟨w.heap.size+2,2,none⟩=some (.slice av L.length cv):=HL.out.b2.cell 2;have r3:wr.cell? ⟨w.heap.size+2,3,none⟩=some (.slice none 0 0):=HL.out.b2.cell 3;have rf:∀f,wr.frozen? ⟨w.heap.size+2,f,none⟩=false:=fun f=>HL.out.b2.free f;have s0:wr.cell? ⟨w.heap.size,0,none⟩=some (.bool false):=HL.out.b0.cell 0;have s1:wr.cell? ⟨w.heap.size,1,none⟩=some (.int .u64 0):=HL.out.b0.cell 1;have s2:wr.cell? ⟨w.heap.size,2,none⟩=some (.slice none 0 0):=HL.out.b0.cell 2;have s3:wr.cell? ⟨w.heap.size,3,none⟩=some (.slice none 0 0):=HL.out.b0.cell 3;have sf:∀f,wr.frozen? ⟨w.heap.size,f,none⟩=false:=fun f=>HL.out.b0.free f;have HFIN:Hid (∀(w2 W':World)(ea:Option Addr)(ec:Nat),Za (fun _=>False) wr w2→Row w2 55 6 (.slice ea ents.length ec) ents.length (ents.flatMap Zk)→(∀q,(Value.slice ea ents.length ec).ownBlock=some q→wr.heap.size≤q)→Za (fun q=>q=w.heap.size∨q=w.heap.size+2) w2 W'→VF w R (j:Int) (.returned (.tuple #[.agg #[.bool up,.int .u64 (hz:Int),.slice av L.length cv,.slice ea ents.length ec],.int .i64 0])) W'):=by
       intro w2 W' ea ec k2 hr hn kS;have hs:=HL.out.kept.size;have hb2:=HL.out.b2.lt;have kk:Za (fun _=>False) w W':=(HL.out.kept.trans k2 (H:=fun _=>False) (fun _=>id) (fun _ _=>id)).trans kS (fun _=>id) (fun q hq he=>by omega);refine HRES.out W' av ea cv ec ⟨(HL.out.row.kept k2 (fun _ _=>id)).kept kS (fun q hq he=> ?_),kk,HL.out.new⟩ ⟨hr.kept kS (fun q hq he=>by have:=hn q hq;omega),kk,fun q hq=>by have:=hn q hq;omega⟩;rcases he with rfl|rfl
       · exact HL.out.row.ne_block HL.out.b0 (by decide) hq
       · exact HL.out.row.ne_block HL.out.b2 (by decide) hq
      rcases HEN.out.shape with⟨he1,he2,_⟩|⟨ge,cap',cur,he1,heb,_,_,_,_⟩
      · injection he1 with e1 e2 e3;subst e1 e3;have HE0:Hid (ents=[]):=List.eq_nil_of_length_eq_zero he2;rw[he2]at r5 HFIN;clear he2 e2
        go_wp2_with first
         |(go_at_call 77;refine(HNW.out _ HL.out.kept).mono ?_;rintro e w1 ⟨rfl,rfl⟩)
         |(at_builtin;refine wpList_append_own_none rfl (.tmp 60) (.tmp 62) 51 rfl 0 55 i1 6 Tryz.underlying51 HI1.out.1 (.slice none 0 0) 0 [] rfl (Row.nil _ _ _) rfl ?_)
        refine bodyPost_ret (v:=.tuple #[.agg #[.bool up,.int .u64 (hz:Int),.slice av L.length cv,.slice none 0 0],.int .i64 0]) (by simp[results,Tryz.results50,go_sem, *]) rfl (HFIN.out wr _ none 0 (Za.refl _ _) (by rw[HE0.out];exact Row.nil _ _ _) (fun q hq=>XN hq) ?_)
        repeat first
         |with_reducible refine Za.setF ?_ (.inl rfl) _ _
         |with_reducible refine Za.setF ?_ (.inr rfl) _ _
         |with_reducible exact Za.refl _ _
      · injection he1 with e1 e2 e3;subst e1 e3;clear e2;have HNEWS:Hid (∀q u,(ents.flatMap Zk)[q]?=some u→wr.cell? ((⟨ge,0,none⟩:Addr).add q)=some u):=by
         intro q u hq;have e:(⟨ge,0,none⟩:Addr).add q=⟨ge,q,none⟩:=by cases q<;>simp[Addr.add]
         rw[e];exact HL.out.kept.hold (HEN.out.cell rfl q u hq)
        have HLC:Hid ((ents.flatMap Zk).length=ents.length*6):=YJ Zk 6 (fun _=>rfl) ents;have b1:0+ents.length≤maxLen:=by unfold maxLen;omega
        have b2:(0+ents.length)*56≤140737488355328:=by omega
        have HDO:Hid (∀(w2:World)(v':Value),Zc wr w2 55 6 (.slice none 0 0) v' 0 ents.length [] (ents.flatMap Zk)→Za (fun _=>False) wr w2∧Row w2 55 6 v' ents.length (ents.flatMap Zk)∧(∀q,v'.ownBlock=some q→wr.heap.size≤q)):=by
         intro w2 v' hA;refine⟨hA.kept.mono (fun q hq=>XN hq),by have:=hA.row;rwa [Nat.zero_add,List.nil_append]at this,fun q hq=> ?_⟩;rcases hA.own with e|e
         · rw[e]at hq;exact XN hq
         · exact e q hq
        clear heb
        go_wp2_with first
         |(go_at_call 77;refine(HNW.out _ HL.out.kept).mono ?_;rintro e w1 ⟨rfl,rfl⟩)
         |(at_builtin;go_must (refine Zf _ rfl (.tmp 60) (.tmp 62) 51 rfl 55 i1 (.agg #[.string ByteArray.empty,.int .i32 0,.int .u64 0,.int .u64 0,.bool false,.int .u64 0]) 6 56 Tryz.underlying51 HI1.out.1 HI1.out.2.1 HI1.out.2.2.1 HI1.out.2.2.2 rfl (by decide) (.slice none 0 0) 0 [] rfl (Row.nil _ _ _) ⟨ge,0,none⟩ ents.length _ (ents.flatMap Zk) rfl HLC.out HNEWS.out (Y9 ents) b1 b2 ?_);intro v' w2 hA;obtain⟨k2,hr2,hn2⟩:=HDO.out _ _ hA;obtain⟨ea,ec,hv',_⟩:=hr2.form;clear hA;subst hv';have HK2:Hid (Za (fun _=>False) wr w2∧Row w2 55 6 (.slice ea ents.length ec) ents.length (ents.flatMap Zk)∧(∀q,(Value.slice ea ents.length ec).ownBlock=some q→wr.heap.size≤q)):=⟨k2,hr2,hn2⟩;replace r0:=k2.hold r0;replace r1:=k2.hold r1;replace r2:=k2.hold r2;replace r3:=k2.hold r3;replace s0:=k2.hold s0;replace s1:=k2.hold s1;replace s2:=k2.hold s2;replace s3:=k2.hold s3;replace rf:∀f,w2.frozen? ⟨w.heap.size+2,f,none⟩=false:=fun f=>(HL.out.b2.kept k2 id).free f;replace sf:∀f,w2.frozen? ⟨w.heap.size,f,none⟩=false:=fun f=>(HL.out.b0.kept k2 id).free f;clear k2 hr2 hn2)
        refine bodyPost_ret (v:=.tuple #[.agg #[.bool up,.int .u64 (hz:Int),.slice av L.length cv,.slice ea ents.length ec],.int .i64 0]) (by simp[results,Tryz.results50,go_sem, *]) rfl (HFIN.out w2 _ ea ec HK2.out.1 HK2.out.2.1 HK2.out.2.2 ?_)
        repeat first
         |with_reducible refine Za.setF ?_ (.inl rfl) _ _
         |with_reducible refine Za.setF ?_ (.inr rfl) _ _
         |with_reducible exact Za.refl _ _
theorem ZbC :∀(m:Nat)(s:Zb),(Zb.hearGo m s).room=s.room
 |0,s=>rfl
 |m+1,s=>by
  unfold Zb.hearGo
  split
  · exact ZbC m _
  · rfl
theorem Zc3 (s:Zb)(K:Int):(s.hear K).room=s.room:=ZbC 4 _
theorem Zc0 (l:List Zj):∀(m:Nat)(p:ZD),(VG l m p).nms=p.nms
 |0,p=>rfl
 |m+1,p=>by
  unfold VG
  split
  · rfl
  · exact Zc0 l m _
theorem Zc5 (l:List Zj)(p:ZD):(Yo l p).nms=p.nms:=by
 unfold Yo;rw[VS,Zc0];rfl
theorem Ziq {P:DP}{R:Zd}(h:Sim P R)(t:Nat):P.keysOf t=Ya R.past (t+1):=by
 unfold DP.keysOf Ya;rw[h.past,List.getElem?_cons_succ]
def XI (l:List Zj)(n:ZD):ZD:=if n.up=false then⟨true,l.length-1,l.length-1,n.fls,[],[],[]⟩else if n.horizon<l.length-1 then Yo l n else n
def ZaP (w:World)(b:Nat)(R:Zd)(k:Int)(e:Ending)(w':World):Prop:=
 ((k<0∨(R.nodes.length:Int)≤k)∧e=.returned (.tuple #[.int .u64 0,.int .i64 9])∧w=w')∨
 ∃(j:Nat)(nd:Zi),k=(j:Int)∧R.nodes[j]?=some nd∧e=.returned (.tuple #[.int .u64 ((XI R.past nd.p).horizon:Int),.int .i64 0])∧Zm w b R j (XI R.past nd.p) w'
theorem ZX.ask {P:DP}{R:Zd}(h:Sim P R){u:Nat}{s:Zb}{n:ZD}(hn:ZX R.past R.uses s n)(hg:s.Good P.past.length u):ZX R.past R.uses (P.askS s) (XI R.past n)∧(P.askS s).room=s.room∧(XI R.past n).nms.Sublist n.nms:=by
 have hl:=h.plen;have hup:=hn.up;have hhz:=hn.hz;have ht:R.past.length-1=P.past.length:=by omega
 by_cases hu:s.up=false
 · have e1:P.askS s=s.rise P.past.length:=by unfold DP.askS;rw[if_pos hu]
   have e2:XI R.past n=⟨true,P.past.length,P.past.length,n.fls,[],[],[]⟩:=by unfold XI;rw[if_pos (by rw[hup];exact hu),ht]
   rw[e1,e2];exact⟨hn.rise (by omega),rfl,List.nil_sublist _⟩
 · have hu2:s.up=true:=by cases hh:s.up with
    |true=>rfl
    |false=>exact absurd hh hu
   have hnu:¬n.up=false:=by rw[hup];exact hu
   by_cases hlt:s.horizon<P.past.length
   · have e1:P.askS s=s.hear (Ya R.past (s.horizon+1)):=by unfold DP.askS;rw[if_neg hu,if_pos hlt,Ziq h]
     have e2:XI R.past n=Yo R.past n:=by unfold XI;rw[if_neg hnu,if_pos (by omega)]
     rw[e1,e2];exact⟨hn.hear hl hg hu2 hlt,Zc3 _ _,by rw[Zc5];exact List.Sublist.refl _⟩
   · have e1:P.askS s=s:=by unfold DP.askS;rw[if_neg hu,if_neg hlt]
     have e2:XI R.past n=n:=by unfold XI;rw[if_neg hnu,if_neg (by omega)]
     rw[e1,e2];exact⟨hn,rfl,List.Sublist.refl _⟩
theorem Zio {w:World}{xb cb:Nat}{D:Ze}{R:Zd}(h:ZP w xb cb D R)(hnn:R.uses.length<9223372036854775807)(k:Int)
 (hdoc:∀w2,Ref w2 cb R→Calls Tryz.prog 64 #[.pointer (some ⟨cb,0,none⟩),.int .i64 k] w2 fun e w3=>ZaP w2 cb R k e w3):
 ∃x r:Int,Calls Tryz.prog 63 #[.pointer (some ⟨xb,0,none⟩),.int .i64 k] w fun e w1=>e=.returned (.tuple #[.int .u64 x,.int .i64 r])∧
  Xt 64 #[.pointer (some ⟨cb,0,none⟩),.int .i64 k] w w1 xb cb D R (.tuple #[.int .u64 x,.int .i64 r]):=by
 refine⟨((D.pu.ask k).1:Int),(D.pu.ask k).2.1,(dAsk w xb D k h.dev (h.good.walk hnn)).mono fun e w1 hp=>⟨hp.1,hp.2.keeps,fun w2 k2=> ?_⟩⟩;have g:=hp.2;refine(hdoc w2 (h.ref_after g.keeps k2)).mono fun e w3 hq=> ?_;rcases VW h.sim k with⟨hno,hk⟩|⟨j,s,nd,rfl,hs1,hs,hnd,hn⟩
 · have hE:D.pu.ask k=(0,9,D.pu):=by unfold DP.ask;rw[hno]
   rw[hE]at g⊢;rcases hq with⟨_,e2,rfl⟩|⟨j,nd,rfl,hnd,_⟩
   · exact⟨e2,h.still g k2 (Za.refl _ _),Za.refl _ _⟩
   · have:=XJ hnd;omega
 · have hE:D.pu.ask (j:Int)=((D.pu.askS s).horizon,0,D.pu.put (j:Int) (D.pu.askS s)):=by unfold DP.ask;rw[hs1]
   rw[hE]at g⊢;have hgs:=h.good.sites s (List.mem_of_getElem? hs);obtain⟨a1,a2,a3⟩:=ZX.ask h.sim hn hgs;rcases hq with⟨hk,_⟩|⟨j',nd',hj',hnd',e2,hb⟩
   · have:=XJ hnd;omega
   · obtain rfl:j=j':=by omega
     rw[hnd]at hnd';injection hnd' with hnd';subst hnd';exact⟨by rw[e2,a1.hz],h.turn1 hs hnd g k2 hb a1 a2 a3 (DP.Good.askS hgs)⟩
def Um (w:World)(b:Nat)(R:Zd)(k i:Int)(e:Ending)(w':World):Prop:=
 (Yh R k i≠0∧e=.returned (.int .i64 (Yh R k i))∧w=w')∨
 (∃(j m:Nat)(nd:Zi)(t:Nat),k=(j:Int)∧i=(m:Int)∧R.nodes[j]?=some nd∧nd.fls[m]?=some t∧Yh R k i=0∧e=.returned (.int .i64 0)∧Zm w b R j (YC R.past {nd.p with fls:=nd.fls.eraseIdx m} t) w')
theorem Zfp (l:List Zj)(n:ZD)(t:Nat):(YC l n t).nms=n.nms:=by
 unfold YC
 split
 · rfl
 · split
   · exact Zc5 l n
   · split<;>rfl
theorem Ze6 (s:Zb)(t:Nat)(K:Int):(s.arrive t K).room=s.room:=by
 unfold Zb.arrive
 split
 · rfl
 · split
   · exact Zc3 _ _
   · split<;>rfl
theorem ZdC {w:World}{xb cb:Nat}{D:Ze}{R:Zd}(h:ZP w xb cb D R)(hnn:R.uses.length<9223372036854775807)(k i:Int)
 (hdoc:∀w2,Ref w2 cb R→Calls Tryz.prog 58 #[.pointer (some ⟨cb,0,none⟩),.int .i64 k,.int .i64 i] w2 fun e w3=>Um w2 cb R k i e w3):
 ∃r:Int,Calls Tryz.prog 57 #[.pointer (some ⟨xb,0,none⟩),.int .i64 k,.int .i64 i] w fun e w1=>e=.returned (.int .i64 r)∧
  Xt 58 #[.pointer (some ⟨cb,0,none⟩),.int .i64 k,.int .i64 i] w w1 xb cb D R (.int .i64 r):=by
 refine⟨(D.pu.deliver k i).1,(Zja w xb D k i h.dev (h.good.walk hnn)).mono fun e w1 hp=>⟨hp.1,hp.2.keeps,fun w2 k2=> ?_⟩⟩;have g:=hp.2;refine(hdoc w2 (h.ref_after g.keeps k2)).mono fun e w3 hq=> ?_;rcases Zd4 h.sim k i with⟨hno,hL⟩|⟨j,s,nd,rfl,hs1,hs,hnd,hn,⟨hi,hL⟩|⟨m,c,rfl,hc,hcf,hL⟩⟩
 · have hE:D.pu.deliver k i=(9,D.pu):=by unfold DP.deliver;rw[hno]
   rw[hE]at g⊢;rcases hq with⟨_,e2,rfl⟩|⟨j,m,nd,t,_,_,_,_,hz,_⟩
   · exact⟨by rw[e2,hL],h.still g k2 (Za.refl _ _),Za.refl _ _⟩
   · omega
 · have hE:D.pu.deliver (j:Int) i=(10,D.pu):=by
    unfold DP.deliver;rw[hs1];dsimp only;by_cases h0:i<0
    · rw[if_pos h0]
    · rw[if_neg h0,List.getElem?_eq_none (by omega)]
   rw[hE]at g⊢;rcases hq with⟨_,e2,rfl⟩|⟨j,m,nd,t,_,_,_,_,hz,_⟩
   · exact⟨by rw[e2,hL],h.still g k2 (Za.refl _ _),Za.refl _ _⟩
   · omega
 · have hE:D.pu.deliver (j:Int) (m:Int)=(0,D.pu.put (j:Int) ((s.take m).arrive c.1 c.2)):=by
    unfold DP.deliver;rw[hs1];dsimp only;rw[if_neg (by omega),Int.toNat_natCast,hc]
   rw[hE]at g⊢;have hgs:=h.good.sites s (List.mem_of_getElem? hs);obtain⟨hc1,hc2⟩:=hn.flk c (List.mem_of_getElem? hc);have hl:=h.sim.plen;have hct:c.1≤D.pu.past.length:=by omega
   rcases hq with⟨hz,_⟩|⟨j',m',nd',t,hj',hm',hnd',ht',_,e2,hb⟩
   · exact absurd hL hz
   · obtain rfl:j=j':=by omega
     obtain rfl:m=m':=by omega
     rw[hnd]at hnd';injection hnd' with hnd';subst hnd';rw[hcf]at ht';injection ht' with ht';subst ht';have ha:=(hn.take m).arrive hl (hgs.take m) hct;rw[←hc2]at ha;exact⟨e2,h.turn1 hs hnd g k2 hb ha (Ze6 _ _ _) (by rw[Zfp];exact List.Sublist.refl _) ((hgs.take m).arrive c.1 c.2 hct)⟩
theorem Zm.from {w W w':World}{b k:Nat}{R:Zd}{p:ZD}(h:Zm W b R k p w')(kk:Za (fun _=>False) w W):Zm w b R k p w':=by
 obtain⟨nd,e,hB⟩:=h;exact⟨nd,e,hB.1,kk.trans hB.2.1 (fun _=>False.elim) (fun _ _ h=>h),fun x hx=>(hB.2.2 x hx).imp id (fun h=>Nat.le_trans kk.size h)⟩
theorem Zm.upC {w W:World}{b k g:Nat}{R:Zd}{p:ZD}(h:Zm w b R k p W)(hk:k<R.nodes.length)(ho:R.vn.ownBlock=some g):W.cell? ⟨g,k*7,none⟩=some (.bool p.up):=by
 obtain⟨nd',e1,hB⟩:=h;subst e1;exact XS hB.1 hk ho 0 (by omega) _ rfl
def Zaa (nd:Zi)(t:Nat):Zi:=⟨true,t,t,nd.fl,.slice none 0 0,.slice none 0 0,.slice none 0 0,nd.fls,[],[],[]⟩
theorem Ref.putRise {w w':World}{b k t:Nat}{R:Zd}{nd:Zi}(h:Ref w b R)(hnd:R.nodes[k]?=some nd)(kn:Za (fun j=>R.vn.ownBlock=some j) w w')
 (hn:Row w' 146 7 R.vn (R.nodes.set k (Zaa nd t)).length ((R.nodes.set k (Zaa nd t)).flatMap nodeC)):Ref w' b (R.putN k (Zaa nd t)):=by
 obtain⟨hk,hnd'⟩:=List.getElem?_eq_some_iff.mp hnd;have nown:∀(r:Yw)(x:Nat),(Value.slice none 0 0).ownBlock=some x→r.v.ownBlock=some x∨w.heap.size≤x:=fun _ x hx=>by simp[Value.ownBlock]at hx
 have g1:R.rows[(k*4+1)+5]?=_:=Vt hnd 1 (by omega);have g2:R.rows[(k*4+2)+5]?=_:=Vt hnd 2 (by omega);have g3:R.rows[(k*4+3)+5]?=_:=Vt hnd 3 (by omega);have a1:=h.all.put ((k*4+1)+5) _ ⟨53,1,.slice none 0 0,0,[]⟩ g1 (Za.refl _ w) (Zgv w _ _) (nown _);have a2:=a1.put ((k*4+2)+5) _ ⟨55,6,.slice none 0 0,0,[]⟩ (by rw[List.getElem?_set_ne (by omega)];exact g2) (Za.refl _ w) (Zgv w _ _) (nown _);have a3:=a2.put ((k*4+3)+5) _ ⟨3,1,.slice none 0 0,0,[]⟩ (by rw[List.getElem?_set_ne (by omega),List.getElem?_set_ne (by omega)];exact g3) (Za.refl _ w) (Zgv w _ _) (nown _);have a4:=a3.put 2 R.nodeD (R.putN k (Zaa nd t)).nodeD (by rw[List.getElem?_set_ne (by omega),List.getElem?_set_ne (by omega),List.getElem?_set_ne (by omega)];rfl) kn hn (fun x hx=>.inl hx);have s1:=Zt Z3 4 (fun _=>rfl) R.nodes k hk 1 (by omega) ⟨53,1,.slice none 0 0,0,[]⟩ {nd with wt:=.slice none 0 0,wts:=[]} (by rw[hnd'];rfl);have s2:=Zt Z3 4 (fun _=>rfl) (R.nodes.set k {nd with wt:=.slice none 0 0,wts:=[]}) k (by simpa using hk) 2 (by omega) ⟨55,6,.slice none 0 0,0,[]⟩ {nd with wt:=.slice none 0 0,wts:=[],en:=.slice none 0 0,ents:=[]} (by rw[List.getElem_set_self];rfl);have s3:=Zt Z3 4 (fun _=>rfl) (R.nodes.set k {nd with wt:=.slice none 0 0,wts:=[],en:=.slice none 0 0,ents:=[]}) k (by simpa using hk) 3 (by omega) ⟨3,1,.slice none 0 0,0,[]⟩ (Zaa nd t) (by rw[List.getElem_set_self];rfl);rw[List.set_set]at s2 s3;have er:(R.putN k (Zaa nd t)).rows=(((R.rows.set ((k*4+1)+5) ⟨53,1,.slice none 0 0,0,[]⟩).set ((k*4+2)+5) ⟨55,6,.slice none 0 0,0,[]⟩).set ((k*4+3)+5) ⟨3,1,.slice none 0 0,0,[]⟩).set 2 (R.putN k (Zaa nd t)).nodeD:=by
  show _::_::_::_::_::(R.nodes.set k (Zaa nd t)).flatMap Z3=_::_::_::_::_::(((R.nodes.flatMap Z3).set (k*4+1) _).set (k*4+2) _).set (k*4+3) _;rw[s1,s2,s3];rfl
 exact⟨h.blk.kept kn fun he=>h.nodes.ne_block h.blk (by decide) he,by rw[er];exact a4⟩
def Zi9 (w:World)(g o t:Nat)(v:Value):World:=((((((w.setCell ⟨g,o,none⟩ (.bool true)).setCell ⟨g,o+1,none⟩ (.int .u64 (t:Int))).setCell ⟨g,o+2,none⟩ (.int .u64 (t:Int))).setCell ⟨g,o+3,none⟩ v).setCell ⟨g,o+4,none⟩ (.slice none 0 0)).setCell ⟨g,o+5,none⟩ (.slice none 0 0)).setCell ⟨g,o+6,none⟩ (.slice none 0 0)
theorem Ref.rise {w:World}{b k g t:Nat}{R:Zd}{nd:Zi}(h:Ref w b R)(hnd:R.nodes[k]?=some nd)(ho:R.vn.ownBlock=some g):Zm w b R k ⟨true,t,t,nd.fls,[],[],[]⟩ (Zi9 w g (k*7) t nd.fl):=by
 obtain⟨hk,hnd'⟩:=List.getElem?_eq_some_iff.mp hnd;have r0:=(((((((h.nodes.set ho (k*7) (.bool true)).set ho (k*7+1) (.int .u64 (t:Int))).set ho (k*7+2) (.int .u64 (t:Int))).set ho (k*7+3) nd.fl).set ho (k*7+4) (.slice none 0 0)).set ho (k*7+5) (.slice none 0 0)).set ho (k*7+6) (.slice none 0 0));have e0:=ZeY hk (Zaa nd t);have k0:Za (fun j=>R.vn.ownBlock=some j) w (Zi9 w g (k*7) t nd.fl):=by
  have one:∀(u:World)(o:Nat)(v:Value),Za (fun j=>R.vn.ownBlock=some j) u (u.setCell ⟨g,o,none⟩ v):=fun u o v=>(Za.setCell u _ _).mono fun j hj=>by rw[ho,hj]
  have tr:∀{a b c:World},Za (fun j=>R.vn.ownBlock=some j) a b→Za (fun j=>R.vn.ownBlock=some j) b c→Za (fun j=>R.vn.ownBlock=some j) a c:=fun p q=>p.trans q (fun _=>id) (fun _ _=>id);exact tr (tr (tr (tr (tr (tr (one _ _ _) (one _ _ _)) (one _ _ _)) (one _ _ _)) (one _ _ _)) (one _ _ _)) (one _ _ _)
 have HZ:=h.putRise (t:=t) hnd k0 (by rw[List.length_set,←e0];exact r0);refine⟨Zaa nd t,rfl,HZ,k0.mono fun x hx=>Ue hx,fun x hx=> ?_⟩;rcases hx with rfl|⟨r,hr,hx⟩
 · exact .inl (.inl rfl)
 · simp only[Zd.rows,Zd.putN,List.mem_cons,List.mem_flatMap]at hr;rcases hr with rfl|rfl|rfl|rfl|rfl|⟨n,hn,hr⟩
   · exact .inl (.inr ⟨_,List.mem_of_getElem? (i:=0) rfl,hx⟩)
   · exact .inl (.inr ⟨_,List.mem_of_getElem? (i:=1) rfl,hx⟩)
   · exact .inl (.inr ⟨_,List.mem_of_getElem? (i:=2) rfl,hx⟩)
   · exact .inl (.inr ⟨_,List.mem_of_getElem? (i:=3) rfl,hx⟩)
   · exact .inl (.inr ⟨_,List.mem_of_getElem? (i:=4) rfl,hx⟩)
   · rcases List.mem_or_eq_of_mem_set hn with hn|rfl
     · exact .inl (.inr ⟨r,YG hn hr,hx⟩)
     · simp only[Z3,Zaa,List.mem_cons,List.not_mem_nil,or_false]at hr;rcases hr with rfl|rfl|rfl|rfl
       · exact .inl (.inr ⟨_,YG (List.mem_of_getElem? hnd) (List.mem_of_getElem? (i:=0) rfl),hx⟩)
       · simp[Value.ownBlock]at hx
       · simp[Value.ownBlock]at hx
       · simp[Value.ownBlock]at hx
theorem rask (w:World)(b:Nat)(R:Zd)(k:Int)(h:Ref w b R)(hf:R.Fit)(hb:∀nd∈R.nodes,nd.horizon<R.past.length∧(nd.horizon+1<R.past.length→Ze4 R nd.p)):
 Calls Tryz.prog 64 #[.pointer (some ⟨b,0,none⟩),.int .i64 k] w fun e w'=>ZaP w b R k e w':=by
 have hno:=VX w b R k h;by_cases h0:k<0∨(R.nodes.length:Int)≤k
 · rw[decide_eq_true h0]at hno;have H0:=hid hno;have HQ:=hid h0;clear h hno h0 hb;go_enter Tryz.func64,Tryz.ntmps64
   go_wp2_with (go_at_call 108;refine H0.out.mono ?_;rintro e w' ⟨rfl,rfl⟩)
   go_ret2;exact .inl ⟨HQ.out,rfl,rfl⟩
 · rw[decide_eq_false h0]at hno;obtain⟨j,rfl⟩:∃j:Nat,k=j:=⟨k.toNat,by omega⟩;have hjl:j<R.nodes.length:=by omega
   obtain⟨nd,hnd⟩:∃nd,R.nodes[j]?=some nd:=⟨_,List.getElem?_eq_getElem hjl⟩;have hnd':=(List.getElem?_eq_some_iff.mp hnd).2;have hmem:=List.mem_of_getElem? hnd;obtain⟨g,cap,hv,ho,hgl⟩:=h.nodes.block (by omega);have c3:=h.c3;rw[hv]at c3;have nc:∀f u,(nodeC nd)[f]?=some u→f<7→w.cell? ⟨g,j*7+f,none⟩=some u:=fun f u hu hf7=>h.nodes.cell ho _ _ (by rw[Zy R.nodes j hjl f hf7,hnd'];exact hu);have a0:w.cell? ⟨g,j*7,none⟩=some (.bool nd.up):=nc 0 _ rfl (by omega);have a1:w.cell? ⟨g,j*7+1,none⟩=some (.int .u64 (nd.since:Int)):=nc 1 _ rfl (by omega);have a2:w.cell? ⟨g,j*7+2,none⟩=some (.int .u64 (nd.horizon:Int)):=nc 2 _ rfl (by omega);have a3:w.cell? ⟨g,j*7+3,none⟩=some nd.fl:=nc 3 _ rfl (by omega);have a4:w.cell? ⟨g,j*7+4,none⟩=some nd.wt:=nc 4 _ rfl (by omega);have a5:w.cell? ⟨g,j*7+5,none⟩=some nd.en:=nc 5 _ rfl (by omega);have a6:w.cell? ⟨g,j*7+6,none⟩=some nd.nm:=nc 6 _ rfl (by omega);have hgf:∀i,w.frozen? ⟨g,i,none⟩=false:=fun i=>h.nodes.free ho i;have H0:=hid hno;obtain⟨nw,hnw⟩:∃nw,nw=R.past.length-1:=⟨_,rfl⟩;have HNW:Hid (∀W,Za (fun _=>False) w W→Calls Tryz.prog 77 #[.pointer (some ⟨b,0,none⟩)] W fun e w'=>e=.returned (.int .u64 (nw:Int))∧W=w'):=fun W hW=>by rw[hnw];exact Vv W b R (h.kept hW (fun _ _=>id)) hf
   have hgb:g≠b:=fun e=>h.nodes.ne_block h.blk (by decide) (by rw[ho,e]);have hbg:b≠g:=Ne.symm hgb;have hj0:(0:Int)≤(j:Int):=by omega
   have hj1:(j:Int)<(R.nodes.length:Int):=by omega
   have hpm:=hf.pmax;have hp0:=hf.pos;obtain⟨hh1,hh2⟩:=hb nd hmem;cases hup:nd.up with
   |false=>
    obtain⟨af,cf,hvf,_⟩:=(h.fls nd hmem).form;obtain⟨aw,cw,hvw,_⟩:=(h.wts nd hmem).form;obtain⟨ae,ce,hve,_⟩:=(h.ents nd hmem).form;obtain⟨am,cm,hvm,_⟩:=(h.nms nd hmem).form;have HR:Hid (Zm w b R j ⟨true,nw,nw,nd.fls,[],[],[]⟩ (Zi9 w g (j*7) nw (.slice af nd.fls.length cf)).drew):=by rw[←hvf];exact(h.rise hnd ho).kept ((Za.refl _ _).drew)
    have HRES:Hid (∀W',Zm w b R j ⟨true,nw,nw,nd.fls,[],[],[]⟩ W'→ZaP w b R (j:Int) (.returned (.tuple #[.int .u64 (nw:Int),.int .i64 0])) W'):=by
     intro W' hT;have e1:XI R.past nd.p=⟨true,nw,nw,nd.fls,[],[],[]⟩:=by unfold XI;rw[if_pos (show nd.p.up=false from hup),hnw];rfl
     exact .inr ⟨j,nd,rfl,hnd,by rw[e1],by rw[e1];exact hT⟩
    rw[hup]at a0;rw[hvf]at a3;rw[hvw]at a4;rw[hve]at a5;rw[hvm]at a6;generalize nd.fls.length=n3 at*
    generalize nd.wts.length=n4 at*
    generalize nd.ents.length=n5 at*
    generalize nd.nms.length=n6 at*
    generalize nd.since=n1 at*
    generalize nd.horizon=n2 at*
    clear h hf hb hno h0 hnd hnd' hmem hv ho hgl nc hnw hpm hp0 hh1 hh2 hup hvf hvw hve hvm;go_enter Tryz.func64,Tryz.ntmps64
    go_wp2_with first
     |(go_at_call 108;refine H0.out.mono ?_;rintro e w' ⟨rfl,rfl⟩)
     |(go_at_call 77;refine(HNW.out _ (Za.refl _ _)).mono ?_;rintro e w' ⟨rfl,rfl⟩)
    go_region
    all_goals
     go_wp2;go_ret2;exact HRES.out _ HR.out
   |true=>
    by_cases hlt:nd.horizon+1<R.past.length
    · have hHB:=hh2 hlt;have HHE:Hid (∀W,Za (fun _=>False) w W→Calls Tryz.prog 116 #[.pointer (some ⟨b,0,none⟩),.int .i64 (j:Int)] W fun e w'=>e=.returned (.tuple #[])∧w'.cell? ⟨b,3,none⟩=some (.slice (some ⟨g,0,none⟩) R.nodes.length cap)∧w'.cell? ⟨g,j*7+2,none⟩=some (.int .u64 ((Yo R.past nd.p).horizon:Int))∧Hid (Zm w b R j (Yo R.past nd.p) w')):=fun W hW=>(Zjs W b j R nd (h.kept hW (fun _ _=>id)) hf hnd hHB).mono fun e w' hp=>by
       obtain⟨_,_,_,_,q3,q2,_⟩:=hp.2.cells hjl hv ho;exact⟨hp.1,q3,q2,hp.2.from hW⟩
      have HRES:Hid (∀W',Zm w b R j (Yo R.past nd.p) W'→ZaP w b R (j:Int) (.returned (.tuple #[.int .u64 ((Yo R.past nd.p).horizon:Int),.int .i64 0])) W'):=by
       intro W' hT;have e1:XI R.past nd.p=Yo R.past nd.p:=by unfold XI;rw[if_neg (show¬nd.p.up=false by show¬nd.up=false;rw[hup];decide),if_pos (show nd.p.horizon<R.past.length-1 by show nd.horizon<_;omega)]
       exact .inr ⟨j,nd,rfl,hnd,by rw[e1],by rw[e1];exact hT⟩
      have hln:nd.horizon<nw:=by omega
      rw[hup]at a0;generalize (Yo R.past nd.p).horizon=H9 at HHE HRES;generalize Yo R.past nd.p=P9 at HHE HRES;generalize nd.horizon=n2 at*
      clear h hf hb hno h0 hnd hnd' hmem hv ho hgl nc hnw hpm hp0 hh1 hh2 hup hHB a1 a3 a4 a5 a6 hlt;go_enter Tryz.func64,Tryz.ntmps64
      go_wp2_with (go_at_call 108;refine H0.out.mono ?_;rintro e w' ⟨rfl,rfl⟩)
      go_region_with (go_at_call 77;refine(HNW.out _ ((Za.refl _ _).drewN _)).mono ?_;rintro e w' ⟨rfl,rfl⟩)
      all_goals
       go_wp2_with (go_at_call 116;refine(HHE.out _ ((Za.refl _ _).drewN _)).mono ?_;rintro e w9 ⟨rfl,q3,q2,HT⟩)
       go_ret2;exact HRES.out _ HT.out
    · have HRES:Hid (∀W',Za (fun _=>False) w W'→ZaP w b R (j:Int) (.returned (.tuple #[.int .u64 (nd.horizon:Int),.int .i64 0])) W'):=by
       intro W' hW;have e1:XI R.past nd.p=nd.p:=by unfold XI;rw[if_neg (show¬nd.p.up=false by show¬nd.up=false;rw[hup];decide),if_neg (show¬nd.p.horizon<R.past.length-1 by show¬nd.horizon<_;omega)]
       exact .inr ⟨j,nd,rfl,hnd,by rw[e1];rfl,by rw[e1];exact(Zm.refl h hnd).kept hW⟩
      have hln:¬nd.horizon<nw:=by omega
      rw[hup]at a0;generalize nd.horizon=n2 at*
      clear h hf hb hno h0 hnd hnd' hmem hv ho hgl nc hnw hpm hp0 hh1 hh2 hup a1 a3 a4 a5 a6 hlt;go_enter Tryz.func64,Tryz.ntmps64
      go_wp2_with (go_at_call 108;refine H0.out.mono ?_;rintro e w' ⟨rfl,rfl⟩)
      go_region_with (go_at_call 77;refine(HNW.out _ ((Za.refl _ _).drewN _)).mono ?_;rintro e w' ⟨rfl,rfl⟩)
      all_goals
       go_wp2;go_ret2;exact HRES.out _ ((Za.refl _ _).drewN _)
end Go.Proofs.YtpfcacedpkaihaaGreat
