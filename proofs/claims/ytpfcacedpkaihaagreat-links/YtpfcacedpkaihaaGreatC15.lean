import Derived.Laws.AppendOwnNone
import Derived.Test.YtpfcacedpkaihaaGreatC11
namespace Go.Proofs.YtpfcacedpkaihaaGreat
open Go.RowKit
set_option maxRecDepth 100000
set_option maxHeartbeats 16000000
theorem rboth (w:World)(a b c d:Nat):
 Calls Tryz.prog 95 #[.agg #[.int .u64 a,.int .u64 b],.agg #[.int .u64 c,.int .u64 d]] w fun e w'=>
  e=.returned (.tuple #[.agg #[.int .u64 ((max a c:Nat):Int),.int .u64 ((min b d:Nat):Int)],.bool (decide (((max a c:Nat):Int)≤((min b d:Nat):Int)))])∧Below w.heap.size w w':=by
 obtain⟨x,hx⟩:∃x,x=max a c:=⟨_,rfl⟩;obtain⟨y,hy⟩:∃y,y=min b d:=⟨_,rfl⟩;rw[←hx,←hy];by_cases h1:a<c
 · by_cases h2:d<b
   · obtain rfl:x=c:=by omega
     obtain rfl:y=d:=by omega
     clear hx hy;go_enter Tryz.func95,Tryz.ntmps95;go_wp2
     go_region
     all_goals
      go_wp2;refine bodyPost_ret (v:=.tuple #[.agg #[.int .u64 (x:Int),.int .u64 (y:Int)],.bool (decide ((x:Int)≤(y:Int)))]) (by simp[results,Tryz.results95,go_sem]) rfl ⟨rfl,?_⟩;exact((((Below.refl _ _).alloc (Nat.le_refl _) _).alloc (by simp) _).alloc (by simp;omega) _).drew
   · obtain rfl:x=c:=by omega
     obtain rfl:y=b:=by omega
     clear hx hy;go_enter Tryz.func95,Tryz.ntmps95;go_wp2
     go_region
     all_goals
      go_wp2;refine bodyPost_ret (v:=.tuple #[.agg #[.int .u64 (x:Int),.int .u64 (y:Int)],.bool (decide ((x:Int)≤(y:Int)))]) (by simp[results,Tryz.results95,go_sem]) rfl ⟨rfl,?_⟩;exact((((Below.refl _ _).alloc (Nat.le_refl _) _).alloc (by simp) _).alloc (by simp;omega) _).drew
 · by_cases h2:d<b
   · obtain rfl:x=a:=by omega
     obtain rfl:y=d:=by omega
     clear hx hy;go_enter Tryz.func95,Tryz.ntmps95;go_wp2
     go_region
     all_goals
      go_wp2;refine bodyPost_ret (v:=.tuple #[.agg #[.int .u64 (x:Int),.int .u64 (y:Int)],.bool (decide ((x:Int)≤(y:Int)))]) (by simp[results,Tryz.results95,go_sem]) rfl ⟨rfl,?_⟩;exact((((Below.refl _ _).alloc (Nat.le_refl _) _).alloc (by simp) _).alloc (by simp;omega) _).drew
   · obtain rfl:x=a:=by omega
     obtain rfl:y=b:=by omega
     clear hx hy;go_enter Tryz.func95,Tryz.ntmps95;go_wp2
     go_region
     all_goals
      go_wp2;refine bodyPost_ret (v:=.tuple #[.agg #[.int .u64 (x:Int),.int .u64 (y:Int)],.bool (decide ((x:Int)≤(y:Int)))]) (by simp[results,Tryz.results95,go_sem]) rfl ⟨rfl,?_⟩;exact((((Below.refl _ _).alloc (Nat.le_refl _) _).alloc (by simp) _).alloc (by simp;omega) _).drew
def Xf (w:World)(n:Nat)(l':List Zh)(e:Ending)(w':World):Prop:=
 ∃v,e=.returned v∧Row w' 55 6 v (n-1) (l'.flatMap Zk)∧Za (fun _=>False) w w'∧(∀x,v.ownBlock=some x→w.heap.size≤x)
theorem ZaM {w w1 w2:World}{n i m:Nat}{l:List Zh}{v1 v2:Value}(hl:l.length=n)(hi:i<n)(hm:m=n-(i+1))
 (h1:Row w1 55 6 v1 i ((l.take i).flatMap Zk)∧Za (fun _=>False) w w1∧(∀x,v1.ownBlock=some x→w.heap.size≤x))
 (hA:Zc w1 w2 55 6 v1 v2 i m ((l.take i).flatMap Zk) ((l.drop (i+1)).flatMap Zk)):Xf w n (l.eraseIdx i) (.returned v2) w2:=by
 refine⟨v2,rfl,?_,h1.2.1.trans hA.kept (fun _=>id) (fun x hx he=> ?_),fun x hx=> ?_⟩
 · have:=hA.row;rw[←List.flatMap_append,←List.eraseIdx_eq_take_drop_succ,show i+m=n-1 by omega]at this;exact this
 · have:=h1.2.2 x he;omega
 · rcases hA.own with e|e
   · exact h1.2.2 x (by rw[←e];exact hx)
   · exact Nat.le_trans h1.2.1.size (e x hx)
theorem ZeG (w:World)(g n cap i:Nat)(l:List Zh)(hr:Row w 55 6 (.slice (some ⟨g,0,none⟩) n cap) n (l.flatMap Zk))(hl:l.length=n)(hi:i<n)(hn:n≤1000)(hcap:n≤cap)(hcm:cap≤maxLen):
 Calls Tryz.prog 100 #[.slice (some ⟨g,0,none⟩) n cap,.int .i64 i] w fun e w'=>Xf w n (l.eraseIdx i) e w':=by
 unfold maxLen at hcm;obtain⟨i0,hi0,hz0,hz1,hz2⟩:=info_parts Tryz.infoEntry;have HI:Hid (Tryz.prog.info? 55=some i0∧i0.zero=some (.agg #[.string ByteArray.empty,.int .i32 0,.int .u64 0,.int .u64 0,.bool false,.int .u64 0])∧i0.size=6∧i0.bytes=56):=⟨hi0,hz0,hz1,hz2⟩;clear hi0 hz0 hz1 hz2;have HN1:Hid (∀j u,((l.take i).flatMap Zk)[j]?=some u→w.cell? ((⟨g,0,none⟩:Addr).add j)=some u):=by
  intro j u hj;have e:(⟨g,0,none⟩:Addr).add j=⟨g,j,none⟩:=by cases j<;>simp[Addr.add]
  rw[e];refine hr.cell rfl j u ?_;have hjl:=(List.getElem?_eq_some_iff.mp hj).1;rw[←List.take_append_drop i l,List.flatMap_append,List.getElem?_append_left hjl];exact hj
 have HL1:Hid (((l.take i).flatMap Zk).length=i*6):=by
  show _=_;rw[YJ Zk 6 (fun _=>rfl),List.length_take];congr 1;omega
 have hii:(i:Int)≤(cap:Int):=by omega
 have hii1:(i:Int)+1≤(n:Int):=by omega
 have hnc:(n:Int)≤(cap:Int):=by omega
 have b0:0+i≤maxLen:=by unfold maxLen;omega
 have b1:(0+i)*56≤140737488355328:=by omega
 have HL2:Hid (((l.drop (i+1)).flatMap Zk).length=(n-(i+1))*6):=by
  show _=_;rw[YJ Zk 6 (fun _=>rfl),List.length_drop,hl]
 have b2:i+(n-(i+1))≤maxLen:=by unfold maxLen;omega
 have b3:(i+(n-(i+1)))*56≤140737488355328:=by omega
 have HR:=hid hr;clear hr;by_cases hce:cap=i+1
 · have HN2:Hid (∀w1,Za (fun _=>False) w w1→∀j u,((l.drop (i+1)).flatMap Zk)[j]?=some u→w1.cell? ((⟨g,0,none⟩:Addr).add j)=some u):=by
    intro w1 _ j u hj;rw[List.drop_eq_nil_of_le (by omega)]at hj;simp at hj
   subst hce;obtain rfl:n=i+1:=by omega
   have HL3:Hid (((l.drop (i+1)).flatMap Zk).length=0*6):=by
    show _=_;rw[HL2.out];omega
   have b4:i+0≤maxLen:=by unfold maxLen;omega
   have b5:(i+0)*56≤140737488355328:=by omega
   go_enter Tryz.func100,Tryz.ntmps100
   go_wp2_with (first
    |(at_builtin;refine Zf _ rfl (.tmp 6) (.tmp 9) 51 rfl 55 i0 (.agg #[.string ByteArray.empty,.int .i32 0,.int .u64 0,.int .u64 0,.bool false,.int .u64 0]) 6 56 Tryz.underlying51 HI.out.1 HI.out.2.1 HI.out.2.2.1 HI.out.2.2.2 rfl (by decide) (.slice none 0 0) 0 [] rfl (Row.nil _ _ _) ⟨g,0,none⟩ i (i+1) ((l.take i).flatMap Zk) rfl HL1.out HN1.out (Y9 _) b0 b1 ?_;intro v1 w1 hA1;have H1:Hid (Row w1 55 6 v1 i ((l.take i).flatMap Zk)∧Za (fun _=>False) w w1∧(∀x,v1.ownBlock=some x→w.heap.size≤x)):=⟨by have:=hA1.row;rw[Nat.zero_add,List.nil_append]at this;exact this,hA1.kept.mono (fun k hk=>by simp[Value.ownBlock]at hk),fun x hx=>hA1.own.elim (fun e=>by rw[e]at hx;simp[Value.ownBlock]at hx) (fun e=>e x hx)⟩;clear hA1)
    |(at_builtin;refine Zf _ rfl (.tmp 11) (.tmp 15) 51 rfl 55 i0 (.agg #[.string ByteArray.empty,.int .i32 0,.int .u64 0,.int .u64 0,.bool false,.int .u64 0]) 6 56 Tryz.underlying51 HI.out.1 HI.out.2.1 HI.out.2.2.1 HI.out.2.2.2 rfl (by decide) _ i ((l.take i).flatMap Zk) rfl H1.out.1 ⟨g,0,none⟩ 0 0 ((l.drop (i+1)).flatMap Zk) rfl HL3.out (HN2.out w1 H1.out.2.1) (Y9 _) b4 b5 ?_;intro v2 w2 hA2;have H2:Hid (Xf w (i+1) (l.eraseIdx i) (.returned v2) w2):=ZaM hl hi (by omega) H1.out hA2;clear hA2))
   go_ret;exact H2.out
 · have HN2:Hid (∀w1,Za (fun _=>False) w w1→∀j u,((l.drop (i+1)).flatMap Zk)[j]?=some u→w1.cell? ((⟨g,(i+1)*6,none⟩:Addr).add j)=some u):=by
    intro w1 hk j u hj;have e:(⟨g,(i+1)*6,none⟩:Addr).add j=⟨g,(i+1)*6+j,none⟩:=by cases j<;>simp[Addr.add]
    rw[e];refine(HR.out.kept hk (fun _ _=>id)).cell rfl ((i+1)*6+j) u ?_;have hlen:((l.take (i+1)).flatMap Zk).length=(i+1)*6:=by rw[YJ Zk 6 (fun _=>rfl),List.length_take];congr 1;omega
    rw[←List.take_append_drop (i+1) l,List.flatMap_append,List.getElem?_append_right (by omega),hlen,Nat.add_sub_cancel_left];exact hj
   go_enter Tryz.func100,Tryz.ntmps100
   go_wp2_with (first
    |(at_builtin;refine Zf _ rfl (.tmp 6) (.tmp 9) 51 rfl 55 i0 (.agg #[.string ByteArray.empty,.int .i32 0,.int .u64 0,.int .u64 0,.bool false,.int .u64 0]) 6 56 Tryz.underlying51 HI.out.1 HI.out.2.1 HI.out.2.2.1 HI.out.2.2.2 rfl (by decide) (.slice none 0 0) 0 [] rfl (Row.nil _ _ _) ⟨g,0,none⟩ i cap ((l.take i).flatMap Zk) rfl HL1.out HN1.out (Y9 _) b0 b1 ?_;intro v1 w1 hA1;have H1:Hid (Row w1 55 6 v1 i ((l.take i).flatMap Zk)∧Za (fun _=>False) w w1∧(∀x,v1.ownBlock=some x→w.heap.size≤x)):=⟨by have:=hA1.row;rw[Nat.zero_add,List.nil_append]at this;exact this,hA1.kept.mono (fun k hk=>by simp[Value.ownBlock]at hk),fun x hx=>hA1.own.elim (fun e=>by rw[e]at hx;simp[Value.ownBlock]at hx) (fun e=>e x hx)⟩;clear hA1)
    |(at_builtin;refine Zf _ rfl (.tmp 11) (.tmp 15) 51 rfl 55 i0 (.agg #[.string ByteArray.empty,.int .i32 0,.int .u64 0,.int .u64 0,.bool false,.int .u64 0]) 6 56 Tryz.underlying51 HI.out.1 HI.out.2.1 HI.out.2.2.1 HI.out.2.2.2 rfl (by decide) _ i ((l.take i).flatMap Zk) rfl H1.out.1 ⟨g,(i+1)*6,none⟩ (n-(i+1)) (cap-(i+1)) ((l.drop (i+1)).flatMap Zk) rfl HL2.out (HN2.out w1 H1.out.2.1) (Y9 _) b2 b3 ?_;intro v2 w2 hA2;have H2:Hid (Xf w n (l.eraseIdx i) (.returned v2) w2):=ZaM hl hi rfl H1.out hA2;clear hA2))
   go_ret;exact H2.out
theorem Ref.c5 {w:World}{b:Nat}{R:Zd}(h:Ref w b R):w.cell? ⟨b,5,none⟩=some R.vu:=h.blk.cell 5
def Zd.setPuts (R:Zd)(l:List Zh)(v:Value):Zd:={R with puts:=l,vu:=v}
theorem Ref.setPuts {w w':World}{b:Nat}{R:Zd}(h:Ref w b R)(l:List Zh)(v:Value)(k:Za (fun _=>False) w w')(hr:Row w' 55 6 v l.length (l.flatMap Zk))(hown:∀x,v.ownBlock=some x→w.heap.size≤x):
 Ref (w'.setCell ⟨b,5,none⟩ v) b (R.setPuts l v)∧Za (R.fp b) w (w'.setCell ⟨b,5,none⟩ v)∧(∀x,(R.setPuts l v).fp b x→R.fp b x∨w.heap.size≤x):=
 h.put 3 5 ⟨55,6,R.vu,R.puts.length,R.puts.flatMap Zk⟩ ⟨55,6,v,l.length,l.flatMap Zk⟩ rfl (k.mono fun _=>False.elim) hr (fun x hx=>.inr (hown x hx)) rfl (by dsimp only;decide) rfl
def Zin (w:World)(b:Nat)(R:Zd)(i:Int)(e:Ending)(w':World):Prop:=
 ((i<0∨(R.puts.length:Int)≤i)∧e=.returned (.int .i64 10)∧w=w')∨
 (0≤i∧i<(R.puts.length:Int)∧e=.returned (.int .i64 0)∧∃v,Ref w' b (R.setPuts (R.puts.eraseIdx i.toNat) v)∧Za (R.fp b) w w'∧(∀x,(R.setPuts (R.puts.eraseIdx i.toNat) v).fp b x→R.fp b x∨w.heap.size≤x))
theorem rdrop (w:World)(b:Nat)(R:Zd)(i:Int)(h:Ref w b R)(hp:R.puts.length≤10):
 Calls Tryz.prog 44 #[.pointer (some ⟨b,0,none⟩),.int .i64 i] w fun e w'=>Zin w b R i e w':=by
 obtain⟨ao,cap,hv,_⟩:=h.puts.form;have c5:=h.c5;rw[hv]at c5;by_cases h0:i<0
 · have hd:decide (i<0)=true:=by simpa using h0
   clear h hv;go_enter Tryz.func44,Tryz.ntmps44;go_wp2;go_ret;exact .inl ⟨.inl h0,rfl,rfl⟩
 · have hd:decide (i<0)=false:=by simpa using h0
   by_cases h1:(R.puts.length:Int)≤i
   · have hd1:decide ((R.puts.length:Int)≤i)=true:=by simpa using h1
     clear h hv;go_enter Tryz.func44,Tryz.ntmps44;go_wp2;go_ret;exact .inl ⟨.inr h1,rfl,rfl⟩
   · have hd1:decide ((R.puts.length:Int)≤i)=false:=by simpa using h1
     obtain⟨j,rfl⟩:∃j:Nat,i=j:=⟨i.toNat,by omega⟩;have hjl:j<R.puts.length:=by omega
     rcases h.puts.shape with⟨_,hn,_⟩|⟨g,cp,cur,hv',hb,hcp,hcm,_⟩
     · omega
     rw[hv]at hv';injection hv' with e1 _ e2;subst e1;subst e2;have hrow:=h.puts;rw[hv]at hrow;have HWO:Hid (Calls Tryz.prog 100 #[.slice (some ⟨g,0,none⟩) R.puts.length cap,.int .i64 j] w fun e w'=>Xf w R.puts.length (R.puts.eraseIdx j) e w'):=ZeG w g R.puts.length cap j R.puts hrow rfl hjl (by omega) hcp hcm;have HR:=hid h;have hz:=h.blk.lt;clear h hv hb hrow;go_enter Tryz.func44,Tryz.ntmps44
     go_wp2_with (go_at_call 100;refine HWO.out.mono ?_;rintro e w1 ⟨v,rfl,hr1,hk1,ho1⟩;have hl1:(R.puts.eraseIdx j).length=R.puts.length-1:=List.length_eraseIdx_of_lt hjl;have HS:=HR.out.setPuts (R.puts.eraseIdx j) v hk1 (by rw[hl1];exact hr1) ho1;have HSH:Hid (Ref (w1.setCell ⟨b,5,none⟩ v) b (R.setPuts (R.puts.eraseIdx j) v)∧Za (R.fp b) w (w1.setCell ⟨b,5,none⟩ v)∧(∀x,(R.setPuts (R.puts.eraseIdx j) v).fp b x→R.fp b x∨w.heap.size≤x)):=HS;have bb:=(HR.out.blk.kept hk1 id);have k5:w1.cell? ⟨b,5,none⟩=some R.vu:=bb.cell 5;have f5:=bb.free 5;obtain⟨ao',cap',hv',_⟩:=hr1.form;clear bb hr1 hk1 ho1 HS hl1;subst hv')
     go_ret;exact .inr ⟨by omega,by omega,rfl,_,HSH.out⟩
theorem ZbH (w:World)(up:Bool)(since hz:Nat)(fl wt nm:Value)(ao:Option Addr)(cap:Nat)(q:ByteArray)(lo hi:Nat):
 Calls Tryz.prog 94 #[.agg #[.bool up,.int .u64 since,.int .u64 hz,fl,wt,.slice ao 0 cap,nm],.string q,.agg #[.int .u64 lo,.int .u64 hi]] w fun e w'=>
  e=.returned (.int .i64 (-1))∧Below w.heap.size w w':=by
 go_enter Tryz.func94,Tryz.ntmps94;go_wp2
 go_loopw [7,8] (fun v i wr=>v=.int .i64 (-1)∧i=.int .i64 0∧wr=(w.alloc (.cells #[.bool up,.int .u64 since,.int .u64 hz,fl,wt,.slice ao 0 cap,nm] 146)).alloc (.cells #[.int .u64 lo,.int .u64 hi] 88)) (fun _ _ _=>0)
 case atStart=>exact⟨rfl,rfl,rfl⟩
 case round=>
  obtain⟨rfl,rfl,rfl⟩:=hrel;go_wp2;go_ret;exact⟨rfl,((Below.refl _ _).alloc (Nat.le_refl _) _).alloc (by simp) _⟩
structure ZaB (w wr:World)(P:Nat)(e:Zh):Prop where
 low:Below w.heap.size w wr
 far:w.heap.size<P
 ans:Blk wr P 55 (Z8 e)
 res:Blk wr w.heap.size 55 Zbk
theorem ZaB.put {w wr:World}{P:Nat}{e e':Zh}(h:ZaB w wr P e)(f:Nat)(v:Value)(he:(Z8 e).setIfInBounds f v=Z8 e'):ZaB w (wr.setCell ⟨P,f,none⟩ v) P e':=
 ⟨⟨h.low.os,h.low.tape,h.low.output,by simpa[World.setCell]using h.low.size,fun k hk=>((Za.setCell wr ⟨P,f,none⟩ v).block k (Nat.lt_of_lt_of_le hk h.low.size) (by have:=h.far;simp only;omega)).trans (h.low.block k hk)⟩,h.far,by rw[←he];exact h.ans.set f v,h.res.kept (Za.setCell wr ⟨P,f,none⟩ v) (by have:=h.far;simp only;omega)⟩
theorem Zek {w w1:World}{c:Array Value}(h:Below (w.alloc (.cells c 55)).heap.size (w.alloc (.cells c 55)) w1):Below w.heap.size w w1∧Blk w1 w.heap.size 55 c∧w.heap.size<w1.heap.size:=by
 have e:(w.alloc (.cells c 55)).heap.size=w.heap.size+1:=by simp
 have k:Za (fun _=>False) (w.alloc (.cells c 55)) w1:=Za.of_below h _;have hs:=k.size;refine⟨((Za.alloc w _ (fun _=>False)).trans k (fun _=>id) (fun _ _=>id)).below (Nat.le_refl _) (fun _=>False.elim),(Blk.new w _ c).kept k id,by omega⟩
theorem Zfs {w w1 w2:World}{c:Array Value}(h1:Below w.heap.size w w1∧Blk w1 w.heap.size 55 c∧w.heap.size<w1.heap.size)(h:Below w1.heap.size w1 w2):Below w.heap.size w w2∧Blk w2 w.heap.size 55 c∧w.heap.size<w2.heap.size:=by
 have k:Za (fun _=>False) w1 w2:=Za.of_below h _;have hs:=k.size;refine⟨((Za.of_below h1.1 (fun _=>False)).trans k (fun _=>id) (fun _ _=>id)).below (Nat.le_refl _) (fun _=>False.elim),h1.2.1.kept k id,by omega⟩
theorem ZeD {w w2:World}{e:Zh}(h:Below w.heap.size w w2∧Blk w2 w.heap.size 55 Zbk∧w.heap.size<w2.heap.size):ZaB w (w2.alloc (.cells (Z8 e) 55)) w2.heap.size e:=
 ⟨((Za.of_below h.1 (fun _=>False)).trans (Za.alloc w2 _ (fun _=>False)) (fun _=>id) (fun _ _=>id)).below (Nat.le_refl _) (fun _=>False.elim),h.2.2,Blk.new w2 _ _,h.2.1.kept (Za.alloc w2 _ (fun _=>False)) id⟩
theorem Zhs {w wr:World}{P:Nat}{e:Zh}(h:ZaB w wr P e):
 Blk ((((((wr.setCell ⟨w.heap.size,0,none⟩ (.string e.q)).setCell ⟨w.heap.size,1,none⟩ (.int .i32 e.val)).setCell ⟨w.heap.size,2,none⟩ (.int .u64 (e.fr:Int))).setCell ⟨w.heap.size,3,none⟩ (.int .u64 (e.till:Int))).setCell ⟨w.heap.size,4,none⟩ (.bool e.op)).setCell ⟨w.heap.size,5,none⟩ (.int .u64 (e.kn:Int))) w.heap.size 55 (Z8 e)∧
 Below w.heap.size w ((((((wr.setCell ⟨w.heap.size,0,none⟩ (.string e.q)).setCell ⟨w.heap.size,1,none⟩ (.int .i32 e.val)).setCell ⟨w.heap.size,2,none⟩ (.int .u64 (e.fr:Int))).setCell ⟨w.heap.size,3,none⟩ (.int .u64 (e.till:Int))).setCell ⟨w.heap.size,4,none⟩ (.bool e.op)).setCell ⟨w.heap.size,5,none⟩ (.int .u64 (e.kn:Int))):=by
 have st:∀(a:World)(f:Nat)(v:Value),Za (fun k=>k=w.heap.size) w a→Za (fun k=>k=w.heap.size) w (a.setCell ⟨w.heap.size,f,none⟩ v):=fun a f v ha=>ha.trans (Za.setCell a _ v) (fun _=>id) (fun _ _ hk=>hk);exact⟨(((((h.res.set 0 _).set 1 _).set 2 _).set 3 _).set 4 _).set 5 _,(st _ _ _ (st _ _ _ (st _ _ _ (st _ _ _ (st _ _ _ (st _ _ _ (Za.of_below h.low _))))))).below (Nat.le_refl _) (fun k hk=>by omega)⟩
theorem rright (w:World)(b:Nat)(R:Zd)(q:ByteArray)(l:Value)(t:Nat)(p:Zj)(K val:Int)(h:Ref w b R)(hf:R.Fit)(hp:R.past[t]?=some p)(hl:∃ao n cap,l=.slice ao n cap)
 (hK:∀W,Below w.heap.size w W→Calls Tryz.prog 73 #[l] W fun e w'=>e=.returned (.int .u8 K)∧Below W.heap.size W w')
 (hW:∀W,Below w.heap.size w W→Calls Tryz.prog 140 #[l,.agg #[.int .i32 (p.st 0),.int .i32 (p.st 1),.int .i32 (p.st 2),.int .i32 (p.st 3),.int .i32 (p.st 4),.int .i32 (p.st 5),.int .i32 (p.st 6),.int .i32 (p.st 7)]] W fun e w'=>e=.returned (.int .i32 val)∧Below W.heap.size W w'):
 Calls Tryz.prog 97 #[.pointer (some ⟨b,0,none⟩),.string q,l,.int .u64 t] w fun e w'=>
  e=.returned (.agg (Z8 (Uf R.past q K val t)))∧Below w.heap.size w w':=by
 obtain⟨lo,ln,lc,rfl⟩:=hl;obtain⟨hlt,hp'⟩:=List.getElem?_eq_some_iff.mp hp;have hm:=hf.pmax;obtain⟨g,cap,hv,ho,_⟩:=h.past.block (by omega);have HK:=hid hK;have HW:=hid hW;have HR:Hid (∀W,Below w.heap.size w W→Ref W b R):=fun W hb=>h.kept (Za.of_below hb (fun _=>False)) fun _ _=>id;have HN:Hid (∀W,Below w.heap.size w W→Calls Tryz.prog 77 #[.pointer (some ⟨b,0,none⟩)] W fun e w'=>e=.returned (.int .u64 ((R.past.length-1:Nat):Int))∧W=w'):=fun W hb=>Vv W b R (HR.out W hb) hf;have HT:Hid (∀W,Below w.heap.size w W→∀f:Nat,f<R.past.length→Calls Tryz.prog 141 #[.pointer (some ⟨b,0,none⟩),.int .u64 f,.int .u8 K] W fun e w'=>e=.returned (.bool (ZU R.past K f))∧W=w'):=by
  intro W hb f hf2;have hq:R.past[f]?=some R.past[f]:=List.getElem?_eq_getElem hf2;rw[Xb K hq];exact Zci W b R f K _ (HR.out W hb) hf hq
 have HC:Hid (∀W,Below w.heap.size w W→W.cell? ⟨b,0,none⟩=some (.slice (some ⟨g,0,none⟩) R.past.length cap)∧W.cell? ⟨g,t*10,none⟩=some (.int .i32 (p.st 0))∧W.cell? ⟨g,t*10+1,none⟩=some (.int .i32 (p.st 1))∧W.cell? ⟨g,t*10+2,none⟩=some (.int .i32 (p.st 2))∧W.cell? ⟨g,t*10+3,none⟩=some (.int .i32 (p.st 3))∧
  W.cell? ⟨g,t*10+4,none⟩=some (.int .i32 (p.st 4))∧W.cell? ⟨g,t*10+5,none⟩=some (.int .i32 (p.st 5))∧W.cell? ⟨g,t*10+6,none⟩=some (.int .i32 (p.st 6))∧W.cell? ⟨g,t*10+7,none⟩=some (.int .i32 (p.st 7))):=by
  intro W hb;have hr:=HR.out W hb;have hc:∀f,f<10→∀u,(Zx p)[f]?=some u→W.cell? ⟨g,t*10+f,none⟩=some u:=fun f hf u hu=>hr.past.cell ho _ u (by rw[Vk R.past t hlt f hf,hp'];exact hu);exact⟨by rw[hr.c0,hv],hc 0 (by omega) _ rfl,hc 1 (by omega) _ rfl,hc 2 (by omega) _ rfl,hc 3 (by omega) _ rfl,hc 4 (by omega) _ rfl,hc 5 (by omega) _ rfl,hc 6 (by omega) _ rfl,hc 7 (by omega) _ rfl⟩
 have hpos:=hf.pos;clear hK hW h hf hp hp' hv ho;go_enter Tryz.func97,Tryz.ntmps97
 go_wp2_with first
  |(go_at_call 73;refine(HK.out _ ((Below.refl _ _).alloc (Nat.le_refl _) _)).mono ?_;rintro e w1 ⟨rfl,hb1⟩;have HB1:Hid (Below w.heap.size w w1∧Blk w1 w.heap.size 55 Zbk∧w.heap.size<w1.heap.size):=Zek hb1;clear hb1;obtain⟨c0,s0,s1,s2,s3,s4,s5,s6,s7⟩:=HC.out w1 HB1.out.1)
  |(go_at_call 140;refine(HW.out _ HB1.out.1).mono ?_;rintro e w2 ⟨rfl,hb2⟩;have HB2:Hid (Below w.heap.size w w2∧Blk w2 w.heap.size 55 Zbk∧w.heap.size<w2.heap.size):=Zfs HB1.out hb2;clear hb2 c0 s0 s1 s2 s3 s4 s5 s6 s7)
  |(go_at_call 77;refine(HN.out _ HB2.out.1).mono ?_;rintro e w3 ⟨rfl,rfl⟩)
 go_loopw [11] (fun i wr=>∃f:Nat,f≤t∧i=.int .u64 (f+1:Nat)∧Hid (ZaB w wr w2.heap.size {q:=q,val:=val,fr:=fromN R.past K f,till:=0,op:=true,kn:=R.past.length-1})) (fun i _=>t+1-(intOf i).toNat)
 case atStart=>exact⟨0,Nat.zero_le _,rfl,ZeD (e:=⟨q,val,0,0,true,R.past.length-1⟩) HB2.out⟩
 case round=>
  obtain⟨f,hft,rfl,HM⟩:=hrel;by_cases hlt2:f<t
  · have f2:=HM.out.ans.free 2;have a2:wr.cell? ⟨w2.heap.size,2,none⟩=some (.int .u64 (fromN R.past K f:Int)):=HM.out.ans.cell 2;have HF:Hid (fromN R.past K (f+1)=if ZU R.past K (f+1)then f+1 else fromN R.past K f):=rfl;have HT1:Hid (Calls Tryz.prog 141 #[.pointer (some ⟨b,0,none⟩),.int .u64 ((f+1:Nat):Int),.int .u8 K] wr fun e w'=>e=.returned (.bool (ZU R.past K (f+1)))∧wr=w'):=HT.out wr HM.out.low (f+1) (by omega);cases hy:ZU R.past K (f+1)with
    |true=>
     rw[hy]at HT1 HF;clear hy
     go_wp2_with (go_at_call 141;refine HT1.out.mono ?_;rintro e w' ⟨rfl,rfl⟩)
     go_roundw
     case rel=>exact⟨f+1,by omega,by go_num,by rw[HF.out];exact HM.out.put 2 _ rfl⟩
     case measure=>simp[intOf];omega
    |false=>
     rw[hy]at HT1 HF;clear hy
     go_wp2_with (go_at_call 141;refine HT1.out.mono ?_;rintro e w' ⟨rfl,rfl⟩)
     go_roundw
     case rel=>exact⟨f+1,by omega,by go_num,by rw[HF.out];exact HM.out⟩
     case measure=>simp[intOf];omega
  · obtain rfl:f=t:=by omega
    go_wp2_with (go_at_call 77;refine(HN.out _ HM.out.low).mono ?_;rintro e w3 ⟨rfl,rfl⟩)
    go_loopw [13] (fun i wr=>∃n:Nat,n≤R.past.length-1-f∧i=.int .u64 (R.past.length-1-n:Nat)∧Hid (ZaB w wr w2.heap.size {q:=q,val:=val,fr:=fromN R.past K f,till:=(Yg R.past K n).getD 0,op:=(Yg R.past K n).isNone,kn:=R.past.length-1})) (fun i _=>(intOf i).toNat)
    case atStart=>exact⟨0,Nat.zero_le _,rfl,HM⟩
    case round=>
     obtain⟨n,hn,rfl,HM2⟩:=hrel;by_cases hlt3:n<R.past.length-1-f
     · obtain⟨x,hx⟩:∃x,x=R.past.length-1-n:=⟨_,rfl⟩;have hx1:f<x:=by omega
       have hx2:x<R.past.length:=by omega
       have HX:=hid hx;have f3:=HM2.out.ans.free 3;have f4:=HM2.out.ans.free 4;have HT1:Hid (Calls Tryz.prog 141 #[.pointer (some ⟨b,0,none⟩),.int .u64 (x:Int),.int .u8 K] wr fun e w'=>e=.returned (.bool (ZU R.past K x))∧wr=w'):=HT.out wr HM2.out.low x (by omega);have a3:wr.cell? ⟨w2.heap.size,3,none⟩=some (.int .u64 ((Yg R.past K n).getD 0:Nat)):=HM2.out.ans.cell 3;have a4:wr.cell? ⟨w2.heap.size,4,none⟩=some (.bool (Yg R.past K n).isNone):=HM2.out.ans.cell 4;have HF:Hid (Yg R.past K (n+1)=if ZU R.past K x then some x else Yg R.past K n):=by rw[HX.out];exact rfl
       rw[←hx];clear hx;cases hy:ZU R.past K x with
       |true=>
        rw[hy]at HT1 HF;clear hy
        go_wp2_with (go_at_call 141;refine HT1.out.mono ?_;rintro e w' ⟨rfl,rfl⟩)
        go_roundw
        case rel=>exact⟨n+1,by omega,by have:=HX.out;go_num,by rw[HF.out];exact(HM2.out.put 4 (e':={q:=q,val:=val,fr:=fromN R.past K f,till:=(Yg R.past K n).getD 0,op:=false,kn:=R.past.length-1}) (.bool false) rfl).put 3 _ rfl⟩
        case measure=>simp[intOf];omega
       |false=>
        rw[hy]at HT1 HF;clear hy
        go_wp2_with (go_at_call 141;refine HT1.out.mono ?_;rintro e w' ⟨rfl,rfl⟩)
        go_roundw
        case rel=>exact⟨n+1,by omega,by have:=HX.out;go_num,by rw[HF.out];exact HM2.out⟩
        case measure=>simp[intOf];omega
     · obtain⟨x,hx⟩:∃x,x=R.past.length-1-n:=⟨_,rfl⟩;have hx1:x=f:=by omega
       have hnn:n=R.past.length-1-f:=by omega
       rw[←hx,hx1];have HN2:=hid hnn;obtain⟨e1,he1⟩:∃e1:Zh,e1={q:=q,val:=val,fr:=fromN R.past K f,till:=(Yg R.past K n).getD 0,op:=(Yg R.past K n).isNone,kn:=R.past.length-1}:=⟨_,rfl⟩;rw[←he1]at HM2;have HE:Hid (e1=Uf R.past q K val f):=by rw[he1,hnn];exact rfl
       have b0:wr.cell? ⟨w2.heap.size,0,none⟩=some (.string e1.q):=HM2.out.ans.cell 0;have b1:wr.cell? ⟨w2.heap.size,1,none⟩=some (.int .i32 e1.val):=HM2.out.ans.cell 1;have b2:wr.cell? ⟨w2.heap.size,2,none⟩=some (.int .u64 (e1.fr:Int)):=HM2.out.ans.cell 2;have b3:wr.cell? ⟨w2.heap.size,3,none⟩=some (.int .u64 (e1.till:Int)):=HM2.out.ans.cell 3;have b4:wr.cell? ⟨w2.heap.size,4,none⟩=some (.bool e1.op):=HM2.out.ans.cell 4;have b5:wr.cell? ⟨w2.heap.size,5,none⟩=some (.int .u64 (e1.kn:Int)):=HM2.out.ans.cell 5;have r0:wr.cell? ⟨w.heap.size,0,none⟩=some (.string ⟨#[]⟩):=HM2.out.res.cell 0;have r1:wr.cell? ⟨w.heap.size,1,none⟩=some (.int .i32 0):=HM2.out.res.cell 1;have r2:wr.cell? ⟨w.heap.size,2,none⟩=some (.int .u64 0):=HM2.out.res.cell 2;have r3:wr.cell? ⟨w.heap.size,3,none⟩=some (.int .u64 0):=HM2.out.res.cell 3;have r4:wr.cell? ⟨w.heap.size,4,none⟩=some (.bool false):=HM2.out.res.cell 4;have r5:wr.cell? ⟨w.heap.size,5,none⟩=some (.int .u64 0):=HM2.out.res.cell 5;have g0:=HM2.out.res.free 0;have g1:=HM2.out.res.free 1;have g2:=HM2.out.res.free 2;have g3:=HM2.out.res.free 3;have g4:=HM2.out.res.free 4;have g5:=HM2.out.res.free 5;clear hx hx1 hnn he1;go_wp2;obtain⟨hB,hL⟩:=Zhs HM2.out;generalize World.setCell _ _ (Value.int .u64 (e1.kn:Int))=W at hB hL⊢;have q0:W.cell? ⟨w.heap.size,0,none⟩=some (.string e1.q):=hB.cell 0;have q1:W.cell? ⟨w.heap.size,1,none⟩=some (.int .i32 e1.val):=hB.cell 1;have q2:W.cell? ⟨w.heap.size,2,none⟩=some (.int .u64 (e1.fr:Int)):=hB.cell 2;have q3:W.cell? ⟨w.heap.size,3,none⟩=some (.int .u64 (e1.till:Int)):=hB.cell 3;have q4:W.cell? ⟨w.heap.size,4,none⟩=some (.bool e1.op):=hB.cell 4;have q5:W.cell? ⟨w.heap.size,5,none⟩=some (.int .u64 (e1.kn:Int)):=hB.cell 5;rw[←HE.out];refine bodyPost_ret (v:=.agg (Z8 e1)) (by simp[results,Tryz.results97,go_sem,q0,q1,q2,q3,q4,q5,Z8]) rfl ⟨rfl,hL⟩
theorem VX (w:World)(b:Nat)(R:Zd)(k:Int)(h:Ref w b R):
 Calls Tryz.prog 108 #[.pointer (some ⟨b,0,none⟩),.int .i64 k] w fun e w'=>e=.returned (.bool (decide (k<0∨(R.nodes.length:Int)≤k)))∧w=w':=by
 obtain⟨ao,cap,hv,_⟩:=h.nodes.form;have c3:w.cell? ⟨b,3,none⟩=some R.vn:=h.blk.cell 3;rw[hv]at c3;by_cases h0:k<0
 · have hd:decide (k<0)=true:=by simpa using h0
   rw[decide_eq_true (.inl h0)];clear h hv;go_enter Tryz.func108,Tryz.ntmps108;go_wp2;go_ret;exact⟨rfl,rfl⟩
 · have hd:decide (k<0)=false:=by simpa using h0
   by_cases h1:(R.nodes.length:Int)≤k
   · have hd1:decide ((R.nodes.length:Int)≤k)=true:=by simpa using h1
     rw[decide_eq_true (.inr h1)];clear h hv;go_enter Tryz.func108,Tryz.ntmps108;go_wp2;go_ret;exact⟨rfl,rfl⟩
   · have hd1:decide ((R.nodes.length:Int)≤k)=false:=by simpa using h1
     rw[decide_eq_false (by omega)];clear h hv;go_enter Tryz.func108,Tryz.ntmps108;go_wp2;go_ret;exact⟨rfl,rfl⟩
theorem Zj1 (w:World)(x p:Zh):
 Calls Tryz.prog 103 #[.agg (Z8 x),.agg (Z8 p)] w fun e w'=>e=.returned (.agg (Z8 (ZT x p)))∧Za (fun _=>False) w w':=by
 obtain⟨m,hm⟩:∃m,m=ZT x p:=⟨_,rfl⟩;rw[←hm];obtain⟨xq,xv,xf,xt,xo,xk⟩:=x;obtain⟨pq,pv,pf,pt,po,pk⟩:=p;show Calls Tryz.prog 103 #[.agg #[.string xq,.int .i32 xv,.int .u64 (xf:Int),.int .u64 (xt:Int),.bool xo,.int .u64 (xk:Int)],.agg #[.string pq,.int .i32 pv,.int .u64 (pf:Int),.int .u64 (pt:Int),.bool po,.int .u64 (pk:Int)]] w _;by_cases hk:xk<pk
 · have hd:decide ((xk:Int)<(pk:Int))=true:=by simpa using hk
   have hmx:max xk pk=pk:=by omega
   cases xo<;>cases po<;>
   · go_enter Tryz.func103,Tryz.ntmps103;go_wp2;refine bodyPost_ret (v:=.agg (Z8 m)) (by rw[hm];simp[results,Tryz.results103,go_sem,ZT,Z8,hmx]) rfl ⟨rfl,ZgV w _ _ _⟩
 · have hd:decide ((xk:Int)<(pk:Int))=false:=by simpa using hk
   have hmx:max xk pk=xk:=by omega
   cases xo<;>cases po<;>
   · go_enter Tryz.func103,Tryz.ntmps103;go_wp2;refine bodyPost_ret (v:=.agg (Z8 m)) (by rw[hm];simp[results,Tryz.results103,go_sem,ZT,Z8,hmx]) rfl ⟨rfl,ZgV w _ _ _⟩
def YY (l:List Int)(x:Int):Nat→Int
 |0=> -1
 |n+1=>if l[n]?=some x then(n:Int)else YY l x n
theorem ZiW (w:World)(b:Nat)(R:Zd)(x:Int)(h:Ref w b R)(hu:R.uses.length≤4611686018427387904):
 Calls Tryz.prog 148 #[.pointer (some ⟨b,0,none⟩),.int .i64 x] w fun e w'=>e=.returned (.int .i64 (YY R.uses x R.uses.length))∧w=w':=by
 obtain⟨ao,cap,hv,_⟩:=h.uses.form;have c6:w.cell? ⟨b,6,none⟩=some R.vs:=h.blk.cell 6;rw[hv]at c6;have HU:Hid (∀i (hi:i<R.uses.length),∃g,ao=some ⟨g,0,none⟩∧w.cell? ⟨g,i,none⟩=some (.int .i64 R.uses[i])):=by
  intro i hi;obtain⟨g,cp,e1,e2,_⟩:=h.uses.block (by omega);rw[hv]at e1;injection e1 with e1 _ _;exact⟨g,e1,h.uses.cell e2 i _ (by rw[ZQ,List.getElem?_map,List.getElem?_eq_getElem hi];rfl)⟩
 clear h hv;go_enter Tryz.func148,Tryz.ntmps148;go_wp2
 go_loop [5,6] (fun a i=>∃k:Nat,k≤R.uses.length∧i=.int .i64 k∧a=.int .i64 (YY R.uses x k)) (fun _ i=>R.uses.length-(intOf i).toNat)
 case atStart=>exact⟨0,Nat.zero_le _,rfl,rfl⟩
 case round=>
  obtain⟨k,hk,rfl,rfl⟩:=hrel;by_cases hlt:k<R.uses.length
  · obtain⟨g,hg,cg⟩:=HU.out k hlt;subst hg;have hg1:R.uses[k]?=some R.uses[k]:=List.getElem?_eq_getElem hlt;generalize R.uses[k]=y at*
    by_cases hxy:y=x
    · have HL:Hid (YY R.uses x (k+1)=(k:Int)):=by show _=_;rw[YY,hg1,if_pos (by rw[hxy])]
      subst hxy;clear hg1;go_wp2
      go_round
      case rel=>exact⟨k+1,by omega,by go_num,by rw[HL.out]⟩
      case measure=>simp[intOf];omega
    · have HL:Hid (YY R.uses x (k+1)=YY R.uses x k):=by show _=_;rw[YY,hg1,if_neg (by simpa using hxy)]
      have hb:(y==x)=false:=beq_eq_false_iff_ne.mpr hxy;clear hg1;go_wp2
      go_round
      case rel=>exact⟨k+1,by omega,by go_num,by rw[HL.out]⟩
      case measure=>simp[intOf];omega
  · have hkk:k=R.uses.length:=by omega
    subst hkk;go_wp2;go_ret;exact⟨rfl,rfl⟩
theorem Zew (w:World)(b:Nat)(up:Bool)(since hz:Nat)(fl wt en nm:Value)(p:Zh)(hp:p.op=false∨hz≤p.kn):
 Calls Tryz.prog 102 #[.pointer (some ⟨b,0,none⟩),.agg #[.bool up,.int .u64 (since:Int),.int .u64 (hz:Int),fl,wt,en,nm],.agg (Z8 p)] w fun e w'=>e=.returned (.tuple #[.agg (Z8 p),.bool true])∧Za (fun _=>False) w w':=by
 obtain⟨pq,pv,pf,pt,po,pk⟩:=p;show Calls Tryz.prog 102 #[.pointer (some ⟨b,0,none⟩),.agg #[.bool up,.int .u64 (since:Int),.int .u64 (hz:Int),fl,wt,en,nm],.agg #[.string pq,.int .i32 pv,.int .u64 (pf:Int),.int .u64 (pt:Int),.bool po,.int .u64 (pk:Int)]] w _;cases po with
 |false=>
  go_enter Tryz.func102,Tryz.ntmps102;go_wp2;refine bodyPost_ret (v:=.tuple #[.agg (Z8 ⟨pq,pv,pf,pt,false,pk⟩),.bool true]) (by simp[results,Tryz.results102,go_sem,Z8]) rfl ⟨rfl,ZgV w _ _ _⟩
 |true=>
  have hle:hz≤pk:=by rcases hp with h|h; · cases h
                     · exact h
  have hd:decide ((hz:Int)≤(pk:Int))=true:=by simpa using hle
  go_enter Tryz.func102,Tryz.ntmps102;go_wp2;refine bodyPost_ret (v:=.tuple #[.agg (Z8 ⟨pq,pv,pf,pt,true,pk⟩),.bool true]) (by simp[results,Tryz.results102,go_sem,Z8]) rfl ⟨rfl,ZgV w _ _ _⟩
theorem Tryz.infoI :(Tryz.prog.info? 3).map (fun i=>(i.zero,i.size,i.bytes))=some (some (.int .i64 0),1,8):=by kernel_rfl
theorem Vj (l:List Int):∀u∈ZQ l,u.oneCell'=true:=by
 intro u hu;simp[ZQ]at hu;obtain⟨a,_,rfl⟩:=hu;rfl
theorem Zcq (a b:List Int):ZQ (a++b)=ZQ a++ZQ b:=List.map_append
theorem Zce (l:List Int):(ZQ l).length=l.length*1:=by simp[ZQ]
def Xl (w:World)(n:Nat)(l':List Int)(e:Ending)(w':World):Prop:=
 ∃v,e=.returned v∧Row w' 3 1 v (n-1) (ZQ l')∧Za (fun _=>False) w w'∧(∀x,v.ownBlock=some x→w.heap.size≤x)
theorem Zas {w w1 w2:World}{n i m:Nat}{l:List Int}{v1 v2:Value}(hl:l.length=n)(hi:i<n)(hm:m=n-(i+1))
 (h1:Row w1 3 1 v1 i (ZQ (l.take i))∧Za (fun _=>False) w w1∧(∀x,v1.ownBlock=some x→w.heap.size≤x))
 (hA:Zc w1 w2 3 1 v1 v2 i m (ZQ (l.take i)) (ZQ (l.drop (i+1)))):Xl w n (l.eraseIdx i) (.returned v2) w2:=by
 refine⟨v2,rfl,?_,h1.2.1.trans hA.kept (fun _=>id) (fun x hx he=> ?_),fun x hx=> ?_⟩
 · have:=hA.row;rw[←Zcq,←List.eraseIdx_eq_take_drop_succ,show i+m=n-1 by omega]at this;exact this
 · have:=h1.2.2 x he;omega
 · rcases hA.own with e|e
   · exact h1.2.2 x (by rw[←e];exact hx)
   · exact Nat.le_trans h1.2.1.size (e x hx)
theorem Zfl (w:World)(g n cap i:Nat)(l:List Int)(hr:Row w 3 1 (.slice (some ⟨g,0,none⟩) n cap) n (ZQ l))(hl:l.length=n)(hi:i<n)(hn:n≤1000)(hcap:n≤cap)(hcm:cap≤maxLen):
 Calls Tryz.prog 147 #[.slice (some ⟨g,0,none⟩) n cap,.int .i64 i] w fun e w'=>Xl w n (l.eraseIdx i) e w':=by
 unfold maxLen at hcm;obtain⟨i0,hi0,hz0,hz1,hz2⟩:=info_parts Tryz.infoI;have HI:Hid (Tryz.prog.info? 3=some i0∧i0.zero=some (.int .i64 0)∧i0.size=1∧i0.bytes=8):=⟨hi0,hz0,hz1,hz2⟩;clear hi0 hz0 hz1 hz2;have HN1:Hid (∀j u,(ZQ (l.take i))[j]?=some u→w.cell? ((⟨g,0,none⟩:Addr).add j)=some u):=by
  intro j u hj;have e:(⟨g,0,none⟩:Addr).add j=⟨g,j,none⟩:=by cases j<;>simp[Addr.add]
  rw[e];refine hr.cell rfl j u ?_;have hjl:=(List.getElem?_eq_some_iff.mp hj).1;rw[←List.take_append_drop i l,Zcq,List.getElem?_append_left hjl];exact hj
 have HL1:Hid ((ZQ (l.take i)).length=i*1):=by
  show _=_;rw[Zce,List.length_take];congr 1;omega
 have hii:(i:Int)≤(cap:Int):=by omega
 have hii1:(i:Int)+1≤(n:Int):=by omega
 have hnc:(n:Int)≤(cap:Int):=by omega
 have b0:0+i≤maxLen:=by unfold maxLen;omega
 have b1:(0+i)*8≤140737488355328:=by omega
 have HL2:Hid ((ZQ (l.drop (i+1))).length=(n-(i+1))*1):=by
  show _=_;rw[Zce,List.length_drop,hl]
 have b2:i+(n-(i+1))≤maxLen:=by unfold maxLen;omega
 have b3:(i+(n-(i+1)))*8≤140737488355328:=by omega
 have HR:=hid hr;clear hr;by_cases hce:cap=i+1
 · have HN2:Hid (∀w1,Za (fun _=>False) w w1→∀j u,(ZQ (l.drop (i+1)))[j]?=some u→w1.cell? ((⟨g,0,none⟩:Addr).add j)=some u):=by
    intro w1 _ j u hj;rw[List.drop_eq_nil_of_le (by omega)]at hj;simp[ZQ]at hj
   subst hce;obtain rfl:n=i+1:=by omega
   have HL3:Hid ((ZQ (l.drop (i+1))).length=0*1):=by
    show _=_;rw[HL2.out];omega
   have b4:i+0≤maxLen:=by unfold maxLen;omega
   have b5:(i+0)*8≤140737488355328:=by omega
   go_enter Tryz.func147,Tryz.ntmps147
   go_wp2_with (first
    |(at_builtin;refine Zf _ rfl (.tmp 6) (.tmp 9) 24 rfl 3 i0 (.int .i64 0) 1 8 Tryz.underlying24 HI.out.1 HI.out.2.1 HI.out.2.2.1 HI.out.2.2.2 rfl (by decide) (.slice none 0 0) 0 [] rfl (Row.nil _ _ _) ⟨g,0,none⟩ i (i+1) (ZQ (l.take i)) rfl HL1.out HN1.out (Vj _) b0 b1 ?_;intro v1 w1 hA1;have H1:Hid (Row w1 3 1 v1 i (ZQ (l.take i))∧Za (fun _=>False) w w1∧(∀x,v1.ownBlock=some x→w.heap.size≤x)):=⟨by have:=hA1.row;rw[Nat.zero_add,List.nil_append]at this;exact this,hA1.kept.mono (fun k hk=>by simp[Value.ownBlock]at hk),fun x hx=>hA1.own.elim (fun e=>by rw[e]at hx;simp[Value.ownBlock]at hx) (fun e=>e x hx)⟩;clear hA1)
    |(at_builtin;refine Zf _ rfl (.tmp 11) (.tmp 15) 24 rfl 3 i0 (.int .i64 0) 1 8 Tryz.underlying24 HI.out.1 HI.out.2.1 HI.out.2.2.1 HI.out.2.2.2 rfl (by decide) _ i (ZQ (l.take i)) rfl H1.out.1 ⟨g,0,none⟩ 0 0 (ZQ (l.drop (i+1))) rfl HL3.out (HN2.out w1 H1.out.2.1) (Vj _) b4 b5 ?_;intro v2 w2 hA2;have H2:Hid (Xl w (i+1) (l.eraseIdx i) (.returned v2) w2):=Zas hl hi (by omega) H1.out hA2;clear hA2))
   go_ret;exact H2.out
 · have HN2:Hid (∀w1,Za (fun _=>False) w w1→∀j u,(ZQ (l.drop (i+1)))[j]?=some u→w1.cell? ((⟨g,i+1,none⟩:Addr).add j)=some u):=by
    intro w1 hk j u hj;have e:(⟨g,i+1,none⟩:Addr).add j=⟨g,i+1+j,none⟩:=by cases j<;>simp[Addr.add]
    rw[e];refine(HR.out.kept hk (fun _ _=>id)).cell rfl (i+1+j) u ?_;have hlen:(ZQ (l.take (i+1))).length=i+1:=by rw[Zce,List.length_take];omega
    rw[←List.take_append_drop (i+1) l,Zcq,List.getElem?_append_right (by omega),hlen,Nat.add_sub_cancel_left];exact hj
   go_enter Tryz.func147,Tryz.ntmps147
   go_wp2_with (first
    |(at_builtin;refine Zf _ rfl (.tmp 6) (.tmp 9) 24 rfl 3 i0 (.int .i64 0) 1 8 Tryz.underlying24 HI.out.1 HI.out.2.1 HI.out.2.2.1 HI.out.2.2.2 rfl (by decide) (.slice none 0 0) 0 [] rfl (Row.nil _ _ _) ⟨g,0,none⟩ i cap (ZQ (l.take i)) rfl HL1.out HN1.out (Vj _) b0 b1 ?_;intro v1 w1 hA1;have H1:Hid (Row w1 3 1 v1 i (ZQ (l.take i))∧Za (fun _=>False) w w1∧(∀x,v1.ownBlock=some x→w.heap.size≤x)):=⟨by have:=hA1.row;rw[Nat.zero_add,List.nil_append]at this;exact this,hA1.kept.mono (fun k hk=>by simp[Value.ownBlock]at hk),fun x hx=>hA1.own.elim (fun e=>by rw[e]at hx;simp[Value.ownBlock]at hx) (fun e=>e x hx)⟩;clear hA1)
    |(at_builtin;refine Zf _ rfl (.tmp 11) (.tmp 15) 24 rfl 3 i0 (.int .i64 0) 1 8 Tryz.underlying24 HI.out.1 HI.out.2.1 HI.out.2.2.1 HI.out.2.2.2 rfl (by decide) _ i (ZQ (l.take i)) rfl H1.out.1 ⟨g,i+1,none⟩ (n-(i+1)) (cap-(i+1)) (ZQ (l.drop (i+1))) rfl HL2.out (HN2.out w1 H1.out.2.1) (Vj _) b2 b3 ?_;intro v2 w2 hA2;have H2:Hid (Xl w n (l.eraseIdx i) (.returned v2) w2):=Zas hl hi rfl H1.out hA2;clear hA2))
   go_ret;exact H2.out
end Go.Proofs.YtpfcacedpkaihaaGreat
