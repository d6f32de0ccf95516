import Derived.Test.YtpfcacedpkaihaaGreatC41
namespace Go.Proofs.YtpfcacedpkaihaaGreat
open Go.RowKit
set_option maxRecDepth 100000
set_option maxHeartbeats 16000000
section
variable {w:World} {a:Act} {K:Act→World→Prop} {Q:Exit→Act→World→Prop} {af:Array Edge} {ps:String}
theorem VI {d s zb:Nat}{z0 z1:Value}(hs:a.tmps.getD s undef=.pointer (some ⟨zb,0,none⟩))(hb:Blk w zb 62 #[z0,z1])(h:K (a.put (some d) (.agg #[z0,z1])) w):
 Oper.wp Tryz.prog {dst:=some d,op:=.load 62 (.tmp s),type:=62,pos:=ps,after:=af,guard:=none} a w K Q:=by
 refine wp_load_mid 62 (.tmp s) rfl zb 0 hs [z0,z1] _ (fun j v hv=> ?_) Tryz.underlying62 rfl (by kernel_rfl) h;rw[hb.cell,Nat.zero_add];simpa using hv
theorem ZjS {z0 z1:Value}(h16:a.tmps[16]?.getD undef=.agg #[z0,z1])(h:K (a.put (some 17) (.slice (some ⟨w.heap.size,0,none⟩) 1 1)) (w.alloc (.cells #[z0,z1] 62))):
 Oper.wp Tryz.prog {dst:=some 17,op:=Op.buildSlice 60 1 #[(0,.tmp 16)],type:=60,pos:=ps,after:=af,guard:=none} a w K Q:=by
 unfold Oper.wp;simp[execOp,Act.eval,h16,go_sem];exact h
theorem ZjI {z0 z1:Value}(h20:a.tmps[20]?.getD undef=.agg #[z0,z1])(h21:a.tmps[21]?.getD undef=.agg #[z0,z1])(h:K (a.put (some 22) (.slice (some ⟨w.heap.size,0,none⟩) 2 2)) (w.alloc (.cells #[z0,z1,z0,z1] 62))):
 Oper.wp Tryz.prog {dst:=some 22,op:=Op.buildSlice 60 2 #[(0,.tmp 20),(1,.tmp 21)],type:=60,pos:=ps,after:=af,guard:=none} a w K Q:=by
 unfold Oper.wp;simp[execOp,Act.eval,h20,h21,go_sem];exact h
theorem ZjX {z0 z1:Value}(h25:a.tmps[25]?.getD undef=.agg #[z0,z1])(h26:a.tmps[26]?.getD undef=.agg #[z0,z1])(h27:a.tmps[27]?.getD undef=.agg #[z0,z1])(h:K (a.put (some 28) (.slice (some ⟨w.heap.size,0,none⟩) 3 3)) (w.alloc (.cells #[z0,z1,z0,z1,z0,z1] 62))):
 Oper.wp Tryz.prog {dst:=some 28,op:=Op.buildSlice 60 3 #[(0,.tmp 25),(1,.tmp 26),(2,.tmp 27)],type:=60,pos:=ps,after:=af,guard:=none} a w K Q:=by
 unfold Oper.wp;simp[execOp,Act.eval,h25,h26,h27,go_sem];exact h
theorem Zkh {o0 o1 o2 o3:Option Addr}{n0 n1 n2 n3 c0 c1 c2 c3:Nat}(h14:a.tmps[14]?.getD undef=.slice o0 n0 c0)(h18:a.tmps[18]?.getD undef=.slice o1 n1 c1)(h23:a.tmps[23]?.getD undef=.slice o2 n2 c2)(h29:a.tmps[29]?.getD undef=.slice o3 n3 c3)
 (h:K (a.put (some 30) (.slice (some ⟨w.heap.size,0,none⟩) 4 4)) (w.alloc (.cells #[.slice o0 n0 c0,.slice o1 n1 c1,.slice o2 n2 c2,.slice o3 n3 c3] 60))):
 Oper.wp Tryz.prog {dst:=some 30,op:=Op.buildSlice 58 4 #[(0,.tmp 14),(1,.tmp 18),(2,.tmp 23),(3,.tmp 29)],type:=58,pos:=ps,after:=af,guard:=none} a w K Q:=by
 unfold Oper.wp;simp[execOp,Act.eval,h14,h18,h23,h29,go_sem];exact h
def LiesM (w:World)(v:Value)(n m:Nat)(v':Value)(w':World):Prop:=
 (∃g cap,v=.slice (some ⟨g,0,none⟩) n cap∧n+m≤cap∧v'=.slice (some ⟨g,0,none⟩) (n+m) cap∧Za (fun k=>k=g) w w')∨
 (∃g cap c,v'=.slice (some ⟨g,0,none⟩) (n+m) cap∧w.heap.size≤g∧Blk w' g 62 c∧(n+m)*2≤c.size∧Za (fun _=>False) w w')
theorem ZaA {d s x m gb n:Nat}{T:TypeId}{v:Value}{xs news:List Value}(hm0:0<m)(hs:a.tmps.getD s undef=v)(hx:a.tmps.getD x undef=.slice (some ⟨gb,0,none⟩) m m)(hv:Row w 62 2 v n xs)(hb:Blk w gb 62 news.toArray)(hl:news.length=m*2)(h1:∀u∈news,u.oneCell'=true)(hn:n≤1000000)(hm:m≤3)
 (h:∀v' w',LiesM w v n m v' w'→Row w' 62 2 v n xs→K (a.put (some d) v') w'):
 Oper.wp Tryz.prog {dst:=some d,op:=Op.call {callee:=Callee.builtin Builtin.append,args:=#[.tmp s,.tmp x],argTypes:=#[60,60]},type:=T,pos:=ps,after:=af,guard:=none} a w K Q:=by
 obtain⟨i0,hi,hz0,hz1,hz2⟩:=info_parts Tryz.infoMsg;have hnews:∀j u,news[j]?=some u→w.cell? ((⟨gb,0,none⟩:Addr).add j)=some u:=by
  intro j u hj;have e:(⟨gb,0,none⟩:Addr).add j=⟨gb,j,none⟩:=by cases j<;>simp[Addr.add]
  rw[e,hb.cell];simpa using hj
 refine Vd w (.tmp s) (.tmp x) 60 rfl 62 i0 _ 2 2 Tryz.underlying60 hi hz0 hz1 hz2 rfl (by decide) v n xs hs hv ⟨gb,0,none⟩ m m hm0 news hx hl hnews h1 (by unfold maxLen;omega) (by omega) fun v' w' hp=> ?_;rcases hp with⟨g,cap,e1,e2,e3,hR,hk⟩|⟨g,cap,e1,hg,hR,hk⟩
 · exact h v' w' (.inl ⟨g,cap,e1,e2,e3,hk⟩) hR
 · rcases hR.shape with⟨_,hn0,_⟩|⟨g2,cap2,cur2,hv2,hb2,hc2,_,hs2,_⟩
   · omega
   · rw[e1]at hv2;injection hv2 with q1 _ q2;injection q1 with q1;injection q1 with q1 _ _;subst q1 q2;exact h v' w' (.inr ⟨g,cap,cur2,e1,hg,hb2,by rw[hs2];exact Nat.mul_le_mul_right _ hc2,hk⟩) (hv.kept hk (fun _ _=>id))
end
theorem ZaQ (w:World)(i:Nat)(hi:i≤4611686018427387904):
 Calls Tryz.prog 21 #[.int .i64 (i:Int)] w fun e w'=>e=.returned (.agg #[.int .u8 ((i%256:Nat):Int),.int .u8 ((i/256%256:Nat):Int)])∧Za (fun _=>False) w w':=by
 have hi0:(0:Int)≤(i:Int):=by omega
 go_enter Tryz.func21,Tryz.ntmps21;go_wp2;refine bodyPost_ret (v:=.agg #[.int .u8 ((i%256:Nat):Int),.int .u8 ((i/256%256:Nat):Int)]) (by simp[results,Tryz.results21,go_sem]) rfl ⟨rfl,Za.alloc _ _ _⟩
def ZbK (i:Nat):Nat→List Value
 |0=>[]
 |k+1=>(XW i).toList++ZbK i k
def IsBM (w0:World)(i k:Nat)(w:World)(x:Value):Prop:=∃gb,x=.slice (some ⟨gb,0,none⟩) k k∧w0.heap.size≤gb∧Blk w gb 62 (ZbK i k).toArray
def ZdY (w0:World)(lo:Option Addr)(m lc k:Nat)(w:World)(x:Value):Prop:=
 ∃g cap,x=.slice (some ⟨g,0,none⟩) (m+k) cap∧((lo=some ⟨g,0,none⟩∧m+k≤lc)∨(w0.heap.size≤g∧∃c,Blk w g 62 c∧(m+k)*2≤c.size))
def ZfX (w0:World)(lo:Option Addr)(m lc:Nat)(w:World)(x:Value):Prop:=
 ∃N a1 a2 a3,x=.slice (some ⟨N,0,none⟩) 4 4∧w0.heap.size≤N∧Blk w N 60 #[.slice lo m lc,a1,a2,a3]∧ZdY w0 lo m lc 1 w a1∧ZdY w0 lo m lc 2 w a2∧ZdY w0 lo m lc 3 w a3
def VEM (w0:World)(lo:Option Addr)(m lc i:Nat):Nat→World→Value→Prop
 |0=>fun _ x=>x=.slice lo m lc
 |1=>fun _ x=>x=.slice lo m lc
 |2=>fun _ x=>x=.agg (XW i)
 |3=>IsBM w0 i 1
 |4=>ZdY w0 lo m lc 1
 |5=>fun _ x=>x=.slice lo m lc
 |6=>fun _ x=>x=.agg (XW i)
 |7=>fun _ x=>x=.agg (XW i)
 |8=>IsBM w0 i 2
 |9=>ZdY w0 lo m lc 2
 |10=>fun _ x=>x=.slice lo m lc
 |11=>fun _ x=>x=.agg (XW i)
 |12=>fun _ x=>x=.agg (XW i)
 |13=>fun _ x=>x=.agg (XW i)
 |14=>IsBM w0 i 3
 |15=>ZdY w0 lo m lc 3
 |_=>ZfX w0 lo m lc
structure SEM (w0:World)(lo:Option Addr)(m lc i zb:Nat)(xs:List Value)(w:World):Prop where
 kept:Za (fun k=>(Value.slice lo m lc).ownBlock=some k) w0 w
 row:Row w 62 2 (.slice lo m lc) m xs
 z:Blk w zb 62 (XW i)
theorem VEM.mono {w0 w w':World}{lo:Option Addr}{m lc i:Nat}(hl:∀k,(Value.slice lo m lc).ownBlock=some k→k<w0.heap.size)(k:Za (fun k=>(Value.slice lo m lc).ownBlock=some k) w w'):∀j x,VEM w0 lo m lc i j w x→VEM w0 lo m lc i j w' x:=by
 have fb:∀q x,IsBM w0 i q w x→IsBM w0 i q w' x:=by
  rintro q x ⟨gb,h1,h2,h3⟩;exact⟨gb,h1,h2,h3.kept k fun h=>by have:=hl _ h;omega⟩
 have fa:∀q x,ZdY w0 lo m lc q w x→ZdY w0 lo m lc q w' x:=by
  rintro q x ⟨g,cap,h1,h2|⟨h2,c,h3,h4⟩⟩
  · exact⟨g,cap,h1,.inl h2⟩
  · exact⟨g,cap,h1,.inr ⟨h2,c,h3.kept k fun h=>by have:=hl _ h;omega,h4⟩⟩
 have fn:∀x,ZfX w0 lo m lc w x→ZfX w0 lo m lc w' x:=by
  rintro x ⟨N,a1,a2,a3,h1,h2,h3,h4,h5,h6⟩;exact⟨N,a1,a2,a3,h1,h2,h3.kept k fun h=>by have:=hl _ h;omega,fa _ _ h4,fa _ _ h5,fa _ _ h6⟩
 intro j x h
 match j,h with
 |0,h=>exact h
 |1,h=>exact h
 |2,h=>exact h
 |3,h=>exact fb _ _ h
 |4,h=>exact fa _ _ h
 |5,h=>exact h
 |6,h=>exact h
 |7,h=>exact h
 |8,h=>exact fb _ _ h
 |9,h=>exact fa _ _ h
 |10,h=>exact h
 |11,h=>exact h
 |12,h=>exact h
 |13,h=>exact h
 |14,h=>exact fb _ _ h
 |15,h=>exact fa _ _ h
 |_+16,h=>exact fn _ h
theorem SEM.alloc {w0 w:World}{lo:Option Addr}{m lc i zb:Nat}{xs:List Value}(h:SEM w0 lo m lc i zb xs w)(o:Obj):SEM w0 lo m lc i zb xs (w.alloc o):=
 ⟨h.kept.trans (Za.alloc w o (fun _=>False)) (fun _=>id) (fun _ _=>False.elim),h.row.kept (Za.alloc w o (fun _=>False)) (fun _ _=>id),h.z.kept (Za.alloc w o (fun _=>False)) id⟩
theorem SEM.app {w0 w w':World}{lo:Option Addr}{m lc i zb k:Nat}{xs:List Value}{v':Value}(h:SEM w0 lo m lc i zb xs w)(hz:(Value.slice lo m lc).ownBlock≠some zb)(hk:LiesM w (.slice lo m lc) m k v' w')(hr:Row w' 62 2 (.slice lo m lc) m xs):
 SEM w0 lo m lc i zb xs w'∧Za (fun k=>(Value.slice lo m lc).ownBlock=some k) w w'∧ZdY w0 lo m lc k w' v':=by
 rcases hk with⟨g,cap,e1,e2,e3,hk⟩|⟨g,cap,c,e1,hg,hb,hc,hk⟩
 · injection e1 with q1 _ q2;subst q1 q2;have hk':Za (fun k=>(Value.slice (some ⟨g,0,none⟩) m lc).ownBlock=some k) w w':=hk.mono fun x hx=>by rw[hx];rfl
   exact⟨⟨h.kept.trans hk' (fun _=>id) (fun _ _=>id),hr,h.z.kept hk' hz⟩,hk',g,lc,e3,.inl ⟨rfl,e2⟩⟩
 · have hk':Za (fun k=>(Value.slice lo m lc).ownBlock=some k) w w':=hk.mono fun _=>False.elim;exact⟨⟨h.kept.trans hk' (fun _=>id) (fun _ _=>id),hr,h.z.kept hk' hz⟩,hk',g,cap,e1,.inr ⟨Nat.le_trans h.kept.size hg,c,hb,hc⟩⟩
theorem Xg.from {w W w':World}{b2:Value}{nC:List ZV}{e:Ending}(h:Xg W b2 nC e w')(k:Za (fun _=>False) w W):Xg w b2 nC e w':=
 ⟨h.1,h.2.1,k.trans h.2.2 (fun _=>False.elim) (fun _ _ h=>h)⟩
theorem ZjU (w:World)(pb:Nat)(vps bv b1 b2:Value)(commits most:Int)(nA nB nC:List ZV)(hblk:Blk w pb 34 (ZM vps bv b1 b2 commits most))(hA:Yi shE w bv nA)(hB:Yi shM w b1 nB)(hC:Yi shC w b2 nC)(la:nA.length≤4611686018427387904)(lb:nB.length≤4611686018427387904)(lc:nC.length≤4611686018427387904):
 Calls Tryz.prog 10 #[.pointer (some ⟨pb,1,none⟩)] w fun e w'=>Xg w b2 nC e w':=by
 obtain⟨ba0,bc0,hb0,_⟩:=hA.row.form;obtain⟨ba1,bc1,hb1,_⟩:=hB.row.form;subst hb0;subst hb1;have HN:Hid (∀W,Za (fun _=>False) w W→Calls Tryz.prog 22 #[.pointer (some ⟨pb,1,none⟩)] W fun e w'=>e=.returned (.bool true)∧Hid (Xg w b2 nC (.returned (.bool true)) w')):=fun W hk=>by
  refine(Zif W pb b2 nC (hC.kept hk fun _ _=>id) lc (hk.keep id (hblk.cell 3)) ?_).mono fun e w' hp=> ?_
  · rintro⟨x,hx,hj⟩;obtain⟨i,hi,rfl⟩:=List.getElem_of_mem hx;obtain⟨c,hc⟩:=(hC.each i hi).elem hj;exact absurd (hblk.type hc).1 (by decide)
  · have e1:=hp.1;subst e1;exact⟨rfl,hp.from hk⟩
 have HOK0:=hid hA;have HOK1:=hid hB;have H0:Hid (w.cell? ⟨pb,1,none⟩=some (.slice ba0 nA.length bc0)):=hblk.cell 1;have H1:Hid (w.cell? ⟨pb,2,none⟩=some (.slice ba1 nB.length bc1)):=hblk.cell 2;clear hblk hA hB hC;go_enter Tryz.func10,Tryz.ntmps10;go_wp2
 go_loopw [3] (fun iv wr=>∃i:Nat,i≤nA.length∧iv=.int .i64 i∧Hid (Za (fun _=>False) w wr)) (fun iv _=>nA.length-(intOf iv).toNat)
 case atStart=>exact⟨0,Nat.zero_le _,rfl,Za.refl _ _⟩
 case round=>
  obtain⟨i,hi,rfl,HK⟩:=hrel;have c0:wr.cell? ⟨pb,1,none⟩=some (.slice ba0 nA.length bc0):=HK.out.keep id H0.out;by_cases hlt:i<nA.length
  · obtain⟨e,he⟩:∃e,e=nA[i]:=⟨_,rfl⟩;obtain⟨g,cap,hs,hog,hgl⟩:=HOK0.out.row.block (by omega);injection hs with hs1 hs2 hs3;subst hs1;have hmem:e∈nA:=by rw[he];exact List.getElem_mem hlt
    have HX:Hid (∀b,(b=e.N∨YF e b)→b<w.heap.size):=fun b hb=>HOK0.out.lt b (.inr ⟨e,hmem,hb⟩);have HE:Hid (Vp shE w i e):=by rw[he];exact HOK0.out.each i hlt
    have HG:Hid (w.cell? ⟨g,i,none⟩=some (.slice (some ⟨e.N,0,none⟩) 4 4)):=HOK0.out.row.cell hog i _ (by rw[List.getElem?_map,List.getElem?_eq_getElem hlt,←he];rfl);clear hog hgl hs3 he hmem;have hi0:(0:Int)≤(i:Int):=by omega
    have hi1:(i:Int)<(nA.length:Int):=by omega
    go_wp2
    go_loopw [4] (fun kv wq=>∃k:Nat,k≤4∧kv=.int .i64 k∧Hid (Za (fun _=>False) w wq)) (fun kv _=>4-(intOf kv).toNat)
    case atStart=>exact⟨0,Nat.zero_le _,rfl,HK.out⟩
    case round=>
     obtain⟨k,hk,rfl,HKQ⟩:=hrel;have d0:wr.cell? ⟨pb,1,none⟩=some (.slice (some ⟨g,0,none⟩) nA.length bc0):=HKQ.out.keep id H0.out;have d1:wr.cell? ⟨g,i,none⟩=some (.slice (some ⟨e.N,0,none⟩) 4 4):=HKQ.out.keep id HG.out;by_cases hk4:k<4
     · have d2:wr.cell? ⟨e.N,k,none⟩=some (.slice (e.ad k) (e.m+k) (e.cp k)):=HKQ.out.keep id (by rw[HE.out.blk.cell];exact Zag _ _ _ k hk4);have hk0:(0:Int)≤(k:Int):=by omega
       have hk1:(k:Int)<4:=by omega
       have HM:Hid (∀W,W.cell? ⟨pb,1,none⟩=some (.slice (some ⟨g,0,none⟩) nA.length bc0)∧W.cell? ⟨g,i,none⟩=some (.slice (some ⟨e.N,0,none⟩) 4 4)∧W.cell? ⟨e.N,k,none⟩=some (.slice (e.ad k) (e.m+k) (e.cp k))→Calls Tryz.prog 19 #[.int .i64 (i:Int)] W fun z w'=>z=.returned (.agg #[.string mq,.int .i32 0,.int .u64 0,.int .u64 (i:Int),.bool false,.int .u64 0])∧w'.cell? ⟨pb,1,none⟩=some (.slice (some ⟨g,0,none⟩) nA.length bc0)∧w'.cell? ⟨g,i,none⟩=some (.slice (some ⟨e.N,0,none⟩) 4 4)∧w'.cell? ⟨e.N,k,none⟩=some (.slice (e.ad k) (e.m+k) (e.cp k))∧Hid (Za (fun _=>False) W w')):=
        fun W hW=>(ZbO W i (by omega)).mono fun _ _ hp=>⟨hp.1,hp.2.keep id hW.1,hp.2.keep id hW.2.1,hp.2.keep id hW.2.2,hp.2⟩
       have HQ:Hid (∀W,Za (fun _=>False) w W→Calls Tryz.prog 18 #[.slice (e.ad k) (e.m+k) (e.cp k),.agg #[.string mq,.int .i32 0,.int .u64 0,.int .u64 (i:Int),.bool false,.int .u64 0]] W fun z w'=>z=.returned (.bool true)∧Hid (Za (fun _=>False) w w')):=
        fun W hW=>(ZdS (HE.out.same fun b hb=>hW.block b (HX.out b hb) id).ok hk4).mono fun _ _ hp=>⟨hp.1,hW.trans hp.2 (fun _=>id) (fun _ _=>id)⟩
       go_wp2_with fail
       go_region_with first
        |(go_at_call 19;refine(HM.out _ ?_).mono ?_;(simp[*]);rintro z w1 ⟨rfl,y0,y1,y2,HW1⟩)
        |(go_at_call 18;refine(HQ.out _ ((HKQ.out.drewN _).trans HW1.out (fun _=>id) (fun _ _=>id))).mono ?_;rintro z w2 ⟨rfl,HW2⟩)
       all_goals
        go_wp2
        go_roundw
        case rel=>exact⟨k+1,by omega,by go_num,HW2⟩
        case measure=>simp[intOf];omega
     · have hkk:k=4:=by omega
       subst hkk;go_wp2
       go_roundw
       case rel=>exact⟨i+1,by omega,by go_num,HKQ⟩
       case measure=>simp[intOf];omega
  · have hii:i=nA.length:=by omega
    subst hii;go_wp2
    go_loopw [6] (fun iv wr=>∃i:Nat,i≤nB.length∧iv=.int .i64 i∧Hid (Za (fun _=>False) w wr)) (fun iv _=>nB.length-(intOf iv).toNat)
    case atStart=>exact⟨0,Nat.zero_le _,rfl,HK.out⟩
    case round=>
     obtain⟨i,hi,rfl,HK⟩:=hrel;have c0:wr.cell? ⟨pb,2,none⟩=some (.slice ba1 nB.length bc1):=HK.out.keep id H1.out;by_cases hlt:i<nB.length
     · obtain⟨e,he⟩:∃e,e=nB[i]:=⟨_,rfl⟩;obtain⟨g,cap,hs,hog,hgl⟩:=HOK1.out.row.block (by omega);injection hs with hs1 hs2 hs3;subst hs1;have hmem:e∈nB:=by rw[he];exact List.getElem_mem hlt
       have HX:Hid (∀b,(b=e.N∨YF e b)→b<w.heap.size):=fun b hb=>HOK1.out.lt b (.inr ⟨e,hmem,hb⟩);have HE:Hid (Vp shM w i e):=by rw[he];exact HOK1.out.each i hlt
       have HG:Hid (w.cell? ⟨g,i,none⟩=some (.slice (some ⟨e.N,0,none⟩) 4 4)):=HOK1.out.row.cell hog i _ (by rw[List.getElem?_map,List.getElem?_eq_getElem hlt,←he];rfl);clear hog hgl hs3 he hmem;have hi0:(0:Int)≤(i:Int):=by omega
       have hi1:(i:Int)<(nB.length:Int):=by omega
       go_wp2
       go_loopw [7] (fun kv wq=>∃k:Nat,k≤4∧kv=.int .i64 k∧Hid (Za (fun _=>False) w wq)) (fun kv _=>4-(intOf kv).toNat)
       case atStart=>exact⟨0,Nat.zero_le _,rfl,HK.out⟩
       case round=>
        obtain⟨k,hk,rfl,HKQ⟩:=hrel;have d0:wr.cell? ⟨pb,2,none⟩=some (.slice (some ⟨g,0,none⟩) nB.length bc1):=HKQ.out.keep id H1.out;have d1:wr.cell? ⟨g,i,none⟩=some (.slice (some ⟨e.N,0,none⟩) 4 4):=HKQ.out.keep id HG.out;by_cases hk4:k<4
        · have d2:wr.cell? ⟨e.N,k,none⟩=some (.slice (e.ad k) (e.m+k) (e.cp k)):=HKQ.out.keep id (by rw[HE.out.blk.cell];exact Zag _ _ _ k hk4);have hk0:(0:Int)≤(k:Int):=by omega
          have hk1:(k:Int)<4:=by omega
          obtain⟨A,hA⟩:∃A:Int,A=((i%256:Nat):Int):=⟨_,rfl⟩;obtain⟨B,hB⟩:∃B:Int,B=((i/256%256:Nat):Int):=⟨_,rfl⟩;have HAB:Hid (A=((i%256:Nat):Int)∧B=((i/256%256:Nat):Int)):=⟨hA,hB⟩;clear hA hB;have HM:Hid (∀W,W.cell? ⟨pb,2,none⟩=some (.slice (some ⟨g,0,none⟩) nB.length bc1)∧W.cell? ⟨g,i,none⟩=some (.slice (some ⟨e.N,0,none⟩) 4 4)∧W.cell? ⟨e.N,k,none⟩=some (.slice (e.ad k) (e.m+k) (e.cp k))→Calls Tryz.prog 21 #[.int .i64 (i:Int)] W fun z w'=>z=.returned (.agg #[.int .u8 A,.int .u8 B])∧w'.cell? ⟨pb,2,none⟩=some (.slice (some ⟨g,0,none⟩) nB.length bc1)∧w'.cell? ⟨g,i,none⟩=some (.slice (some ⟨e.N,0,none⟩) 4 4)∧w'.cell? ⟨e.N,k,none⟩=some (.slice (e.ad k) (e.m+k) (e.cp k))∧Hid (Za (fun _=>False) W w')):=
           fun W hW=>(ZaQ W i (by omega)).mono fun _ _ hp=>⟨by rw[HAB.out.1,HAB.out.2];exact hp.1,hp.2.keep id hW.1,hp.2.keep id hW.2.1,hp.2.keep id hW.2.2,hp.2⟩
          have HQ:Hid (∀W,Za (fun _=>False) w W→Calls Tryz.prog 20 #[.slice (e.ad k) (e.m+k) (e.cp k),.agg #[.int .u8 A,.int .u8 B]] W fun z w'=>z=.returned (.bool true)∧Hid (Za (fun _=>False) w w')):=
           fun W hW=>by rw[HAB.out.1,HAB.out.2];exact(ZcO (HE.out.same fun b hb=>hW.block b (HX.out b hb) id) hk4).mono fun _ _ hp=>⟨hp.1,hW.trans hp.2 (fun _=>id) (fun _ _=>id)⟩
          go_wp2_with fail
          go_region_with first
           |(go_at_call 21;refine(HM.out _ ?_).mono ?_;(simp[*]);rintro z w1 ⟨rfl,y0,y1,y2,HW1⟩)
           |(go_at_call 20;refine(HQ.out _ ((HKQ.out.drewN _).trans HW1.out (fun _=>id) (fun _ _=>id))).mono ?_;rintro z w2 ⟨rfl,HW2⟩)
          all_goals
           go_wp2
           go_roundw
           case rel=>exact⟨k+1,by omega,by go_num,HW2⟩
           case measure=>simp[intOf];omega
        · have hkk:k=4:=by omega
          subst hkk;go_wp2
          go_roundw
          case rel=>exact⟨i+1,by omega,by go_num,HKQ⟩
          case measure=>simp[intOf];omega
     · have hii:i=nB.length:=by omega
       subst hii
       go_wp2_with (go_at_call 22;refine(HN.out _ HK.out).mono ?_;rintro z w' ⟨rfl,HZ⟩)
       go_ret;exact HZ.out
end Go.Proofs.YtpfcacedpkaihaaGreat
