import Derived.Test.YtpfcacedpkaihaaGreatC37
import Derived.Test.YtpfcacedpkaihaaGreatC13
import Derived.Test.YtpfcacedpkaihaaGreatC34
namespace Go.Proofs.YtpfcacedpkaihaaGreat
open Go.RowKit
set_option maxRecDepth 100000
set_option maxHeartbeats 16000000
structure Z7 where
 xb:Nat
 cb:Nat
 D:Ze
 R:Zd
def Ui (p:Z7):List Value:=[.pointer (some ⟨p.xb,0,none⟩),.pointer (some ⟨p.cb,0,none⟩)]
def Z7.fp (p:Z7)(k:Nat):Prop:=pfp p.xb p.cb p.D p.R k
structure Inv (B:Nat)(X:Nat→Prop)(w0 w:World)(pb:Nat)(ps:List Z7)(vps b0 b1 b2:Value)(commits most:Int):Prop where
 below:Below B w0 w
 blk:Blk w pb 34 (ZM vps b0 b1 b2 commits most)
 row:Row w 44 2 vps ps.length (ps.flatMap Ui)
 each:∀p∈ps,ZP w p.xb p.cb p.D p.R
 sep:∀(i j:Nat)(a c:Z7),ps[i]?=some a→ps[j]?=some c→i≠j→∀k,a.fp k→¬c.fp k
 own:∀p∈ps,∀k,p.fp k→B≤k∧k≠pb∧vps.ownBlock≠some k∧¬X k
 pB:B≤pb∧¬X pb
 vB:∀k,vps.ownBlock=some k→B≤k∧¬X k
 xlt:∀k,X k→k<w.heap.size
 bsz:B≤w0.heap.size
theorem VY {B:Nat}{F:Nat→Prop}{w0 w w':World}(h:Below B w0 w)(k:Za F w w')(hB:B≤w0.heap.size)(hF:∀i,F i→B≤i):Below B w0 w':=
 ⟨k.os.trans h.os,k.tape.trans h.tape,k.output.trans h.output,Nat.le_trans h.size k.size,fun i hi=>
  (k.block i (by have:=h.size;omega) (fun hf=>by have:=hF i hf;omega)).trans (h.block i hi)⟩
theorem Inv.kept {B:Nat}{X:Nat→Prop}{w0 w w':World}{pb:Nat}{ps:List Z7}{vps b0 b1 b2:Value}{commits most:Int}(h:Inv B X w0 w pb ps vps b0 b1 b2 commits most)(k:Za (fun _=>False) w w'):Inv B X w0 w' pb ps vps b0 b1 b2 commits most:=
 ⟨VY h.below k h.bsz (fun _=>False.elim),h.blk.kept k id,h.row.kept k (fun _ _=>id),fun p hp=>(h.each p hp).kept k (fun _ _=>id),h.sep,h.own,h.pB,h.vB,fun i hi=>Nat.lt_of_lt_of_le (h.xlt i hi) k.size,h.bsz⟩
theorem Zez {ps:List Z7}{i:Nat}{p p':Z7}(hp:ps[i]?=some p)(he:Ui p'=Ui p):(ps.set i p').flatMap Ui=ps.flatMap Ui:=by
 induction ps generalizing i with
 |nil=>simp at hp
 |cons a r ih=>
  match i with
  |0=>simp at hp;subst hp;simp[he]
  |i+1=>simp at hp;simp[ih hp]
theorem Inv.turn {B:Nat}{X:Nat→Prop}{w0 w w':World}{pb:Nat}{ps:List Z7}{vps b0 b1 b2:Value}{commits most commits':Int}{i:Nat}{p:Z7}{D':Ze}{R':Zd}(h:Inv B X w0 w pb ps vps b0 b1 b2 commits most)(hi:ps[i]?=some p)
 (hp:ZP w' p.xb p.cb D' R') (hk:Za (fun k=>k=pb∨p.fp k) w w') (hf:∀k,pfp p.xb p.cb D' R' k→p.fp k∨w.heap.size≤k) (hb:Blk w' pb 34 (ZM vps b0 b1 b2 commits' most)):
 Inv B X w0 w' pb (ps.set i {p with D:=D',R:=R'}) vps b0 b1 b2 commits' most∧Za (fun k=>¬X k) w w':=by
 have hm:p∈ps:=List.mem_of_getElem? hi;have hlt:=(List.getElem?_eq_some_iff.mp hi).1;have hpl:=h.blk.lt;have hBw:B≤w.heap.size:=Nat.le_trans h.bsz h.below.size;have hF:∀k,(k=pb∨p.fp k)→B≤k∧¬X k:=by
  rintro k (rfl|hk)
  · exact h.pB
  · exact⟨(h.own p hm k hk).1,(h.own p hm k hk).2.2.2⟩
 have others:∀(j:Nat)(a:Z7),ps[j]?=some a→j≠i→ZP w' a.xb a.cb a.D a.R:=by
  intro j a ha hj;refine(h.each a (List.mem_of_getElem? ha)).kept hk ?_;rintro k hka (e|hkp)
  · exact(h.own a (List.mem_of_getElem? ha) k hka).2.1 e
  · exact h.sep j i a p ha hi hj k hka hkp
 have getS:∀(j:Nat)(a:Z7),(ps.set i {p with D:=D',R:=R'})[j]?=some a→(j=i∧a={p with D:=D',R:=R'})∨(j≠i∧ps[j]?=some a):=by
  intro j a ha;by_cases e:j=i
  · subst e;rw[List.getElem?_set_self hlt]at ha;injection ha with ha;exact .inl ⟨rfl,ha.symm⟩
  · rw[List.getElem?_set_ne (fun z=>e z.symm)]at ha;exact .inr ⟨e,ha⟩
 refine⟨⟨VY h.below hk h.bsz (fun k hk=>(hF k hk).1),hb,?_,?_,?_,?_,h.pB,h.vB,fun k hx=>Nat.lt_of_lt_of_le (h.xlt k hx) hk.size,h.bsz⟩,hk.mono (fun k hk=>(hF k hk).2)⟩
 · rw[List.length_set,Zez (p':={p with D:=D',R:=R'}) hi rfl];refine h.row.kept hk ?_;rintro k hv (rfl|hkp)
   · exact h.row.ne_block h.blk (by decide) hv
   · exact(h.own p hm k hkp).2.2.1 hv
 · intro a ha;obtain⟨j,hj⟩:=List.getElem?_of_mem ha;rcases getS j a hj with⟨_,rfl⟩|⟨hne,hj'⟩
   · exact hp
   · exact others j a hj' hne
 · intro j1 j2 a c ha hc hne k hka hkc;rcases getS j1 a ha with⟨e1,rfl⟩|⟨n1,ha'⟩
   · rcases getS j2 c hc with⟨e2,_⟩|⟨n2,hc'⟩
     · omega
     · rcases hf k hka with x|x
       · exact h.sep i j2 p c hi hc' (fun z=>n2 z.symm) k x hkc
       · have:=(h.each c (List.mem_of_getElem? hc')).lt k hkc;omega
   · rcases getS j2 c hc with⟨e2,rfl⟩|⟨n2,hc'⟩
     · rcases hf k hkc with x|x
       · exact h.sep j1 i a p ha' hi n1 k hka x
       · have:=(h.each a (List.mem_of_getElem? ha')).lt k hka;omega
     · exact h.sep j1 j2 a c ha' hc' hne k hka hkc
 · intro a ha k hk;obtain⟨j,hj⟩:=List.getElem?_of_mem ha;rcases getS j a hj with⟨_,rfl⟩|⟨_,hj'⟩
   · rcases hf k hk with x|x
     · exact h.own p hm k x
     · refine⟨by omega,by omega,fun hv=> ?_,fun hx=> ?_⟩
       · have:=h.row.lt k hv;omega
       · have:=h.xlt k hx;omega
   · exact h.own a (List.mem_of_getElem? hj') k hk
theorem Inv.more {B:Nat}{X:Nat→Prop}{w0 w w':World}{pb xb cb:Nat}{ps:List Z7}{vps b0 b1 b2 v:Value}{commits most:Int}{D:Ze}{R:Zd}(h:Inv B X w0 w pb ps vps b0 b1 b2 commits most)(hp:ZP w' xb cb D R)
 (hr:Row w' 44 2 v (ps.length+1) (ps.flatMap Ui++[.pointer (some ⟨xb,0,none⟩),.pointer (some ⟨cb,0,none⟩)])) (hb:Blk w' pb 34 (ZM v b0 b1 b2 commits most))
 (hk:Za (fun k=>k=pb∨vps.ownBlock=some k) w w') (hn:∀k,pfp xb cb D R k→w.heap.size≤k) (hv:∀k,v.ownBlock=some k→vps.ownBlock=some k∨w.heap.size≤k) (hs:∀k,pfp xb cb D R k→v.ownBlock≠some k):
 Inv B X w0 w' pb (ps++[⟨xb,cb,D,R⟩]) v b0 b1 b2 commits most∧Za (fun k=>¬X k) w w':=by
 have hpl:=h.blk.lt;have hBw:B≤w.heap.size:=Nat.le_trans h.bsz h.below.size;have hF:∀k,(k=pb∨vps.ownBlock=some k)→B≤k∧¬X k:=by
  rintro k (rfl|hk)
  · exact h.pB
  · exact h.vB k hk
 have old:∀a∈ps,ZP w' a.xb a.cb a.D a.R:=fun a ha=>(h.each a ha).kept hk (by
  rintro k hka (e|hkv)
  · exact(h.own a ha k hka).2.1 e
  · exact(h.own a ha k hka).2.2.1 hkv)
 have getA:∀(j:Nat)(a:Z7),(ps++[(⟨xb,cb,D,R⟩:Z7)])[j]?=some a→(j=ps.length∧a=⟨xb,cb,D,R⟩)∨(j<ps.length∧ps[j]?=some a):=by
  intro j a ha;by_cases e:j<ps.length
  · rw[List.getElem?_append_left e]at ha;exact .inr ⟨e,ha⟩
  · have hl:=(List.getElem?_eq_some_iff.mp ha).1;have:j=ps.length:=by simp at hl;omega
    subst this;simp at ha;exact .inl ⟨rfl,ha.symm⟩
 refine⟨⟨VY h.below hk h.bsz (fun k hk=>(hF k hk).1),hb,?_,?_,?_,?_,h.pB,?_,fun k hx=>Nat.lt_of_lt_of_le (h.xlt k hx) hk.size,h.bsz⟩,hk.mono (fun k hk=>(hF k hk).2)⟩
 · rw[List.length_append,List.flatMap_append];exact hr
 · intro a ha;rw[List.mem_append]at ha;rcases ha with ha|ha
   · exact old a ha
   · simp at ha;subst ha;exact hp
 · intro j1 j2 a c ha hc hne k hka hkc;rcases getA j1 a ha with⟨e1,rfl⟩|⟨l1,ha'⟩
   · rcases getA j2 c hc with⟨e2,_⟩|⟨l2,hc'⟩
     · omega
     · have:=(h.each c (List.mem_of_getElem? hc')).lt k hkc;have:=hn k hka;omega
   · rcases getA j2 c hc with⟨e2,rfl⟩|⟨l2,hc'⟩
     · have:=(h.each a (List.mem_of_getElem? ha')).lt k hka;have:=hn k hkc;omega
     · exact h.sep j1 j2 a c ha' hc' hne k hka hkc
 · intro a ha k hk;rw[List.mem_append]at ha;rcases ha with ha|ha
   · have o:=h.own a ha k hk;refine⟨o.1,o.2.1,fun hvk=> ?_,o.2.2.2⟩;rcases hv k hvk with x|x
     · exact o.2.2.1 x
     · have:=(h.each a ha).lt k hk;omega
   · simp at ha;subst ha;have:=hn k hk;refine⟨by omega,by omega,hs k hk,fun hx=> ?_⟩;have:=h.xlt k hx;omega
 · intro k hk;rcases hv k hk with x|x
   · exact h.vB k x
   · exact⟨by omega,fun hx=>by have:=h.xlt k hx;omega⟩
def SPost (B:Nat)(X:Nat→Prop)(w0 w:World)(pb:Nat)(ps:List Z7)(b0 b1 b2:Value)(commits most:Int)(e:Ending)(w':World):Prop:=
 e=.returned (.bool true)∧Za (fun k=>¬X k) w w'∧∃ps' vps' commits',Inv B X w0 w' pb ps' vps' b0 b1 b2 commits' most∧ps'.length≤ps.length+1∧(commits'=commits∨commits'=commits+1)∧∀M,(∀p∈ps,p.R.uses.length≤M)→∀p∈ps',p.R.uses.length≤M+1
theorem ZeJ {ps:List Z7}{i M:Nat}{p:Z7}{D':Ze}{R':Zd}(hi:ps[i]?=some p)(hu:R'.uses.length≤p.R.uses.length+1)(hM:∀p∈ps,p.R.uses.length≤M):∀q∈ps.set i {p with D:=D',R:=R'},q.R.uses.length≤M+1:=by
 intro q hq;rcases List.mem_or_eq_of_mem_set hq with hq|rfl
 · exact Nat.le_succ_of_le (hM q hq)
 · have:=hM p (List.mem_of_getElem? hi);show R'.uses.length≤M+1;omega
theorem SPost.of_turned {B:Nat}{X:Nat→Prop}{w0 w w':World}{pb:Nat}{ps:List Z7}{vps b0 b1 b2:Value}{commits most:Int}{i:Nat}{p:Z7}(h:Inv B X w0 w pb ps vps b0 b1 b2 commits most)(hi:ps[i]?=some p)(ht:ZR w w' p.xb p.cb p.D p.R):
 SPost B X w0 w pb ps b0 b1 b2 commits most (.returned (.bool true)) w':=by
 obtain⟨D',R',hp,hk,hf,hu⟩:=ht;have hb:=h.blk.kept hk fun hpf=>(h.own p (List.mem_of_getElem? hi) pb hpf).2.1 rfl;obtain⟨z1,z2⟩:=h.turn hi hp (hk.mono fun _=>.inr) hf hb;exact⟨rfl,z2,_,_,_,z1,by rw[List.length_set];omega,.inl rfl,fun M hM=>ZeJ hi hu hM⟩
theorem SPost.of_commit {B:Nat}{X:Nat→Prop}{w0 w w':World}{pb:Nat}{ps:List Z7}{vps b0 b1 b2:Value}{commits most:Int}{i:Nat}{p:Z7}{e:Ending}(h:Inv B X w0 w pb ps vps b0 b1 b2 commits most)(hi:ps[i]?=some p)(ht:Xa w pb p.xb p.cb p.D p.R vps b0 b1 b2 commits most e w'):
 SPost B X w0 w pb ps b0 b1 b2 commits most e w':=by
 obtain⟨e1,hb,D',R',hp,hk,hf,hu⟩:=ht;obtain⟨z1,z2⟩:=h.turn hi hp hk hf hb;exact⟨e1,z2,_,_,_,z1,by rw[List.length_set];omega,.inr rfl,fun M hM=>ZeJ hi hu hM⟩
theorem SPost.of_open {B:Nat}{X:Nat→Prop}{w0 w w':World}{pb:Nat}{ps:List Z7}{vps b0 b1 b2:Value}{commits most:Int}{e:Ending}(h:Inv B X w0 w pb ps vps b0 b1 b2 commits most)(ht:Vf w pb vps b0 b1 b2 commits most ps.length (ps.flatMap Ui) e w'):
 SPost B X w0 w pb ps b0 b1 b2 commits most e w':=by
 obtain⟨e1,hk|⟨xb,cb,D,R,v,hp,h0,hr,hb,hk,hn,hv,hs⟩⟩:=ht
 · exact⟨e1,hk.mono (fun _=>False.elim),ps,vps,commits,h.kept hk,by omega,.inl rfl,fun M hM p hp=>Nat.le_succ_of_le (hM p hp)⟩
 · obtain⟨z1,z2⟩:=h.more hp hr hb hk hn hv hs;exact⟨e1,z2,_,_,_,z1,by simp,.inl rfl,fun M hM p hp=>by
    rw[List.mem_append,List.mem_singleton]at hp;rcases hp with hp|rfl
    · exact Nat.le_succ_of_le (hM p hp)
    · show R.uses.length≤M+1;omega⟩
theorem SPost.from {B:Nat}{X:Nat→Prop}{w0 w w1 w':World}{pb:Nat}{ps:List Z7}{b0 b1 b2:Value}{commits most:Int}{e:Ending}(h:SPost B X w0 w1 pb ps b0 b1 b2 commits most e w')(k:Za (fun _=>False) w w1):SPost B X w0 w pb ps b0 b1 b2 commits most e w':=by
 obtain⟨e1,hk,r⟩:=h;exact⟨e1,k.trans hk (fun _=>False.elim) (fun _ _=>id),r⟩
structure OpE where
 kd:Int
 a:Int
 b:Int
 c:Int
 s:ByteArray
 ao:Option Addr
 n:Nat
 cap:Nat
 ws:List (Int×Int)
structure Zcj (B:Nat)(w0:World)(o:OpE):Prop where
 wr:Wr w0 o.ao o.n o.ws
 reach:o.n*16≤140737488351232
 nil:o.ao=none→o.n=0∧o.cap=0
 low:0<o.n→∀a,o.ao=some a→a.block<B
 vals:BdW o.ws
 str:o.s.size≤maxLen
 a0: -9223372036854775808≤o.a
 a1:o.a≤9223372036854775807
def opC (o:OpE):List Value:=[.int .i64 o.kd,.int .i64 o.a,.int .i64 o.b,.int .i64 o.c,.string o.s,.slice o.ao o.n o.cap]
theorem Vo (l:List Z7)(j:Nat)(hj:j<l.length)(f:Nat)(hf:f<2):(l.flatMap Ui)[j*2+f]?=(Ui l[j])[f]? :=ZO Ui 2 (fun _=>rfl) l j hj f hf
theorem Zam (w:World)(o:Obj)(a b:Array Value)(T U:TypeId)(h:o=.cells a T):Blk (((w.alloc o).alloc (.cells b U)).drew) w.heap.size T a∧Blk (((w.alloc o).alloc (.cells b U)).drew) (w.heap.size+1) U b:=by
 subst h;refine⟨Blk.same ((Blk.new w T a).kept (Za.alloc _ (.cells b U) (fun _=>False)) id) rfl,?_⟩;have:=Blk.new (w.alloc (.cells a T)) U b;simp only[World.size_alloc]at this;exact this.same rfl
theorem Zhd {B:Nat}{X:Nat→Prop}{w0 w:World}{pb:Nat}{ps:List Z7}{vps b0 b1 b2:Value}{commits most:Int}(h:Inv B X w0 w pb ps vps b0 b1 b2 commits most)(a b c:Int)(s:ByteArray)(ao:Option Addr)(n cap:Nat)(hm:(ps.length+1)*16≤140737488355328):
 Calls Tryz.prog 9 #[.pointer (some ⟨pb,0,none⟩),.agg #[.int .i64 1,.int .i64 a,.int .i64 b,.int .i64 c,.string s,.slice ao n cap]] w fun e w'=>SPost B X w0 w pb ps b0 b1 b2 commits most e w':=by
 have H0:Hid (∀W,Za (fun _=>False) w W→Calls Tryz.prog 11 #[.pointer (some ⟨pb,0,none⟩),.agg #[.int .i64 1,.int .i64 a,.int .i64 b,.int .i64 c,.string s,.slice ao n cap]] W fun e w'=>e=.returned (.bool true)∧Hid (SPost B X w0 w pb ps b0 b1 b2 commits most (.returned (.bool true)) w')):=
  fun W hk=>(Zj0 W pb 1 a b c s ao n cap vps b0 b1 b2 commits most ps.length (ps.flatMap Ui) (h.kept hk).blk (h.kept hk).row hm).mono fun e w' hp=>by
   have e1:=hp.1;subst e1;exact⟨rfl,(SPost.of_open (h.kept hk) hp).from hk⟩
 clear h hm;go_enter Tryz.func9,Tryz.ntmps9
 go_wp2_with (go_at_call 11;refine(H0.out _ (Za.alloc _ _ _)).mono ?_;rintro e w1 ⟨rfl,hs⟩)
 go_ret;exact hs.out
theorem Zca {B:Nat}{X:Nat→Prop}{w0 w:World}{pb:Nat}{ps:List Z7}{vps b0 b1 b2:Value}{commits most:Int}(h:Inv B X w0 w pb ps vps b0 b1 b2 commits most)(kd a b c:Int)(s:ByteArray)(ao:Option Addr)(n cap:Nat)(hps:ps.length=0)(h2:2≤kd)(h18:kd≤18):
 Calls Tryz.prog 9 #[.pointer (some ⟨pb,0,none⟩),.agg #[.int .i64 kd,.int .i64 a,.int .i64 b,.int .i64 c,.string s,.slice ao n cap]] w fun e w'=>SPost B X w0 w pb ps b0 b1 b2 commits most e w':=by
 have hk1:(kd==1)=false:=beq_eq_false_iff_ne.mpr (by omega);have hk19:(kd==19)=false:=beq_eq_false_iff_ne.mpr (by omega);obtain⟨av,cv,hv,_⟩:=h.row.form;rw[hps]at hv;have c0:w.cell? ⟨pb,0,none⟩=some vps:=h.blk.cell 0;rw[hv]at c0;have hpl:=h.blk.lt;have HI:=hid h;clear h hv;go_enter Tryz.func9,Tryz.ntmps9;go_wp2;go_ret;exact⟨rfl,Za.alloc _ _ _,ps,vps,commits,HI.out.kept (Za.alloc _ _ _),by omega,.inl rfl,fun M hM p hp=>Nat.le_succ_of_le (hM p hp)⟩
theorem ZaU {B:Nat}{X:Nat→Prop}{w0 w:World}{pb:Nat}{ps:List Z7}{vps b0 b1 b2:Value}{commits most:Int}(h:Inv B X w0 w pb ps vps b0 b1 b2 commits most)(kd a b c:Int)(s:ByteArray)(ao:Option Addr)(n cap:Nat)(hps:0<ps.length)(hpm:ps.length≤4611686018427387904)(h2:3≤kd)(h7:kd≤7)(ha0: -9223372036854775808≤a)(ha1:a≤9223372036854775807)
 (hrd:∀W xb cb D R,(∃p∈ps,R=p.R)→ZP W xb cb D R→Calls Tryz.prog 15 #[.pointer (some ⟨pb,0,none⟩),.agg #[.pointer (some ⟨xb,0,none⟩),.pointer (some ⟨cb,0,none⟩)],.agg #[.int .i64 kd,.int .i64 a,.int .i64 b,.int .i64 c,.string s,.slice ao n cap]] W fun e w'=>Yp W xb cb D R e w'):
 Calls Tryz.prog 9 #[.pointer (some ⟨pb,0,none⟩),.agg #[.int .i64 kd,.int .i64 a,.int .i64 b,.int .i64 c,.string s,.slice ao n cap]] w fun e w'=>SPost B X w0 w pb ps b0 b1 b2 commits most e w':=by
 have hk1:(kd==1)=false:=beq_eq_false_iff_ne.mpr (by omega);have hk2:(kd==2)=false:=beq_eq_false_iff_ne.mpr (by omega);have hk19:(kd==19)=false:=beq_eq_false_iff_ne.mpr (by omega);obtain⟨g,cv,hv,hog,hgl⟩:=h.row.block hps;have c0:w.cell? ⟨pb,0,none⟩=some vps:=h.blk.cell 0;rw[hv]at c0;have hpl:=h.blk.lt;obtain⟨m,hm⟩:∃m,m=ps.length:=⟨_,rfl⟩;obtain⟨j,hj⟩:∃j,j=pickN a m:=⟨_,rfl⟩;have hjm:j<m:=by rw[hj];exact ZaL a (by omega)
 have HPK:Hid (∀W,Calls Tryz.prog 13 #[.int .i64 a,.int .i64 m] W fun e w'=>e=.returned (.int .i64 (j:Int))∧W=w'):=fun W=>by rw[hj];exact ZgX W a m ha0 ha1 (by omega) (by omega)
 have hjp:j<ps.length:=by omega
 obtain⟨p,hp⟩:∃p,p=ps[j]:=⟨_,rfl⟩;have hget:ps[j]?=some p:=by rw[hp];exact List.getElem?_eq_getElem hjp
 have q0:=h.row.cell hog (j*2) _ (by have:=Vo ps j hjp 0 (by omega);rw[Nat.add_zero]at this;rw[this];rfl);have q1:=h.row.cell hog (j*2+1) _ (by rw[Vo ps j hjp 1 (by omega)];rfl);rw[←hp]at q0 q1;rw[←hm]at c0;have hmz:((m:Int)==0)=false:=beq_eq_false_iff_ne.mpr (by omega);have HRD:Hid (∀W,Za (fun _=>False) w W→Calls Tryz.prog 15 #[.pointer (some ⟨pb,0,none⟩),.agg #[.pointer (some ⟨p.xb,0,none⟩),.pointer (some ⟨p.cb,0,none⟩)],.agg #[.int .i64 kd,.int .i64 a,.int .i64 b,.int .i64 c,.string s,.slice ao n cap]] W fun e w'=>e=.returned (.bool true)∧Hid (SPost B X w0 w pb ps b0 b1 b2 commits most (.returned (.bool true)) w')):=
  fun W hk=>(hrd W p.xb p.cb p.D p.R ⟨p,List.mem_of_getElem? hget,rfl⟩ (((h.each p (List.mem_of_getElem? hget))).kept hk fun _ _=>id)).mono fun e w' hp=>⟨hp.1,(SPost.of_turned (h.kept hk) hget hp.2).from hk⟩
 have hm1:m≤4611686018427387904:=by omega
 have hm0:0<m:=by omega
 generalize p.xb=xb at*
 generalize p.cb=cb at*
 clear hrd h hv hog hj hp hget hm hps hpm hjp;go_enter Tryz.func9,Tryz.ntmps9
 go_wp2_with fail
 go_cut [5] (fun pp wx=>pp=.pointer (some ⟨w.heap.size+1,0,none⟩)∧Hid (Za (fun _=>False) w wx∧Blk wx w.heap.size 37 #[.int .i64 kd,.int .i64 a,.int .i64 b,.int .i64 c,.string s,.slice ao n cap]∧Blk wx (w.heap.size+1) 44 #[.pointer (some ⟨xb,0,none⟩),.pointer (some ⟨cb,0,none⟩)]))
 case first=>
  go_region_held3 (fun w'=>w'.cell? ⟨pb,0,none⟩=some (.slice (some ⟨g,0,none⟩) m cv)∧w'.cell? ⟨w.heap.size,1,none⟩=some (.int .i64 a)∧w'.cell? ⟨g,j*2,none⟩=some (.pointer (some ⟨xb,0,none⟩))∧w'.cell? ⟨g,j*2+1,none⟩=some (.pointer (some ⟨cb,0,none⟩))) (go_keep) ((go_at_call 13;refine(HPK.out _).mono ?_;rintro e w' ⟨rfl,rfl⟩))
  all_goals
   go_wp2
   go_meet
   case rel=>exact⟨rfl,((Za.alloc w _ (fun _=>False)).allocNew _).drew,Zam w _ _ _ _ _ rfl⟩
 case rest=>
  obtain⟨rfl,HC⟩:=hcut;have d0:wc.cell? ⟨w.heap.size,0,none⟩=some (.int .i64 kd):=HC.out.2.1.cell 0;have d1:wc.cell? ⟨w.heap.size,1,none⟩=some (.int .i64 a):=HC.out.2.1.cell 1;have d2:wc.cell? ⟨w.heap.size,2,none⟩=some (.int .i64 b):=HC.out.2.1.cell 2;have d3:wc.cell? ⟨w.heap.size,3,none⟩=some (.int .i64 c):=HC.out.2.1.cell 3;have d4:wc.cell? ⟨w.heap.size,4,none⟩=some (.string s):=HC.out.2.1.cell 4;have d5:wc.cell? ⟨w.heap.size,5,none⟩=some (.slice ao n cap):=HC.out.2.1.cell 5;have e0:wc.cell? ⟨w.heap.size+1,0,none⟩=some (.pointer (some ⟨xb,0,none⟩)):=HC.out.2.2.cell 0;have e1:wc.cell? ⟨w.heap.size+1,1,none⟩=some (.pointer (some ⟨cb,0,none⟩)):=HC.out.2.2.cell 1;clear c0 q0 q1
  go_wp2_with (go_at_call 15;refine(HRD.out _ HC.out.1).mono ?_;rintro e w1 ⟨rfl,hs⟩)
  go_ret;exact hs.out
theorem ZdR {B:Nat}{X:Nat→Prop}{w0 w:World}{pb:Nat}{ps:List Z7}{vps b0 b1 b2:Value}{commits most:Int}(h:Inv B X w0 w pb ps vps b0 b1 b2 commits most)(a b c:Int)(s:ByteArray)(ao:Option Addr)(n cap:Nat)(hps:0<ps.length)(hpm:ps.length≤4611686018427387904)(ha0: -9223372036854775808≤a)(ha1:a≤9223372036854775807)
 (hus:∀p∈ps,p.R.uses.length<9223372036854775807) (ws:List (Int×Int)) (hc0:0≤commits) (hc1:commits≤4611686018427387904) (hw:Wr w ao n ws) (hreach:n*16≤140737488351232) (hno:ao=none→n=0∧cap=0) (hlow:0<n→∀a,ao=some a→a.block<B) (hwb:BdW ws):
 Calls Tryz.prog 9 #[.pointer (some ⟨pb,0,none⟩),.agg #[.int .i64 2,.int .i64 a,.int .i64 b,.int .i64 c,.string s,.slice ao n cap]] w fun e w'=>SPost B X w0 w pb ps b0 b1 b2 commits most e w':=by
 obtain⟨g,cv,hv,hog,hgl⟩:=h.row.block hps;have c0:w.cell? ⟨pb,0,none⟩=some vps:=h.blk.cell 0;rw[hv]at c0;have hpl:=h.blk.lt;obtain⟨m,hm⟩:∃m,m=ps.length:=⟨_,rfl⟩;obtain⟨j,hj⟩:∃j,j=pickN a m:=⟨_,rfl⟩;have hjm:j<m:=by rw[hj];exact ZaL a (by omega)
 have HPK:Hid (∀W,Calls Tryz.prog 13 #[.int .i64 a,.int .i64 m] W fun e w'=>e=.returned (.int .i64 (j:Int))∧W=w'):=fun W=>by rw[hj];exact ZgX W a m ha0 ha1 (by omega) (by omega)
 have hjp:j<ps.length:=by omega
 obtain⟨p,hp⟩:∃p,p=ps[j]:=⟨_,rfl⟩;have hget:ps[j]?=some p:=by rw[hp];exact List.getElem?_eq_getElem hjp
 have q0:=h.row.cell hog (j*2) _ (by have:=Vo ps j hjp 0 (by omega);rw[Nat.add_zero]at this;rw[this];rfl);have q1:=h.row.cell hog (j*2+1) _ (by rw[Vo ps j hjp 1 (by omega)];rfl);rw[←hp]at q0 q1;rw[←hm]at c0;have hmz:((m:Int)==0)=false:=beq_eq_false_iff_ne.mpr (by omega);have HRD:Hid (∀W,Za (fun _=>False) w W→Calls Tryz.prog 14 #[.pointer (some ⟨pb,0,none⟩),.agg #[.pointer (some ⟨p.xb,0,none⟩),.pointer (some ⟨p.cb,0,none⟩)],.agg #[.int .i64 2,.int .i64 a,.int .i64 b,.int .i64 c,.string s,.slice ao n cap]] W fun e w'=>e=.returned (.bool true)∧Hid (SPost B X w0 w pb ps b0 b1 b2 commits most (.returned (.bool true)) w')):=
  fun W hk=>(ZjP W pb p.xb p.cb a b c s ao n cap ws p.D p.R vps b0 b1 b2 commits most ((h.each p (List.mem_of_getElem? hget)).kept hk fun _ _=>id) (hus p (List.mem_of_getElem? hget)) (h.kept hk).blk (fun hf=>(h.own p (List.mem_of_getElem? hget) pb hf).2.1 rfl) hc0 hc1 (hw.kept hk fun _ _=>id) hreach hno (fun hn x hx=>by
   have hl:=hlow hn x hx;have hB:=h.pB.1;have hs:=hk.size;have hz:=Nat.le_trans h.bsz h.below.size;exact⟨fun hf=>by have:=(h.own p (List.mem_of_getElem? hget) _ hf).1;omega,by omega,by omega⟩) hwb).mono fun e w' hp=>by
    have e1:=hp.1;subst e1;exact⟨rfl,(SPost.of_commit (h.kept hk) hget hp).from hk⟩
 have hm1:m≤4611686018427387904:=by omega
 have hm0:0<m:=by omega
 generalize p.xb=xb at*
 generalize p.cb=cb at*
 clear h hus hv hog hj hp hget hm hps hpm hjp hw hlow hno hreach;go_enter Tryz.func9,Tryz.ntmps9
 go_wp2_with fail
 go_cut [5] (fun pp wx=>pp=.pointer (some ⟨w.heap.size+1,0,none⟩)∧Hid (Za (fun _=>False) w wx∧Blk wx w.heap.size 37 #[.int .i64 2,.int .i64 a,.int .i64 b,.int .i64 c,.string s,.slice ao n cap]∧Blk wx (w.heap.size+1) 44 #[.pointer (some ⟨xb,0,none⟩),.pointer (some ⟨cb,0,none⟩)]))
 case first=>
  go_region_held3 (fun w'=>w'.cell? ⟨pb,0,none⟩=some (.slice (some ⟨g,0,none⟩) m cv)∧w'.cell? ⟨w.heap.size,1,none⟩=some (.int .i64 a)∧w'.cell? ⟨g,j*2,none⟩=some (.pointer (some ⟨xb,0,none⟩))∧w'.cell? ⟨g,j*2+1,none⟩=some (.pointer (some ⟨cb,0,none⟩))) (go_keep) ((go_at_call 13;refine(HPK.out _).mono ?_;rintro e w' ⟨rfl,rfl⟩))
  all_goals
   go_wp2
   go_meet
   case rel=>exact⟨rfl,((Za.alloc w _ (fun _=>False)).allocNew _).drew,Zam w _ _ _ _ _ rfl⟩
 case rest=>
  obtain⟨rfl,HC⟩:=hcut;have d0:wc.cell? ⟨w.heap.size,0,none⟩=some (.int .i64 2):=HC.out.2.1.cell 0;have d1:wc.cell? ⟨w.heap.size,1,none⟩=some (.int .i64 a):=HC.out.2.1.cell 1;have d2:wc.cell? ⟨w.heap.size,2,none⟩=some (.int .i64 b):=HC.out.2.1.cell 2;have d3:wc.cell? ⟨w.heap.size,3,none⟩=some (.int .i64 c):=HC.out.2.1.cell 3;have d4:wc.cell? ⟨w.heap.size,4,none⟩=some (.string s):=HC.out.2.1.cell 4;have d5:wc.cell? ⟨w.heap.size,5,none⟩=some (.slice ao n cap):=HC.out.2.1.cell 5;have e0:wc.cell? ⟨w.heap.size+1,0,none⟩=some (.pointer (some ⟨xb,0,none⟩)):=HC.out.2.2.cell 0;have e1:wc.cell? ⟨w.heap.size+1,1,none⟩=some (.pointer (some ⟨cb,0,none⟩)):=HC.out.2.2.cell 1;clear c0 q0 q1
  go_wp2_with (go_at_call 14;refine(HRD.out _ HC.out.1).mono ?_;rintro e w1 ⟨rfl,hs⟩)
  go_ret;exact hs.out
theorem Wr.below {B:Nat}{w w':World}{ao:Option Addr}{n:Nat}{ws:List (Int×Int)}(h:Wr w ao n ws)(hb:Below B w w')(hlow:0<n→∀a,ao=some a→a.block<B):Wr w' ao n ws:=by
 refine⟨h.len,fun j hj=> ?_⟩;obtain⟨bl,off,e,c0,c1⟩:=h.cell j hj;have hl:=hlow (by have:=h.len;omega) _ e;exact⟨bl,off,e,(World.cell?_of_block (a:=⟨bl,off+j*2,none⟩) (hb.block bl hl)).trans c0,(World.cell?_of_block (a:=⟨bl,off+j*2+1,none⟩) (hb.block bl hl)).trans c1⟩
theorem ZdX {B:Nat}{X:Nat→Prop}{w0 w:World}{pb:Nat}{ps:List Z7}{vps b0 b1 b2:Value}{commits most:Int}(h:Inv B X w0 w pb ps vps b0 b1 b2 commits most)(o:OpE)(ho:Zcj B w0 o)(hk:o.kd=1∨o.kd=2∨o.kd=3∨o.kd=4∨o.kd=5∨o.kd=6)
 (hm:(ps.length+1)*16≤140737488355328) (hc0:0≤commits) (hc1:commits≤4611686018427387904) (hus:∀p∈ps,p.R.uses.length<9223372036854775807):
 Calls Tryz.prog 9 #[.pointer (some ⟨pb,0,none⟩),.agg #[.int .i64 o.kd,.int .i64 o.a,.int .i64 o.b,.int .i64 o.c,.string o.s,.slice o.ao o.n o.cap]] w fun e w'=>SPost B X w0 w pb ps b0 b1 b2 commits most e w':=by
 by_cases h1:o.kd=1
 · rw[h1];exact Zhd h o.a o.b o.c o.s o.ao o.n o.cap hm
 · by_cases hps:ps.length=0
   · exact Zca h o.kd o.a o.b o.c o.s o.ao o.n o.cap hps (by omega) (by omega)
   · have hp0:0<ps.length:=by omega
     have hpm:ps.length≤4611686018427387904:=by omega
     by_cases h2:o.kd=2
     · rw[h2];exact ZdR h o.a o.b o.c o.s o.ao o.n o.cap hp0 hpm ho.a0 ho.a1 hus o.ws hc0 hc1 (ho.wr.below h.below ho.low) ho.reach ho.nil ho.low ho.vals
     · refine ZaU h o.kd o.a o.b o.c o.s o.ao o.n o.cap hp0 hpm (by omega) (by omega) ho.a0 ho.a1 fun W xb cb D R _ hp=> ?_;have h36:o.kd=3∨o.kd=4∨o.kd=5∨o.kd=6:=by omega
       rcases h36 with e|e|e|e
       · rw[e];exact ZdA W pb xb cb _ _ _ _ _ _ _ D R hp
       · rw[e];exact Zer W pb xb cb _ _ _ _ _ _ _ D R hp
       · rw[e];exact ZcK W pb xb cb _ _ _ _ _ _ _ D R hp
       · rw[e];exact ZeZ W pb xb cb _ _ _ _ _ _ _ D R hp
structure Sc (w:World)(ao:Option Addr)(n:Nat)(os:List OpE):Prop where
 len:os.length=n
 cell:∀j (h:j<os.length),∃bl off,ao=some ⟨bl,off,none⟩∧bl<w.heap.size∧∀f,f<6→w.cell? ⟨bl,off+j*6+f,none⟩=(opC os[j])[f]?
def Ks (w:World)(kb:Nat)(ks:List Int):Prop:=kb<w.heap.size∧∀j (h:j<ks.length),w.cell? ⟨kb,j,none⟩=some (.int .i64 ks[j])
theorem Zcs {B:Nat}{w w':World}(h:Below B w w'){a:Addr}(hb:a.block<B):w'.cell? a=w.cell? a:=World.cell?_of_block (h.block a.block hb)
def Zdq (n:Nat)(I:Nat→World→Prop)(e:Ending)(w':World):Prop:=e=.returned (.bool true)∧I n w'
theorem Zir (ks:List Int)(k:Int)(t:Nat)(h:t<ks.length):(ks.take (t+1)).any (fun x=>k==x)=((ks.take t).any (fun x=>k==x)||(k==ks[t])):=by
 rw[List.take_succ_eq_append_getElem h,List.any_append];simp
theorem lplays (w0:World)(ao:Option Addr)(n cap kb kcap:Nat)(os:List OpE)(ks:List Int)(most:Int)(I J:Nat→World→Prop)(hsc:Sc w0 ao n os)(hks:Ks w0 kb ks)(hn:n≤4611686018427387904)(hkn:ks.length≤100)
 (hbelow:∀k W,I k W→Below w0.heap.size w0 W)
 (h0:I 0 (w0.alloc (.cells (ZM ZH ZH ZH ZH 0 most) 34)))
 (hkeep:∀k W W',I k W→Za (fun _=>False) W W'→I k W')
 (hskip:∀k W,I k W→I (k+1) W)
 (hstep:∀k W (hk:k<os.length),I k W→ks.any (fun x=>os[k].kd==x)=true→Calls Tryz.prog 9 #[.pointer (some ⟨w0.heap.size,0,none⟩),.agg #[.int .i64 os[k].kd,.int .i64 os[k].a,.int .i64 os[k].b,.int .i64 os[k].c,.string os[k].s,.slice os[k].ao os[k].n os[k].cap]] W fun e w'=>e=.returned (.bool true)∧J k w')
 (hwhole:∀k W,k<os.length→J k W→Calls Tryz.prog 10 #[.pointer (some ⟨w0.heap.size,1,none⟩)] W fun e w'=>e=.returned (.bool true)∧I (k+1) w'):
 Calls Tryz.prog 8 #[.slice ao n cap,.slice (some ⟨kb,0,none⟩) ks.length kcap,.int .i64 most] w0 fun e w'=>Zdq n I e w':=by
 have hl:=hsc.len;have HSC:=hid hsc;have HKS:=hid hks;have HBE:=hid hbelow;have H0:=hid h0;have HKE:=hid hkeep;have HSK:=hid hskip;have HST:=hid hstep;have HWH:=hid hwhole;clear hsc hks hbelow h0 hkeep hskip hstep hwhole;go_enter Tryz.func8,Tryz.ntmps8;go_wp2
 go_loopw [8] (fun i wr=>∃k:Nat,k≤n∧i=.int .i64 k∧Hid (I k wr)) (fun i _=>n-(intOf i).toNat)
 case atStart=>exact⟨0,Nat.zero_le _,rfl,H0⟩
 case round=>
  obtain⟨k,hk,rfl,HI⟩:=hrel;by_cases hlt:k<n
  · have hlt':k<os.length:=by omega
    obtain⟨bl,off,hao,hbl,hcell⟩:=HSC.out.cell k hlt';obtain⟨o,ho⟩:∃o,o=os[k]:=⟨_,rfl⟩;rw[←ho]at hcell;have HCELL:Hid (∀W,Below w0.heap.size w0 W→∀f,f<6→W.cell? ⟨bl,off+k*6+f,none⟩=(opC o)[f]?):=fun W hW f hf=>(Zcs hW hbl).trans (hcell f hf);have HO:=hid ho;subst hao;clear hcell ho;go_wp2
    go_loopw [9,10] (fun inn j wy=>∃t:Nat,t≤ks.length∧j=.int .i64 t∧inn=.bool ((ks.take t).any (fun x=>o.kd==x))∧Hid (I k wy)) (fun _ j _=>ks.length-(intOf j).toNat)
    case atStart=>exact⟨0,Nat.zero_le _,rfl,rfl,HI⟩
    case round=>
     obtain⟨t,ht,rfl,rfl,HI2⟩:=hrel;have hB:=HBE.out k wr HI2.out;have s0:wr.cell? ⟨bl,off+k*6,none⟩=some (.int .i64 o.kd):=HCELL.out wr hB 0 (by omega);by_cases hts:t<ks.length
     · have kc:wr.cell? ⟨kb,t,none⟩=some (.int .i64 ks[t]):=(Zcs hB HKS.out.1).trans (HKS.out.2 t hts);have HAN:Hid ((ks.take (t+1)).any (fun x=>o.kd==x)=((ks.take t).any (fun x=>o.kd==x)||(o.kd==ks[t]))):=Zir ks o.kd t hts;generalize ks[t]=kt at*
       generalize hin:(ks.take t).any (fun x=>o.kd==x)=inn at*
       clear hB hin;cases inn with
       |true=>
        clear s0 kc
        go_wp2_with fail
        go_quiet (fail)
        go_wp2
        go_roundw
        case rel=>exact⟨t+1,by omega,by go_num,by rw[HAN.out,Bool.true_or],HKE.out _ _ _ HI2.out ((Za.refl _ _).drewN _)⟩
        case measure=>simp[intOf];omega
       |false=>
        cases hkt:(o.kd==kt)with
        |true=>
         rw[hkt]at HAN
         go_wp2_with fail
         go_quiet (fail)
         go_wp2
         go_roundw
         case rel=>exact⟨t+1,by omega,by go_num,by rw[HAN.out];rfl,HKE.out _ _ _ HI2.out ((Za.refl _ _).drewN _)⟩
         case measure=>simp[intOf];omega
        |false=>
         rw[hkt]at HAN
         go_wp2_with fail
         go_quiet (fail)
         go_wp2
         go_roundw
         case rel=>exact⟨t+1,by omega,by go_num,by rw[HAN.out];rfl,HKE.out _ _ _ HI2.out ((Za.refl _ _).drewN _)⟩
         case measure=>simp[intOf];omega
     · have htt:t=ks.length:=by omega
       subst htt;rw[List.take_length];generalize hin:ks.any (fun x=>o.kd==x)=inn;cases inn with
       |false=>
        clear hB s0;go_wp2
        go_roundw
        case rel=>exact⟨k+1,by omega,by go_num,HSK.out _ _ HI2.out⟩
        case measure=>simp[intOf];omega
       |true=>
        have s1:wr.cell? ⟨bl,off+k*6+1,none⟩=some (.int .i64 o.a):=HCELL.out wr hB 1 (by omega);have s2:wr.cell? ⟨bl,off+k*6+2,none⟩=some (.int .i64 o.b):=HCELL.out wr hB 2 (by omega);have s3:wr.cell? ⟨bl,off+k*6+3,none⟩=some (.int .i64 o.c):=HCELL.out wr hB 3 (by omega);have s4:wr.cell? ⟨bl,off+k*6+4,none⟩=some (.string o.s):=HCELL.out wr hB 4 (by omega);have s5:wr.cell? ⟨bl,off+k*6+5,none⟩=some (.slice o.ao o.n o.cap):=HCELL.out wr hB 5 (by omega);have HS2:Hid (Calls Tryz.prog 9 #[.pointer (some ⟨w0.heap.size,0,none⟩),.agg #[.int .i64 o.kd,.int .i64 o.a,.int .i64 o.b,.int .i64 o.c,.string o.s,.slice o.ao o.n o.cap]] wr fun e w'=>e=.returned (.bool true)∧Hid (J k w')):=by
         have:=HST.out k wr hlt' HI2.out (by rw[←HO.out];exact hin);rw[←HO.out]at this;exact this
        clear hB hin
        go_wp2_with first
         |(go_at_call 9;refine HS2.out.mono ?_;rintro e w1 ⟨rfl,hj1⟩)
         |(go_at_call 10;refine(HWH.out k w1 hlt' hj1.out).mono ?_;rintro e w2 ⟨rfl,hi2⟩)
        go_roundw
        case rel=>exact⟨k+1,by omega,by go_num,hi2⟩
        case measure=>simp[intOf];omega
  · have hkk:k=n:=by omega
    subst hkk;go_wp2;go_ret;exact⟨rfl,HI.out⟩
theorem Zb6 {α:Type}(l:List α)(i p:Nat):(l.eraseIdx i)[p]?=l[if p<i then p else p+1]? :=by
 rw[List.getElem?_eraseIdx]
 split<;>rfl
theorem Zbe {α β:Type}(f:α→β)(l:List α)(i:Nat):(l.eraseIdx i).map f=(l.map f).eraseIdx i:=by
 refine List.ext_getElem? fun p=> ?_;rw[List.getElem?_map,Zb6,Zb6,List.getElem?_map]
theorem ZX.remove {l:List Zj}{us:List Int}{s:Zb}{n:ZD}(h:ZX l us s n)(i:Nat):ZX l us (s.remove i) {n with ents:=n.ents.eraseIdx i,nms:=n.nms.eraseIdx i}:=by
 refine⟨h.up,h.hz,h.since,?_,h.fls,h.flk,h.wts,h.wtk,h.hist,h.top,?_,fun x hx=>h.used x (List.mem_of_mem_eraseIdx hx),fun p q x y a b hx hy ha hb=> ?_⟩
 · show n.ents.eraseIdx i=(s.ents.eraseIdx i).map (·.e);rw[Zbe,h.ents]
 · show(n.nms.eraseIdx i).length=(s.ents.eraseIdx i).length;have:=h.nml;rw[List.length_eraseIdx,List.length_eraseIdx,this]
 · have hx':(s.ents.eraseIdx i)[p]?=some x:=hx;have hy':(s.ents.eraseIdx i)[q]?=some y:=hy;have ha':(n.nms.eraseIdx i)[p]?=some a:=ha;have hb':(n.nms.eraseIdx i)[q]?=some b:=hb;rw[Zb6]at hx' hy' ha' hb';exact h.order _ _ x y a b hx' hy' ha' hb'
theorem ZX.take {l:List Zj}{us:List Int}{s:Zb}{n:ZD}(h:ZX l us s n)(i:Nat):ZX l us (s.take i) {n with fls:=n.fls.eraseIdx i}:=by
 refine⟨h.up,h.hz,h.since,h.ents,?_,fun c hc=>h.flk c (List.mem_of_mem_eraseIdx hc),h.wts,h.wtk,h.hist,h.top,h.nml,h.used,h.order⟩;show n.fls.eraseIdx i=(s.flight.eraseIdx i).map (·.1);rw[Zbe,h.fls]
theorem ZX.copy {l:List Zj}{us:List Int}{s:Zb}{n:ZD}(h:ZX l us s n){c:Nat×Int}(hc:c∈s.flight):ZX l us (s.copy c) {n with fls:=n.fls++[c.1]}:=by
 refine⟨h.up,h.hz,h.since,h.ents,?_,fun d hd=> ?_,h.wts,h.wtk,h.hist,h.top,h.nml,h.used,h.order⟩
 · show n.fls++[c.1]=(s.flight++[c]).map (·.1);rw[List.map_append,h.fls];rfl
 · have hd':d∈s.flight++[c]:=hd;rw[List.mem_append,List.mem_singleton]at hd';rcases hd' with hd'|rfl
   · exact h.flk d hd'
   · exact h.flk d hc
theorem ZX.fell {l:List Zj}{us:List Int}{s:Zb}(hl:0<l.length):ZX l us s.fall.clear ⟨false,0,0,[],[],[],[]⟩:=
 ⟨rfl,rfl,Nat.le_refl _,rfl,rfl,fun c hc=>(by cases hc),rfl,fun c hc=>(by cases hc),rfl,hl,rfl,fun x hx=>(by cases hx),fun i j x y a b hx=>by have hx':([]:List Zu)[i]?=some x:=hx;simp at hx'⟩
theorem ZX.rise {l:List Zj}{us:List Int}{s:Zb}{n:ZD}(h:ZX l us s n){t:Nat}(ht:t<l.length):ZX l us (s.rise t) ⟨true,t,t,n.fls,[],[],[]⟩:=
 ⟨rfl,rfl,Nat.le_refl _,rfl,h.fls,h.flk,rfl,fun c hc=>(by cases hc),by show[]=XE l t t;unfold XE;rw[show t-max t (t-6)=0 by omega];rfl,ht,rfl,fun x hx=>(by cases hx),fun i j x y a b hx=>by have hx':([]:List Zu)[i]?=some x:=hx;simp at hx'⟩
theorem ZhG {l:List Zj}{a b:Nat}(h:a≤b):Ye (XE l a b) (b+1,Ya l (b+1))=XE l a (b+1):=by
 have hlen:(XE l a b).length=b-max a (b-6):=by simp[XE]
 unfold Ye;rw[hlen];have hsn:XE l a b++[(b+1,Ya l (b+1))]=(List.range' (max a (b-6)+1) (b-max a (b-6)+1)).map fun t=>(t,Ya l t):=by
  rw[List.range'_concat,List.map_append];unfold XE;rw[show max a (b-6)+1+1*(b-max a (b-6))=b+1 by omega];rfl
 rw[hsn];unfold XE;by_cases hc:b-max a (b-6)+1≤6
 · rw[if_pos hc];rw[show max a (b+1-6)=max a (b-6) by omega,show b+1-max a (b-6)=b-max a (b-6)+1 by omega]
 · rw[if_neg hc];rw[show b-max a (b-6)+1=(b+1-max a (b+1-6))+1 by omega,List.range'_succ,List.map_cons,List.tail_cons];rw[show max a (b-6)+1=max a (b+1-6) by omega]
theorem Zj7 (l:List Zj)(t:Nat)(x:Zu)(ht:t<l.length):(YT t (Ya l t) x).e=YU l t x.e:=by
 obtain⟨p,hp⟩:∃p,l[t]?=some p:=⟨_,List.getElem?_eq_getElem ht⟩;have e1:ZfQ (Ya l t) x.e.q=ZU l (Xk x.e.q) t:=by
  rw[Xb _ hp];unfold ZfQ Ya;rw[hp];rfl
 unfold YT YU;rw[e1]
 split<;>rfl
theorem Zaw (t:Nat)(K:Int)(x:Zu):(YT t K x).used=x.used:=by unfold YT;split<;>rfl
theorem ZX.hearOne {l:List Zj}{us:List Int}{s:Zb}{n:ZD}(h:ZX l us s n)(ht:n.horizon+1<l.length):ZX l us (s.hearOne (Ya l (s.horizon+1))) (rhearOne l n):=by
 have hhz:=h.hz;have hs:=h.since;refine⟨h.up,?_,?_,?_,h.fls,h.flk,h.wts,h.wtk,?_,ht,?_,?_,?_⟩
 · show n.horizon+1=s.horizon+1;rw[hhz]
 · show n.since≤n.horizon+1;omega
 · show n.ents.map (YU l (n.horizon+1))=(s.ents.map (YT (s.horizon+1) (Ya l (s.horizon+1)))).map (·.e);rw[h.ents,List.map_map,List.map_map,←hhz];refine List.map_congr_left fun x _=> ?_;exact(Zj7 l (n.horizon+1) x ht).symm
 · show Ye s.hists (s.horizon+1,Ya l (s.horizon+1))=XE l n.since (n.horizon+1);rw[h.hist,←hhz];exact ZhG hs
 · show n.nms.length=(s.ents.map _).length;rw[List.length_map];exact h.nml
 · intro x hx;have hx':x∈s.ents.map (YT (s.horizon+1) (Ya l (s.horizon+1))):=hx;obtain⟨y,hy,rfl⟩:=List.mem_map.mp hx';rw[Zaw];exact h.used y hy
 · intro i j x y a b hx hy ha hb;have hx':(s.ents.map (YT (s.horizon+1) (Ya l (s.horizon+1))))[i]?=some x:=hx;have hy':(s.ents.map (YT (s.horizon+1) (Ya l (s.horizon+1))))[j]?=some y:=hy;rw[List.getElem?_map]at hx' hy';obtain⟨x0,hx0,rfl⟩:=Option.map_eq_some_iff.mp hx';obtain⟨y0,hy0,rfl⟩:=Option.map_eq_some_iff.mp hy';rw[Zaw,Zaw];exact h.order i j x0 y0 a b hx0 hy0 ha hb
theorem XM {l:List (Nat×Int)}{t:Nat}:ZB l t=false↔(l.map (·.1)).findIdx? (fun x=>decide (x=t))=none:=by
 rw[List.findIdx?_eq_none_iff];unfold ZB;rw[List.any_eq_false];constructor
 · intro h x hx;obtain⟨c,hc,rfl⟩:=List.mem_map.mp hx;simpa using h c hc
 · intro h c hc;simpa using h c.1 (List.mem_map_of_mem hc)
theorem ZaI :∀{l:List (Nat×Int)}{t i:Nat},(l.map (·.1)).Nodup→(l.map (·.1)).findIdx? (fun x=>decide (x=t))=some i→(l.filter fun c=>decide (c.1≠t))=l.eraseIdx i
 |[],t,i,_,h=>by simp at h
 |c::r,t,i,hn,h=>by
  rw[List.map_cons,List.nodup_cons]at hn;rw[List.map_cons,List.findIdx?_cons]at h;by_cases hc:c.1=t
  · rw[if_pos (by simpa using hc)]at h;injection h with h;subst h;rw[List.eraseIdx_zero,List.tail_cons,List.filter_cons_of_neg (by simpa using hc)];refine List.filter_eq_self.mpr fun d hd=> ?_;have:d.1≠t:=fun e=>hn.1 (by rw[hc,←e];exact List.mem_map_of_mem hd);simpa using this
  · rw[if_neg (by simpa using hc)]at h;obtain⟨j,hj,rfl⟩:=Option.map_eq_some_iff.mp h;rw[List.filter_cons_of_pos (by simpa using hc),List.eraseIdx_cons_succ,ZaI hn.2 hj]
theorem ZhF {l:List (Nat×Int)}{t:Nat}{K:Int}(hk:∀c∈l,c.1=t→c.2=K)(hw:ZB l t=true):YV l t=K:=by
 have key:∀(l:List (Nat×Int))(K0:Int),(∀c∈l,c.1=t→c.2=K)→(ZB l t=true∨K0=K)→l.foldl (fun K c=>if c.1=t then c.2 else K) K0=K:=by
  intro l
  induction l with
  |nil=>
   intro K0 _ h0;rcases h0 with h0|h0
   · simp[ZB]at h0
   · exact h0
  |cons c r ih=>
   intro K0 hk h0;rw[List.foldl_cons];refine ih _ (fun d hd=>hk d (List.mem_cons_of_mem _ hd)) ?_;by_cases hc:c.1=t
   · right;rw[if_pos hc];exact hk c (List.mem_cons_self ..) hc
   · rw[if_neg hc];rcases h0 with h0|h0
     · left;unfold ZB at h0⊢;rw[List.any_cons]at h0;simpa[hc]using h0
     · exact .inr h0
 exact key l 0 hk (.inl hw)
def VG (l:List Zj):Nat→ZD→ZD
 |0,p=>p
 |m+1,p=>match p.wts.findIdx? (fun x=>decide (x=p.horizon+1))with
  |none=>p
  |some i=>VG l m (rhearOne l {p with wts:=p.wts.eraseIdx i})
theorem VS (l:List Zj):∀(m:Nat)(p:ZD),VP l m p=VG l m (rhearOne l p)
 |0,p=>rfl
 |m+1,p=>by
  rw[VP,VG];show _=match p.wts.findIdx? (fun x=>decide (x=p.horizon+1+1))with
   |none=>rhearOne l p
   |some i=>VG l m (rhearOne l {rhearOne l p with wts:=(rhearOne l p).wts.eraseIdx i})
  cases p.wts.findIdx? (fun x=>decide (x=p.horizon+1+1))with
  |none=>rfl
  |some i=>exact VS l m _
theorem ZX.go {l:List Zj}{us:List Int}{t u:Nat}(hl:l.length=t+1):∀(m:Nat)(s:Zb)(n:ZD),ZX l us s n→s.Near t u→s.waits.length≤m→∀m',s.waits.length≤m'→ZX l us (Zb.hearGo m s) (VG l m' n)
 |0,s,n,h,hg,hm,m',hm'=>by
  have e:s.waits=[]:=List.eq_nil_of_length_eq_zero (by omega);have e2:n.wts=[]:=by rw[h.wts,e];rfl
  cases m' with
  |zero=>exact h
  |succ m'=>
   unfold VG;rw[e2];exact h
 |m+1,s,n,h,hg,hm,m',hm'=>by
  have hwt:=h.wts;have hhz:=h.hz;cases hw:ZB s.waits (s.horizon+1)with
  |false=>
   have hf:=XM.mp hw;have e1:s.dropNext=s:=by
    unfold Zb.dropNext;have:(s.waits.filter fun c=>decide (c.1≠s.horizon+1))=s.waits:=by
     refine List.filter_eq_self.mpr fun c hc=> ?_;unfold ZB at hw;rw[List.any_eq_false]at hw;simpa using hw c hc
    rw[this]
   have e2:VG l m' n=n:=by
    cases m' with
    |zero=>rfl
    |succ m'=>
     unfold VG;rw[hwt,hhz,hf]
   unfold Zb.hearGo;rw[hw,if_neg (by simp),e1,e2];exact h
  |true=>
   obtain⟨c,hc,hce⟩:=Zb1 hw;have hpos:0<s.waits.length:=List.length_pos_of_mem hc;obtain⟨i,hi⟩:∃i,(s.waits.map (·.1)).findIdx? (fun x=>decide (x=s.horizon+1))=some i:=by
    cases hf:(s.waits.map (·.1)).findIdx? (fun x=>decide (x=s.horizon+1))with
    |none=>rw[XM.mpr hf]at hw;cases hw
    |some i=>exact⟨i,rfl⟩
   have hef:=ZaI hg.wn hi;have hil:i<s.waits.length:=by
    have:=(List.findIdx?_eq_some_iff_getElem.mp hi).1;simpa using this
   have hkey:YV s.waits (s.horizon+1)=Ya l (s.horizon+1):=ZhF (fun d hd e=>by rw[←e];exact(h.wtk d hd).2) hw;have hct:=(hg.ws c hc).2.2;have hlt:s.horizon+1<l.length:=by omega
   match m' with
   |0=>omega
   |m'+1=>
    have h1:ZX l us s.dropNext {n with wts:=n.wts.eraseIdx i}:=by
     refine⟨h.up,h.hz,h.since,h.ents,h.fls,h.flk,?_,?_,h.hist,h.top,h.nml,h.used,h.order⟩
     · show n.wts.eraseIdx i=(s.waits.filter _).map (·.1);rw[hef,Zbe,hwt]
     · intro d hd;exact h.wtk d (List.mem_filter.mp hd).1
    have h2:=h1.hearOne (by show n.horizon+1<l.length;omega);have h3:s.dropNext.horizon=s.horizon:=rfl;rw[h3,←hkey]at h2;have hlen:s.dropNext.waits.length≤m∧s.dropNext.waits.length≤m':=by
     show(s.waits.filter _).length≤m∧(s.waits.filter _).length≤m';rw[hef,List.length_eraseIdx_of_lt hil];omega
    have hnear:=hg.dropped.near hg.up (by show s.horizon<t;omega) (YV s.waits (s.horizon+1));have:=ZX.go hl m _ _ h2 hnear hlen.1 m' hlen.2;have hfi:n.wts.findIdx? (fun x=>decide (x=n.horizon+1))=some i:=by rw[hwt,hhz];exact hi
    have e2:VG l (m'+1) n=VG l m' (rhearOne l {n with wts:=n.wts.eraseIdx i}):=by rw[VG,hfi]
    rw[e2];unfold Zb.hearGo;rw[hw,if_pos rfl];exact this
theorem ZX.hear {l:List Zj}{us:List Int}{s:Zb}{n:ZD}{t u:Nat}(h:ZX l us s n)(hl:l.length=t+1)(hg:s.Good t u)(hup:s.up=true)(hz:s.horizon<t):ZX l us (s.hear (Ya l (s.horizon+1))) (Yo l n):=by
 unfold Zb.hear Yo;rw[VS];have hhz:=h.hz;have h1:=h.hearOne (by omega);refine ZX.go hl 4 _ _ h1 (hg.near hup hz _) hg.wl _ ?_;show s.waits.length≤n.wts.length;rw[h.wts,List.length_map];exact Nat.le_refl _
def YC (l:List Zj)(n:ZD)(t:Nat):ZD:=
 if n.up=false∨t<n.horizon+1∨n.horizon+1+4<t then n
 else if t=n.horizon+1 then Yo l n
 else if YX n.wts t<0 then {n with wts:=n.wts++[t]}else n
theorem ZX.arrive {l:List Zj}{us:List Int}{s:Zb}{n:ZD}{t u:Nat}(h:ZX l us s n)(hl:l.length=t+1)(hg:s.Good t u){c:Nat}(hc:c≤t):ZX l us (s.arrive c (Ya l c)) (YC l n c):=by
 have hhz:=h.hz;have hup:=h.up;have hwt:=h.wts;unfold Zb.arrive YC;by_cases h0:s.up=false∨c≤s.horizon
 · rw[if_pos h0,if_pos (by rw[hup,hhz];rcases h0 with h0|h0;exact .inl h0;exact .inr (.inl (by omega)))];exact h
 · rw[if_neg h0];have hu:s.up=true:=by cases hh:s.up with
    |true=>rfl
    |false=>exact absurd (.inl hh) h0
   have hlt:s.horizon<c:=by have:=mt Or.inr h0;omega
   by_cases h1:c=s.horizon+1
   · subst h1;rw[if_pos rfl,if_neg (by rw[hup,hhz,hu];simp<;>omega),if_pos (by rw[hhz])];exact h.hear hl hg hu (by omega)
   · rw[if_neg h1];by_cases h2:s.horizon+5<c
     · rw[if_pos (.inl h2),if_pos (by rw[hhz];exact .inr (.inr (by omega)))];exact h
     · rw[if_neg (show¬(n.up=false∨c<n.horizon+1∨n.horizon+1+4<c) by rw[hup,hhz,hu];simp<;>omega),if_neg (show¬c=n.horizon+1 by rw[hhz];exact h1)];cases hw:ZB s.waits c with
       |true=>
        rw[if_pos (.inr rfl)];have:¬YX n.wts c<0:=by
         unfold YX;rw[hwt];cases hf:(s.waits.map (·.1)).findIdx? (fun x=>decide (x=c))with
         |none=>rw[XM.mpr hf]at hw;cases hw
         |some i=>simp
        rw[if_neg this];exact h
       |false=>
        rw[if_neg (by simp<;>omega)];have:YX n.wts c<0:=by
         unfold YX;rw[hwt,XM.mp hw];simp
        rw[if_pos this];refine⟨h.up,h.hz,h.since,h.ents,h.fls,h.flk,?_,?_,h.hist,h.top,h.nml,h.used,h.order⟩
        · show n.wts++[c]=(s.waits++[(c,Ya l c)]).map (·.1);rw[List.map_append,hwt];rfl
        · intro d hd;have hd':d∈s.waits++[(c,Ya l c)]:=hd;rw[List.mem_append,List.mem_singleton]at hd';rcases hd' with hd'|rfl
          · exact h.wtk d hd'
          · exact⟨by show c<l.length;omega,rfl⟩
def X9 (l:List Zj)(K:Int)(a:Nat):Nat→Option Nat
 |0=>none
 |m+1=>if ZU l K a then some a else X9 l K (a+1) m
theorem Zbt (l:List Zj)(K:Int):∀(m a:Nat),X9 l K a (m+1)=match X9 l K a m with
  |some s=>some s
  |none=>if ZU l K (a+m)then some (a+m)else none
 |0,a=>by simp[X9]
 |m+1,a=>by
  rw[X9,Zbt l K m (a+1)]
  conv=>rhs;rw[X9]
  by_cases h:ZU l K a=true
  · rw[if_pos h,if_pos h]
  · rw[if_neg h,if_neg h,show a+1+m=a+(m+1) by omega]
def endE (e:Zh):Option Nat→Zh
 |some s=>{e with op:=false,till:=s}
 |none=>e
def XB (l:List Zj)(K:Int)(since hz kn:Nat):Nat→Zh→Option Zh
 |0,e=>some e
 |m+1,e=>if since<kn+m+1∧hz<kn+m+1+6 then XB l K since hz kn m (if ZU l K (kn+m+1)then {e with op:=false,till:=kn+m+1}else e)else none
def Vz (l:List Zj)(since hz:Nat)(e:Zh):Option Zh:=
 if e.op=false∨hz≤e.kn then some e else(XB l (Xk e.q) since hz e.kn (hz-e.kn) e).map fun y=>if y.op then {y with kn:=hz}else y
theorem ZbN {l:List Zj}{K:Int}{since hz kn:Nat}:∀(m:Nat)(e:Zh),(∀t,kn<t→t≤kn+m→since<t∧hz<t+6)→XB l K since hz kn m e=some (endE e (X9 l K (kn+1) m))
 |0,e,_=>rfl
 |m+1,e,h=>by
  rw[XB,if_pos (h (kn+m+1) (by omega) (by omega)),ZbN m _ fun t h1 h2=>h t h1 (by omega),Zbt,show kn+1+m=kn+m+1 by omega];cases X9 l K (kn+1) m with
  |some s=>
   by_cases ht:ZU l K (kn+m+1)=true
   · rw[if_pos ht];rfl
   · rw[if_neg ht]
  |none=>
   by_cases ht:ZU l K (kn+m+1)=true
   · rw[if_pos ht,if_pos ht];rfl
   · rw[if_neg ht,if_neg ht]
theorem Zde {l:List Zj}{K:Int}{since hz kn:Nat}:∀(m:Nat)(e:Zh),0<m→¬(since<kn+1∧hz<kn+1+6)→XB l K since hz kn m e=none
 |0,e,h,_=>by omega
 |m+1,e,_,h=>by
  rw[XB]
  split
  · by_cases hm:m=0
    · subst hm
      rename_i hc
      exact absurd hc h
    · exact Zde m _ (by omega) h
  · rfl
theorem Zbm (l:List Zj)(a b t:Nat):Yu (XE l a b) t=if max a (b-6)<t∧t≤b then some (Ya l t)else none:=by
 unfold Yu XE;rw[List.find?_map];have hf:(List.range' (max a (b-6)+1) (b-max a (b-6))).find? ((fun c:Nat×Int=>decide (c.1=t))∘fun t=>(t,Ya l t))=if max a (b-6)<t∧t≤b then some t else none:=by
  split
  · rename_i hc
    have hm:t∈List.range' (max a (b-6)+1) (b-max a (b-6)):=by
     rw[List.mem_range'];exact⟨t-(max a (b-6)+1),by omega,by omega⟩
    cases hh:(List.range' (max a (b-6)+1) (b-max a (b-6))).find? ((fun c:Nat×Int=>decide (c.1=t))∘fun t=>(t,Ya l t))with
    |none=>
     rw[List.find?_eq_none]at hh;exact absurd (by simp) (hh t hm)
    |some x=>
     have:=List.find?_some hh;have:x=t:=by simpa using this
     rw[this]
  · rename_i hc
    rw[List.find?_eq_none];intro x hx;rw[List.mem_range']at hx;obtain⟨i,hi,rfl⟩:=hx;simp;omega
 rw[hf]
 split<;>rfl
theorem ZaJ {l:List Zj}{L:List (Nat×Int)}{K:Int}:∀(m t:Nat)(e:Zh),(∀s,t≤s→s<t+m→s<l.length∧Yu L s=some (Ya l s))→Zb.caughtGo L K m t e=some (if e.op then endE e (X9 l K t m)else e)
 |0,t,e,_=>by cases h:e.op<;>simp[Zb.caughtGo,X9,endE]
 |m+1,t,e,h=>by
  obtain⟨h1,h2⟩:=h t (Nat.le_refl _) (by omega);rw[Zb.caughtGo,h2];dsimp only;rw[ZaJ m (t+1) _ fun s h3 h4=>h s (by omega) (by omega)];obtain⟨p,hp⟩:∃p,l[t]?=some p:=⟨_,List.getElem?_eq_getElem h1⟩;have ht:(bits .and .u8 (Ya l t) K !=0)=ZU l K t:=by
   rw[Xb _ hp];unfold Ya;rw[hp];rfl
  rw[ht,X9];obtain⟨eq,ev,ef,et,eo,ek⟩:=e;cases eo with
  |false=>simp
  |true=>
   cases hb:ZU l K t with
   |true=>simp[endE]
   |false=>simp
theorem ZeB {L:List (Nat×Int)}{K:Int}{m t:Nat}{e:Zh}(hm:0<m)(h:Yu L t=none):Zb.caughtGo L K m t e=none:=by
 match m with
 |m+1=>rw[Zb.caughtGo,h]
theorem ZX.caught {l:List Zj}{us:List Int}{s:Zb}{n:ZD}(h:ZX l us s n)(e:Zh):s.caught e=Vz l n.since n.horizon e:=by
 have hhz:=h.hz;have htop:=h.top;unfold Zb.caught Vz;rw[hhz];by_cases hc:e.op=false∨s.horizon≤e.kn
 · rw[if_pos hc,if_pos hc]
 · rw[if_neg hc,if_neg hc];have ho:e.op=true:=by cases hh:e.op with
    |true=>rfl
    |false=>exact absurd (.inl hh) hc
   have hlt:e.kn<s.horizon:=by have:=mt Or.inr hc;omega
   have hhist:=h.hist;rw[hhz]at hhist htop;rw[hhist];by_cases hr:max n.since (s.horizon-6)≤e.kn
   · rw[ZaJ (l:=l) _ _ _ fun t h1 h2=>⟨by omega,by rw[Zbm,if_pos (by omega)]⟩,ZbN _ _ fun t h1 h2=>by omega,if_pos ho]
   · rw[ZeB (by omega) (by rw[Zbm,if_neg (by omega)]),Zde _ _ (by omega) (by omega)]
theorem ZbV {l:List Zj}{us:List Int}{s:Zb}{n:ZD}(h:ZX l us s n):∀m,m≤s.ents.length→
  (0≤ZF n.ents m→ZF n.ents m=(ZE s.ents m:Int)∧∃y,s.ents[ZE s.ents m]?=some y∧y.e.op=false)∧
  (ZF n.ents m<0→(∀i x,i<m→s.ents[i]?=some x→x.e.op=true)∧Yv us n.nms m=ZE s.ents m)
 |0,_=>⟨fun h=>by simp[ZF]at h,fun _=>⟨fun i x hi=>by omega,rfl⟩⟩
 |m+1,hm=>by
  obtain⟨ih1,ih2⟩:=ZbV h m (by omega);have hml:m<s.ents.length:=hm;obtain⟨x,hx⟩:∃x,s.ents[m]?=some x:=⟨_,List.getElem?_eq_getElem hml⟩;have hex:n.ents[m]?=some x.e:=by rw[h.ents,List.getElem?_map,hx];rfl
  have hb:ZE s.ents m<s.ents.length:=by rcases VK s.ents m with h1|h1<;>omega
  obtain⟨y,hy⟩:∃y,s.ents[ZE s.ents m]?=some y:=⟨_,List.getElem?_eq_getElem hb⟩;have hey:n.ents[ZE s.ents m]?=some y.e:=by rw[h.ents,List.getElem?_map,hy];rfl
  have hnl:=h.nml;obtain⟨a,ha⟩:∃a,n.nms[m]?=some a:=⟨_,List.getElem?_eq_getElem (by omega)⟩;obtain⟨c,hc⟩:∃c,n.nms[ZE s.ents m]?=some c:=⟨_,List.getElem?_eq_getElem (by omega)⟩;have hL:ZE s.ents (m+1)=if Xx x y then m else ZE s.ents m:=by
   rw[ZE,hx,hy]
  have hC:ZF n.ents (m+1)=if x.e.op=false∧(ZF n.ents m<0∨∃y,n.ents[(ZF n.ents m).toNat]?=some y∧x.e.till<y.till)then(m:Int)else ZF n.ents m:=by
   rw[ZF,hex]
  by_cases hneg:ZF n.ents m<0
  · obtain⟨i1,i2⟩:=ih2 hneg;cases hxo:x.e.op with
    |false=>
     have hC':ZF n.ents (m+1)=(m:Int):=by rw[hC,if_pos ⟨hxo,.inl hneg⟩]
     have hL':ZE s.ents (m+1)=m:=by
      by_cases hm0:ZE s.ents m<m
      · have hyo:=i1 _ y hm0 hy;rw[hL,if_pos (by simp[Xx,hxo,hyo])]
      · have h0:ZE s.ents m=0:=by rcases VK s.ents m with h1|h1;exact h1;omega
        have hm1:m=0:=by omega
        rw[hL]
        split
        · rfl
        · omega
     refine⟨fun _=>⟨by rw[hC',hL'],x,by rw[hL'];exact hx,hxo⟩,fun hn=>by rw[hC']at hn;omega⟩
    |true=>
     have hC':ZF n.ents (m+1)=ZF n.ents m:=by rw[hC,if_neg (by rw[hxo];simp)]
     refine⟨fun hn=>by rw[hC']at hn;omega,fun _=>⟨fun i z hi hz=> ?_,?_⟩⟩
     · by_cases he:i=m
       · subst he;rw[hx]at hz;injection hz with hz;subst hz;exact hxo
       · exact i1 i z (by omega) hz
     · have hyo:y.e.op=true:=by
        by_cases hm0:ZE s.ents m<m
        · exact i1 _ y hm0 hy
        · have h0:ZE s.ents m=m:=by rcases VK s.ents m with h1|h1<;>omega
          rw[h0,hx]at hy;injection hy with hy;subst hy;exact hxo
       have ho:=h.order m (ZE s.ents m) x y a c hx hy ha hc;unfold V2 at ho;rw[Yv,i2,ha,hc,hL];dsimp only;by_cases hlt:x.used<y.used
       · rw[if_pos (ho.mp hlt),if_pos (by simp[Xx,hxo,hyo];omega)]
       · rw[if_neg (fun hh=>hlt (ho.mpr hh)),if_neg (by simp[Xx,hxo,hyo];omega)]
  · obtain⟨i1,y',hy',hyo⟩:=ih1 (by omega);rw[hy]at hy';injection hy' with hy';subst hy';cases hxo:x.e.op with
    |false=>
     have hex2:(∃z,n.ents[(ZF n.ents m).toNat]?=some z∧x.e.till<z.till)↔x.e.till<y.e.till:=by
      rw[i1,Int.toNat_natCast,hey];exact⟨fun⟨z,hz,hlt⟩=>by injection hz with hz;subst hz;exact hlt,fun hlt=>⟨_,rfl,hlt⟩⟩
     by_cases hlt:x.e.till<y.e.till
     · have hC':ZF n.ents (m+1)=(m:Int):=by rw[hC,if_pos ⟨hxo,.inr (hex2.mpr hlt)⟩]
       have hL':ZE s.ents (m+1)=m:=by rw[hL,if_pos (by simp[Xx,hxo,hyo];omega)]
       exact⟨fun _=>⟨by rw[hC',hL'],x,by rw[hL'];exact hx,hxo⟩,fun hn=>by rw[hC']at hn;omega⟩
     · have hC':ZF n.ents (m+1)=ZF n.ents m:=by rw[hC,if_neg (fun hh=>hh.2.elim hneg fun h2=>hlt (hex2.mp h2))]
       have hL':ZE s.ents (m+1)=ZE s.ents m:=by rw[hL,if_neg (by simp[Xx,hxo,hyo];omega)]
       exact⟨fun _=>⟨by rw[hC',hL',i1],y,by rw[hL'];exact hy,hyo⟩,fun hn=>by rw[hC']at hn;omega⟩
    |true=>
     have hC':ZF n.ents (m+1)=ZF n.ents m:=by rw[hC,if_neg (by rw[hxo];simp)]
     have hL':ZE s.ents (m+1)=ZE s.ents m:=by rw[hL,if_neg (by simp[Xx,hxo,hyo])]
     exact⟨fun _=>⟨by rw[hC',hL',i1],y,by rw[hL'];exact hy,hyo⟩,fun hn=>by rw[hC']at hn;omega⟩
theorem ZX.goes {l:List Zj}{us:List Int}{s:Zb}{nd:Zi}(h:ZX l us s nd.p):XH us nd=(ZE s.ents s.ents.length:Int):=by
 have hl:nd.ents.length=s.ents.length:=by have:nd.ents=s.ents.map (·.e):=h.ents;rw[this,List.length_map]
 obtain⟨h1,h2⟩:=ZbV h s.ents.length (Nat.le_refl _);unfold XH;rw[hl];by_cases hn:0≤ZF nd.ents s.ents.length
 · rw[if_pos hn];exact(h1 hn).1
 · rw[if_neg hn];have:=(h2 (by show ZF nd.ents s.ents.length<0;omega)).2;have this':Yv us nd.nms s.ents.length=ZE s.ents s.ents.length:=this;rw[this']
theorem ZX.same {l:List Zj}{us:List Int}{s:Zb}{n:ZD}(h:ZX l us s n)(e:Zh):s.sameI e=n.ents.findIdx? (fun x=>decide (Z0 x e)):=by
 unfold Zb.sameI;rw[h.ents,List.findIdx?_map];rfl
theorem ZX.merge {l:List Zj}{us:List Int}{s:Zb}{n:ZD}(h:ZX l us s n){j:Nat}{x:Zu}(e:Zh)(hx:s.ents[j]?=some x):ZX l us (s.merge j x e) {n with ents:=n.ents.set j (ZT x.e e)}:=by
 obtain⟨hj,hx'⟩:=List.getElem?_eq_some_iff.mp hx;have hu:∀(i:Nat)(z:Zu),(s.merge j x e).ents[i]?=some z→∃z',s.ents[i]?=some z'∧z.used=z'.used:=by
  intro i z hz;have hz':(s.ents.set j ⟨ZT x.e e,x.used⟩)[i]?=some z:=hz;by_cases hi:i=j
  · subst hi;rw[List.getElem?_set_self hj]at hz';injection hz' with hz';subst hz';exact⟨x,hx,rfl⟩
  · rw[List.getElem?_set_ne (fun e=>hi e.symm)]at hz';exact⟨z,hz',rfl⟩
 refine⟨h.up,h.hz,h.since,?_,h.fls,h.flk,h.wts,h.wtk,h.hist,h.top,?_,?_,?_⟩
 · show n.ents.set j (ZT x.e e)=(s.ents.set j ⟨ZT x.e e,x.used⟩).map (·.e);rw[List.map_set,h.ents]
 · show n.nms.length=(s.ents.set j _).length;rw[List.length_set];exact h.nml
 · intro z hz;rcases List.mem_or_eq_of_mem_set hz with hz|rfl
   · exact h.used z hz
   · exact h.used x (List.mem_of_getElem? hx)
 · intro p q y z a b hy hz ha hb;obtain⟨y',hy',e1⟩:=hu p y hy;obtain⟨z',hz',e2⟩:=hu q z hz;rw[e1,e2];exact h.order p q y' z' a b hy' hz' ha hb
theorem ZX.lay0 {l:List Zj}{us:List Int}{s:Zb}{n:ZD}(h:ZX l us s n)(e:Zh){nm:Int}(hf:∀a∈n.nms,a≠nm):ZX l (us++[nm]) (s.lay0 e) {n with ents:=n.ents++[e],nms:=n.nms++[nm]}:=by
 have hnl:=h.nml;have hat:∀(i:Nat)(x:Zu)(a:Int),(s.ents++[⟨e,s.uses+1⟩])[i]?=some x→(n.nms++[nm])[i]?=some a→(i<s.ents.length∧s.ents[i]?=some x∧n.nms[i]?=some a∧x.used≤s.uses∧V2 (us++[nm]) a=V2 us a)∨(x.used=s.uses+1∧V2 (us++[nm]) a=(us.length:Int)):=by
  intro i x a hx ha;by_cases hi:i<s.ents.length
  · rw[List.getElem?_append_left hi]at hx;rw[List.getElem?_append_left (by omega)]at ha;exact .inl ⟨hi,hx,ha,h.used x (List.mem_of_getElem? hx),VH (hf a (List.mem_of_getElem? ha))⟩
  · right;have hi2:i=s.ents.length:=by
     have:=(List.getElem?_eq_some_iff.mp hx).1;simp at this;omega
    subst hi2;rw[List.getElem?_append_right (Nat.le_refl _),Nat.sub_self]at hx;rw[List.getElem?_append_right (by omega),hnl,Nat.sub_self]at ha;simp at hx ha;subst hx ha;exact⟨rfl,V0 _ _⟩
 refine⟨h.up,h.hz,h.since,?_,h.fls,h.flk,h.wts,h.wtk,h.hist,h.top,?_,?_,?_⟩
 · show n.ents++[e]=(s.ents++[(⟨e,s.uses+1⟩:Zu)]).map (·.e);rw[List.map_append,h.ents];rfl
 · show(n.nms++[nm]).length=(s.ents++[_]).length;simp[hnl]
 · intro x hx;have hx':x∈s.ents++[⟨e,s.uses+1⟩]:=hx;rw[List.mem_append,List.mem_singleton]at hx';show x.used≤s.uses+1;rcases hx' with hx'|rfl
   · exact Nat.le_succ_of_le (h.used x hx')
   · exact Nat.le_refl _
 · intro p q y z a b hy hz ha hb;rcases hat p y a hy ha with⟨_,p1,p2,p3,p4⟩|⟨p3,p4⟩
   · rcases hat q z b hz hb with⟨_,q1,q2,q3,q4⟩|⟨q3,q4⟩
     · rw[p4,q4];exact h.order p q y z a b p1 q1 p2 q2
     · have:=ZaS us a;rw[p4,q4];omega
   · rcases hat q z b hz hb with⟨_,q1,q2,q3,q4⟩|⟨q3,q4⟩
     · have:=ZaS us b;rw[p4,q4];omega
     · rw[p4,q4];omega
theorem ZaX {l:List Zi}{k:Nat}{nd nd':Zi}(hnd:l[k]?=some nd)(hm:nd'.nms.Sublist nd.nms):((l.set k nd').flatMap (·.nms)).Sublist (l.flatMap (·.nms)):=by
 induction l generalizing k with
 |nil=>simp at hnd
 |cons a r ih=>
  match k with
  |0=>
   simp at hnd;subst hnd;rw[List.set_cons_zero,List.flatMap_cons,List.flatMap_cons];exact hm.append (List.Sublist.refl _)
  |k+1=>
   rw[List.set_cons_succ,List.flatMap_cons,List.flatMap_cons];exact(List.Sublist.refl _).append (ih (by simpa using hnd))
theorem Z2.keeps {w w':World}{b:Nat}{D:Ze}{P:DP}(h:Z2 w b D P w'):Za (D.fp b) w w':=h.choose_spec.2.2.1
theorem Sim.turnN {P:DP}{R:Zd}(h:Sim P R){k:Nat}{s s':Zb}{nd nd':Zi}(hs:P.sites[k]?=some s)(hnd:R.nodes[k]?=some nd)(hn:ZX R.past R.uses s' nd'.p)(hr:s'.room=s.room)(hm:nd'.nms.Sublist nd.nms):Sim (P.put (k:Int) s') (R.putN k nd'):=by
 obtain⟨hk,_⟩:=List.getElem?_eq_some_iff.mp hs;obtain⟨hk',_⟩:=List.getElem?_eq_some_iff.mp hnd;have hsub:=ZaX hnd hm;refine⟨h.past,h.clock,h.rdr,h.puts,h.bd,?_,?_,?_,h.names.sublist hsub,fun x hx=>h.fresh x (hsub.subset hx)⟩
 · show(R.nodes.set k nd').length=(P.sites.set (k:Int).toNat s').length;rw[List.length_set,List.length_set];exact h.len
 · intro k' t nt ht hnt;have ht':(P.sites.set (k:Int).toNat s')[k']?=some t:=ht;have hnt':(R.nodes.set k nd')[k']?=some nt:=hnt;rw[Int.toNat_natCast]at ht';show ZX R.past R.uses t nt.p;by_cases hkk:k'=k
   · subst hkk;rw[List.getElem?_set_self hk]at ht';rw[List.getElem?_set_self hk']at hnt';injection ht' with ht';injection hnt' with hnt';subst ht' hnt';exact hn
   · rw[List.getElem?_set_ne (fun e=>hkk e.symm)]at ht' hnt';exact h.node k' t nt ht' hnt'
 · intro t ht;rcases List.mem_or_eq_of_mem_set ht with ht|rfl
   · exact h.room t ht
   · rw[hr];exact h.room s (List.mem_of_getElem? hs)
theorem ZP.turn1 {w w1 w2 w3:World}{xb cb:Nat}{D:Ze}{R:Zd}(h:ZP w xb cb D R){k:Nat}{s s':Zb}{nd:Zi}{p:ZD}(hs:D.pu.sites[k]?=some s)(hnd:R.nodes[k]?=some nd)
 (g:Z2 w xb D (D.pu.put (k:Int) s') w1) (k2:Za (fun _=>False) w1 w2) (hb:Zm w2 cb R k p w3) (hn:ZX R.past R.uses s' p) (hr:s'.room=s.room) (hm:p.nms.Sublist nd.nms) (hg:s'.Good D.pu.past.length R.uses.length):ZR w w3 xb cb D R∧Za (R.fp cb) w2 w3:=by
 obtain⟨nd',e1,hb⟩:=hb;subst e1;have hpm:=h.good.pmax;refine⟨h.turned' g k2 hb (h.sim.turnN hs hnd hn hr hm) (h.good.put _ hg) (Fit.putN h.rfit ⟨?_,?_,?_⟩) rfl rfl,hb.2.1⟩
 · have:=hn.fls;have this':nd'.fls=s'.flight.map (·.1):=this;rw[this',List.length_map];exact hg.fl
 · have:=hn.hz;have this':nd'.horizon=s'.horizon:=this;rw[this'];exact Nat.le_trans hg.hz hpm
 · have this':nd'.fls=s'.flight.map (·.1):=hn.fls;intro t ht;rw[this']at ht;obtain⟨c,hc,rfl⟩:=List.mem_map.mp ht;exact Nat.le_trans (hg.fs c hc) hpm
theorem ZP.still {w w1 w2 w3:World}{xb cb:Nat}{D:Ze}{R:Zd}(h:ZP w xb cb D R)(g:Z2 w xb D D.pu w1)(k2:Za (fun _=>False) w1 w2)(k3:Za (fun _=>False) w2 w3):ZR w w3 xb cb D R:=by
 have hr2:=h.ref_after g.keeps k2;exact h.turned' g k2 ⟨hr2.kept k3 (fun _ _=>id),k3.mono (fun _=>False.elim),fun _ hx=>.inl hx⟩ h.sim h.good h.rfit rfl rfl
theorem VW {P:DP}{R:Zd}(h:Sim P R)(k:Int):(P.site? k=none∧(k<0∨(R.nodes.length:Int)≤k))∨∃(j:Nat)(s:Zb)(nd:Zi),k=(j:Int)∧P.site? k=some s∧P.sites[j]?=some s∧R.nodes[j]?=some nd∧ZX R.past R.uses s nd.p:=by
 have hl:=h.len;by_cases h0:k<0
 · exact .inl ⟨by unfold DP.site?;rw[if_pos h0],.inl h0⟩
 · obtain⟨j,rfl⟩:∃j:Nat,k=j:=⟨k.toNat,by omega⟩;by_cases h1:j<P.sites.length
   · refine .inr ⟨j,P.sites[j],R.nodes[j],rfl,?_,List.getElem?_eq_getElem h1,List.getElem?_eq_getElem (by omega),h.node j _ _ (List.getElem?_eq_getElem h1) (List.getElem?_eq_getElem (by omega))⟩;unfold DP.site?;rw[if_neg h0,Int.toNat_natCast,List.getElem?_eq_getElem h1]
   · refine .inl ⟨?_,.inr (by omega)⟩;unfold DP.site?;rw[if_neg h0,Int.toNat_natCast,List.getElem?_eq_none (by omega)]
theorem XJ {R:Zd}{j:Nat}{nd:Zi}(h:R.nodes[j]?=some nd):j<R.nodes.length:=(List.getElem?_eq_some_iff.mp h).1
theorem ZP.el {w:World}{xb cb:Nat}{D:Ze}{R:Zd}(h:ZP w xb cb D R):∀nd∈R.nodes,nd.nms.length=nd.ents.length∧nd.ents.length≤6∧nd.fls.length≤12∧nd.wts.length≤4∧(∀e∈nd.ents,Yt e D.pu.past.length)∧nd.horizon<R.past.length∧(∀t∈nd.wts,t<R.past.length)∧(∀t∈nd.fls,t<R.past.length):=by
 intro nd hnd;obtain⟨j,hj,rfl⟩:=List.getElem_of_mem hnd;have hl:=h.sim.len;have hs:D.pu.sites[j]?=some D.pu.sites[j]:=List.getElem?_eq_getElem (by omega);have hn:=h.sim.node j _ _ hs (List.getElem?_eq_getElem hj);have hg:=h.good.sites _ (List.mem_of_getElem? hs);have e1:R.nodes[j].ents=D.pu.sites[j].ents.map (·.e):=hn.ents;have e2:R.nodes[j].nms.length=D.pu.sites[j].ents.length:=hn.nml;have e3:R.nodes[j].fls=D.pu.sites[j].flight.map (·.1):=hn.fls;have e4:R.nodes[j].wts=D.pu.sites[j].waits.map (·.1):=hn.wts;have r6:=hg.room6;have hel:=hg.el;refine⟨by rw[e2,e1,List.length_map],by rw[e1,List.length_map];omega,by rw[e3,List.length_map];exact hg.fl,by rw[e4,List.length_map];exact hg.wl,fun e he=> ?_,hn.top,fun t ht=> ?_,fun t ht=> ?_⟩
 · rw[e1]at he;obtain⟨z,hz,rfl⟩:=List.mem_map.mp he;exact hg.es z hz
 · rw[e4]at ht;obtain⟨c,hc,rfl⟩:=List.mem_map.mp ht;exact(hn.wtk c hc).1
 · rw[e3]at ht;obtain⟨c,hc,rfl⟩:=List.mem_map.mp ht;exact(hn.flk c hc).1
theorem Zgg {w:World}{xb cb:Nat}{D:Ze}{R:Zd}(h:ZP w xb cb D R)(hnn:R.uses.length<9223372036854775807)(k i:Int):
 ∃r:Int,Calls Tryz.prog 47 #[.pointer (some ⟨xb,0,none⟩),.int .i64 k,.int .i64 i] w fun e w1=>e=.returned (.int .i64 r)∧
  Xt 48 #[.pointer (some ⟨cb,0,none⟩),.int .i64 k,.int .i64 i] w w1 xb cb D R (.int .i64 r):=by
 refine⟨(D.pu.evict k i).1,(dEvict w xb D k i h.dev (h.good.walk hnn)).mono fun e w1 hp=>⟨hp.1,hp.2.keeps,fun w2 k2=> ?_⟩⟩;have g:=hp.2;refine(revict w2 cb R k i (h.ref_after g.keeps k2) h.rfit.nmax fun nd hnd=>⟨(h.el nd hnd).1,by have:=(h.el nd hnd).2.1;omega⟩).mono fun e w3 hq=> ?_;rcases VW h.sim k with⟨hno,hk⟩|⟨j,s,nd,rfl,hs1,hs,hnd,hn⟩
 · have hE:D.pu.evict k i=(9,D.pu):=by unfold DP.evict;rw[hno]
   rw[hE]at g⊢;rcases hq with⟨_,e2,rfl⟩|⟨nd,h0,hnd,_⟩|⟨nd,h0,hnd,_⟩
   · exact⟨e2,h.still g k2 (Za.refl _ _),Za.refl _ _⟩
   · have:=XJ hnd;omega
   · have:=XJ hnd;omega
 · have hl:nd.ents.length=s.ents.length:=by have:nd.ents=s.ents.map (·.e):=hn.ents;rw[this,List.length_map]
   rcases hq with⟨hk,_⟩|⟨nd',h0,hnd',hi,e2,rfl⟩|⟨nd',h0,hnd',hi0,hi1,e2,ve,vn,hb⟩
   · have:=XJ hnd;omega
   · rw[Int.toNat_natCast,hnd]at hnd';injection hnd' with hnd';subst hnd';have hE:D.pu.evict (j:Int) i=(10,D.pu):=by unfold DP.evict;rw[hs1];dsimp only;rw[if_pos (by omega)]
     rw[hE]at g⊢;exact⟨e2,h.still g k2 (Za.refl _ _),Za.refl _ _⟩
   · rw[Int.toNat_natCast]at hnd' hb;rw[hnd]at hnd';injection hnd' with hnd';subst hnd';have hE:D.pu.evict (j:Int) i=(0,D.pu.put (j:Int) (s.remove i.toNat)):=by unfold DP.evict;rw[hs1];dsimp only;rw[if_neg (by omega)]
     rw[hE]at g⊢;exact⟨e2,h.turn1 hs hnd g k2 ⟨_,rfl,hb⟩ (hn.remove i.toNat) rfl (List.eraseIdx_sublist ..) ((h.good.sites s (List.mem_of_getElem? hs)).remove _)⟩
theorem Zd4 {P:DP}{R:Zd}(h:Sim P R)(k i:Int):(P.site? k=none∧Yh R k i=9)∨∃(j:Nat)(s:Zb)(nd:Zi),k=(j:Int)∧P.site? k=some s∧P.sites[j]?=some s∧R.nodes[j]?=some nd∧ZX R.past R.uses s nd.p∧
 ((i<0∨(s.flight.length:Int)≤i)∧Yh R k i=10∨∃(m:Nat)(c:Nat×Int),i=(m:Int)∧s.flight[m]?=some c∧nd.fls[m]?=some c.1∧Yh R k i=0):=by
 rcases VW h k with⟨hno,hk⟩|⟨j,s,nd,rfl,hs1,hs,hnd,hn⟩
 · exact .inl ⟨hno,by unfold Yh;rw[if_pos hk]⟩
 · refine .inr ⟨j,s,nd,rfl,hs1,hs,hnd,hn,?_⟩;have hf:nd.fls=s.flight.map (·.1):=hn.fls;have hl:nd.fls.length=s.flight.length:=by rw[hf,List.length_map]
   have hjl:=XJ hnd;have hL:Yh R (j:Int) i=if i<0∨(nd.fls.length:Int)≤i then 10 else 0:=by
    unfold Yh;rw[if_neg (by omega),Int.toNat_natCast,hnd]
   by_cases hi:i<0∨(s.flight.length:Int)≤i
   · exact .inl ⟨hi,by rw[hL,if_pos (by omega)]⟩
   · obtain⟨m,rfl⟩:∃m:Nat,i=m:=⟨i.toNat,by omega⟩;have hm:m<s.flight.length:=by omega
     exact .inr ⟨m,s.flight[m],rfl,List.getElem?_eq_getElem hm,by rw[hf,List.getElem?_map,List.getElem?_eq_getElem hm];rfl,by rw[hL,if_neg (by omega)]⟩
theorem Zg4 {w:World}{xb cb:Nat}{D:Ze}{R:Zd}(h:ZP w xb cb D R)(hnn:R.uses.length<9223372036854775807)(k i:Int):
 ∃r:Int,Calls Tryz.prog 59 #[.pointer (some ⟨xb,0,none⟩),.int .i64 k,.int .i64 i] w fun e w1=>e=.returned (.int .i64 r)∧
  Xt 60 #[.pointer (some ⟨cb,0,none⟩),.int .i64 k,.int .i64 i] w w1 xb cb D R (.int .i64 r):=by
 refine⟨(D.pu.lose k i).1,(dLose w xb D k i h.dev (h.good.walk hnn)).mono fun e w1 hp=>⟨hp.1,hp.2.keeps,fun w2 k2=> ?_⟩⟩;have g:=hp.2;refine(rlose w2 cb R k i (h.ref_after g.keeps k2) h.rfit.nmax fun nd hnd=>by have:=(h.el nd hnd).2.2.1;omega).mono fun e w3 hq=> ?_;rcases Zd4 h.sim k i with⟨hno,hL⟩|⟨j,s,nd,rfl,hs1,hs,hnd,hn,⟨hi,hL⟩|⟨m,c,rfl,hc,hcf,hL⟩⟩
 · have hE:D.pu.lose k i=(9,D.pu):=by unfold DP.lose;rw[hno]
   rw[hE]at g⊢;rcases hq with⟨_,e2,rfl⟩|⟨j,m,nd,_,_,_,_,hz,_⟩
   · exact⟨by rw[e2,hL],h.still g k2 (Za.refl _ _),Za.refl _ _⟩
   · omega
 · have hE:D.pu.lose (j:Int) i=(10,D.pu):=by unfold DP.lose;rw[hs1];dsimp only;rw[if_pos hi]
   rw[hE]at g⊢;rcases hq with⟨_,e2,rfl⟩|⟨j,m,nd,_,_,_,_,hz,_⟩
   · exact⟨by rw[e2,hL],h.still g k2 (Za.refl _ _),Za.refl _ _⟩
   · omega
 · have hm:=(List.getElem?_eq_some_iff.mp hc).1;have hE:D.pu.lose (j:Int) (m:Int)=(0,D.pu.put (j:Int) (s.take m)):=by unfold DP.lose;rw[hs1];dsimp only;rw[if_neg (by omega),Int.toNat_natCast]
   rw[hE]at g⊢;rcases hq with⟨hz,_⟩|⟨j',m',nd',hj',hm',hnd',_,_,e2,hb⟩
   · exact absurd hL hz
   · obtain rfl:j=j':=by omega
     obtain rfl:m=m':=by omega
     rw[hnd]at hnd';injection hnd' with hnd';subst hnd';exact⟨e2,h.turn1 hs hnd g k2 hb (hn.take m) rfl (List.Sublist.refl _) ((h.good.sites s (List.mem_of_getElem? hs)).take _)⟩
theorem ZdG {w:World}{xb cb:Nat}{D:Ze}{R:Zd}(h:ZP w xb cb D R)(hnn:R.uses.length<9223372036854775807)(k:Int):
 ∃r:Int,Calls Tryz.prog 65 #[.pointer (some ⟨xb,0,none⟩),.int .i64 k] w fun e w1=>e=.returned (.int .i64 r)∧
  Xt 66 #[.pointer (some ⟨cb,0,none⟩),.int .i64 k] w w1 xb cb D R (.int .i64 r):=by
 refine⟨(D.pu.restart k).1,(Zji w xb D k h.dev (h.good.walk hnn)).mono fun e w1 hp=>⟨hp.1,hp.2.keeps,fun w2 k2=> ?_⟩⟩;have g:=hp.2;refine(ZiB w2 cb R k (h.ref_after g.keeps k2) h.rfit.nmax).mono fun e w3 hq=> ?_;rcases VW h.sim k with⟨hno,hk⟩|⟨j,s,nd,rfl,hs1,hs,hnd,hn⟩
 · have hE:D.pu.restart k=(9,D.pu):=by unfold DP.restart;rw[hno]
   rw[hE]at g⊢;rcases hq with⟨_,e2,rfl⟩|⟨j,nd,rfl,hnd,_⟩
   · exact⟨e2,h.still g k2 (Za.refl _ _),Za.refl _ _⟩
   · have:=XJ hnd;omega
 · have hE:D.pu.restart (j:Int)=(0,D.pu.put (j:Int) s.fall.clear):=by unfold DP.restart;rw[hs1]
   rw[hE]at g⊢;rcases hq with⟨hk,_⟩|⟨j',nd',hj',hnd',e2,hb⟩
   · have:=XJ hnd;omega
   · obtain rfl:j=j':=by omega
     exact⟨e2,h.turn1 hs hnd g k2 hb (ZX.fell h.rfit.pos) rfl (List.nil_sublist _) (h.good.sites s (List.mem_of_getElem? hs)).fell⟩
theorem Zdz {l:List Zi}{k:Nat}{nd nd':Zi}{m:List Int}{x:Int}(hnd:l[k]?=some nd)(he:nd'.nms=m++[x])(hm:m.Sublist nd.nms):(l.flatMap (·.nms)).Nodup→(x∉l.flatMap (·.nms))→((l.set k nd').flatMap (·.nms)).Nodup∧∀a∈(l.set k nd').flatMap (·.nms),a∈l.flatMap (·.nms)∨a=x:=by
 induction l generalizing k with
 |nil=>simp at hnd
 |cons c r ih=>
  intro hn hx;rw[List.flatMap_cons]at hn hx;rw[List.nodup_append]at hn;obtain⟨h1,h2,h3⟩:=hn;rw[List.mem_append]at hx
  match k with
  |0=>
   simp at hnd;subst hnd;rw[List.set_cons_zero,List.flatMap_cons,List.flatMap_cons,he];refine⟨?_,fun a ha=> ?_⟩
   · rw[List.nodup_append,List.nodup_append];refine⟨⟨h1.sublist hm,by simp,fun a ha b hb e=> ?_⟩,h2,fun a ha b hb e=> ?_⟩
     · simp at hb;subst hb e;exact hx (.inl (hm.subset ha))
     · rw[List.mem_append]at ha;rcases ha with ha|ha
       · exact h3 a (hm.subset ha) b hb e
       · simp at ha;subst ha e;exact hx (.inr hb)
   · rw[List.mem_append,List.mem_append]at ha;rw[List.mem_append];rcases ha with(ha|ha)|ha
     · exact .inl (.inl (hm.subset ha))
     · simp at ha;exact .inr ha
     · exact .inl (.inr ha)
  |k+1=>
   obtain⟨i1,i2⟩:=ih (by simpa using hnd) h2 (fun h=>hx (.inr h));rw[List.set_cons_succ,List.flatMap_cons,List.flatMap_cons];refine⟨?_,fun a ha=> ?_⟩
   · rw[List.nodup_append];refine⟨h1,i1,fun a ha b hb e=> ?_⟩;rcases i2 b hb with hb|hb
     · exact h3 a ha b hb e
     · subst hb e;exact hx (.inl ha)
   · rw[List.mem_append]at ha;rw[List.mem_append];rcases ha with ha|ha
     · exact .inl (.inl ha)
     · exact(i2 a ha).imp .inr id
theorem Sim.turnU {P:DP}{R:Zd}(h:Sim P R){k:Nat}{s s':Zb}{nd nd':Zi}{nm nx:Int}{v:Value}(hs:P.sites[k]?=some s)(hnd:R.nodes[k]?=some nd)(hn:ZX R.past (R.uses++[nm]) s' nd'.p)(hr:s'.room=s.room)
 (ho:∀(k':Nat)(nd2:Zi),R.nodes[k']?=some nd2→k'≠k→∀a∈nd2.nms,a≠nm) (h1:((R.nodes.set k nd').flatMap (·.nms)).Nodup) (h2:∀x∈(R.nodes.set k nd').flatMap (·.nms),0≤x∧x<nx):Sim (P.put (k:Int) s') {(R.putN k nd').pushUse nm v with next:=nx}:=by
 obtain⟨hk,_⟩:=List.getElem?_eq_some_iff.mp hs;obtain⟨hk',_⟩:=List.getElem?_eq_some_iff.mp hnd;refine⟨h.past,h.clock,h.rdr,h.puts,h.bd,?_,?_,?_,h1,h2⟩
 · show(R.nodes.set k nd').length=(P.sites.set (k:Int).toNat s').length;rw[List.length_set,List.length_set];exact h.len
 · intro k' t nt ht hnt;have ht':(P.sites.set (k:Int).toNat s')[k']?=some t:=ht;have hnt':(R.nodes.set k nd')[k']?=some nt:=hnt;rw[Int.toNat_natCast]at ht';show ZX R.past (R.uses++[nm]) t nt.p;by_cases hkk:k'=k
   · subst hkk;rw[List.getElem?_set_self hk]at ht';rw[List.getElem?_set_self hk']at hnt';injection ht' with ht';injection hnt' with hnt';subst ht' hnt';exact hn
   · rw[List.getElem?_set_ne (fun e=>hkk e.symm)]at ht' hnt';exact(h.node k' t nt ht' hnt').other (ho k' nt hnt' hkk)
 · intro t ht;rcases List.mem_or_eq_of_mem_set ht with ht|rfl
   · exact h.room t ht
   · rw[hr];exact h.room s (List.mem_of_getElem? hs)
def Zai (w:World)(b:Nat)(R:Zd)(i:Int)(e:Ending)(w':World):Prop:=
 ((i<0∨(R.puts.length:Int)≤i)∧e=.returned (.tuple #[.bool false,.int .i64 10])∧w=w')∨
 ∃(t k:Nat)(p:Zh)(nd:Zi)(v:Value),i=(t:Int)∧R.puts[t]?=some p∧k=YZ p.q.data.toList%R.nodes.length∧R.nodes[k]?=some nd∧
  (((nd.up=false∨Vz R.past nd.since nd.horizon p=none)∧e=.returned (.tuple #[.bool false,.int .i64 0])∧Zs w b R w' (R.setPuts (R.puts.eraseIdx t) v))∨
   (nd.up=true∧∃(y:Zh)(nd':Zi)(vs:Value),Vz R.past nd.since nd.horizon p=some y∧e=.returned (.tuple #[.bool true,.int .i64 0])∧
    ((∃(j:Nat)(x:Zh)(nm:Int),nd.ents.findIdx? (fun x=>decide (Z0 x y))=some j∧nd.ents[j]?=some x∧nd.nms[j]?=some nm∧nd'.p={nd.p with ents:=nd.ents.set j (ZT x y)}∧Zs w b R w' (((R.setPuts (R.puts.eraseIdx t) v).putN k nd').pushUse nm vs))∨
     (nd.ents.findIdx? (fun x=>decide (Z0 x y))=none∧∃n1:ZD,n1=(if R.room≤(nd.ents.length:Int)then {nd.p with ents:=nd.ents.eraseIdx (XH R.uses nd).toNat,nms:=nd.nms.eraseIdx (XH R.uses nd).toNat}else nd.p)∧nd'.p={n1 with ents:=n1.ents++[y],nms:=n1.nms++[R.next]}∧
      Zs w b R w' {((R.setPuts (R.puts.eraseIdx t) v).putN k nd').pushUse R.next vs with next:=R.next+1}))))
theorem Sim.dropP {P:DP}{R:Zd}(h:Sim P R)(t:Nat)(v:Value):Sim {P with puts:=P.puts.eraseIdx t} (R.setPuts (R.puts.eraseIdx t) v):=
 ⟨h.past,h.clock,h.rdr,by show R.puts.eraseIdx t=P.puts.eraseIdx t;rw[h.puts],h.bd,h.len,h.node,h.room,h.names,h.fresh⟩
theorem ZjW (P:DP)(t:Nat)(e:Zh)(s:Zb)(hp:P.puts[t]?=some e)(hs:P.sites[P.nodeN e.q]?=some s):P.store (t:Int)=((s.store e).2,0,({P with puts:=P.puts.eraseIdx t}:DP).put ((P.nodeN e.q:Nat):Int) (s.store e).1):=by
 unfold DP.store DP.put;rw[if_neg (by omega),Int.toNat_natCast,hp];dsimp only;rw[hs];rfl
theorem ZfB {w:World}{xb cb:Nat}{D:Ze}{R:Zd}(h:ZP w xb cb D R)(hnn:R.uses.length+1<9223372036854775807)(i:Int)
 (hdoc:∀w2,Ref w2 cb R→Calls Tryz.prog 46 #[.pointer (some ⟨cb,0,none⟩),.int .i64 i] w2 fun e w3=>Zai w2 cb R i e w3):
 ∃(x:Bool)(r:Int),Calls Tryz.prog 45 #[.pointer (some ⟨xb,0,none⟩),.int .i64 i] w fun e w1=>e=.returned (.tuple #[.bool x,.int .i64 r])∧
  Xt 46 #[.pointer (some ⟨cb,0,none⟩),.int .i64 i] w w1 xb cb D R (.tuple #[.bool x,.int .i64 r]):=by
 refine⟨(D.pu.store i).1,(D.pu.store i).2.1,(dStore w xb D i h.dev (h.good.walk (by omega))).mono fun e w1 hp=>⟨hp.1,hp.2.keeps,fun w2 k2=> ?_⟩⟩;have g:=hp.2;have hps:R.puts=D.pu.puts:=h.sim.puts;have hgood:=h.good.store i;refine(hdoc w2 (h.ref_after g.keeps k2)).mono fun e w3 hq=> ?_;rcases hq with⟨hi,e2,rfl⟩|⟨t,k,p,nd,v,rfl,hp1,hk,hnd,hq⟩
 · have hE:D.pu.store i=(false,10,D.pu):=by
    unfold DP.store;by_cases h0:i<0
    · rw[if_pos h0]
    · rw[if_neg h0,List.getElem?_eq_none (by rw[←hps];omega)]
   rw[hE]at g⊢;exact⟨e2,h.still g k2 (Za.refl _ _),Za.refl _ _⟩
 · have hp2:D.pu.puts[t]?=some p:=by rw[←hps];exact hp1
   have hkN:D.pu.nodeN p.q=k:=by rw[hk];show YZ p.q.data.toList%D.pu.sites.length=_;rw[h.sim.len]
   have hkl:k<D.pu.sites.length:=by rw[←h.sim.len];exact XJ hnd
   obtain⟨s,hs⟩:∃s,D.pu.sites[k]?=some s:=⟨_,List.getElem?_eq_getElem hkl⟩;have hn:=h.sim.node k s nd hs hnd;have hgs:=h.good.sites s (List.mem_of_getElem? hs);have hE:=ZjW D.pu t p s hp2 (by rw[hkN];exact hs);rw[hkN]at hE;rw[hE]at g hgood⊢;dsimp only at g hgood⊢;have hca:=hn.caught p;have hup:nd.up=s.up:=hn.up;have hsd:=h.sim.dropP t v;have hfit:∀nd':Zi,ZX R.past (R.uses) s nd.p→(nd'.fls=nd.fls)→nd'.horizon=nd.horizon→((R.setPuts (R.puts.eraseIdx t) v).putN k nd').Fit:=fun nd' _ e1 e2=>by
    have:=h.rfit.fmax nd (List.mem_of_getElem? hnd);exact Fit.putN ⟨h.rfit.pos,h.rfit.pmax,h.rfit.clk0,h.rfit.clk1,h.rfit.rmax,h.rfit.npos,h.rfit.nmax,h.rfit.fmax⟩ (by rw[e1,e2];exact this)
   rcases hq with⟨hno,e2,hb⟩|⟨hu,y,nd',vs,hla,e2,hq⟩
   · have hst:s.store p=(s,false):=by
      unfold Zb.store;by_cases hu:s.up=false
      · rw[if_pos hu]
      · rw[if_neg hu];rcases hno with hno|hno
        · rw[hup]at hno;exact absurd hno hu
        · rw[hca,show nd.p.since=nd.since from rfl,show nd.p.horizon=nd.horizon from rfl,hno]
     rw[hst]at g hgood⊢;have hss:({D.pu with puts:=D.pu.puts.eraseIdx t}:DP).put (k:Int) s={D.pu with puts:=D.pu.puts.eraseIdx t}:=by
      unfold DP.put;rw[Int.toNat_natCast,XT hs]
     rw[hss]at g hgood;refine⟨e2,h.turned' g k2 hb hsd ?_ ⟨h.rfit.pos,h.rfit.pmax,h.rfit.clk0,h.rfit.clk1,h.rfit.rmax,h.rfit.npos,h.rfit.nmax,h.rfit.fmax⟩ rfl rfl,hb.2.1⟩;have:=h.good.drop (t:Int);have hlt:t<D.pu.puts.length:=(List.getElem?_eq_some_iff.mp hp2).1;have hd:D.pu.drop (t:Int)=(0,{D.pu with puts:=D.pu.puts.eraseIdx t}):=by
      unfold DP.drop;rw[if_neg (by omega),Int.toNat_natCast]
     rw[hd]at this;exact this
   · have hu':¬s.up=false:=by rw[←hup,hu];simp
     have hca':s.caught p=some y:=by rw[hca];exact hla
     have hsame:=hn.same y;have hsame':s.sameI y=nd.ents.findIdx? (fun x=>decide (Z0 x y)):=hsame;obtain⟨hn1,hn2⟩:=ZbR h.sim.names;have hfr:=h.sim.fresh;have hnx0:=h.nx0;have hnx1:=h.nx1;rcases hq with⟨j,x,nm,hj,hx,hnm,hp',hb⟩|⟨hj,n1,hn1',hp',hb⟩
     · obtain⟨z,hz⟩:∃z,s.ents[j]?=some z:=by
        have e1:nd.ents=s.ents.map (·.e):=hn.ents;rw[e1,List.getElem?_map]at hx;obtain⟨z,hz,_⟩:=Option.map_eq_some_iff.mp hx;exact⟨z,hz⟩
       have hzx:z.e=x:=by
        have e1:nd.ents=s.ents.map (·.e):=hn.ents;rw[e1,List.getElem?_map,hz]at hx;injection hx
       have hst:s.store p=((s.merge j z y).use j ⟨ZT z.e y,z.used⟩,true):=by
        unfold Zb.store;rw[if_neg hu',hca'];dsimp only;rw[hsame',hj];dsimp only;rw[hz]
       rw[hst]at g hgood⊢;have hjl:=(List.getElem?_eq_some_iff.mp hz).1;have hm1:=hn.merge y hz;rw[hzx]at hm1;have hm2:=hm1.use (i:=j) (x:=⟨ZT x y,z.used⟩) (nm:=nm) (by show(s.ents.set j ⟨ZT z.e y,z.used⟩)[j]?=_;rw[List.getElem?_set_self hjl,hzx]) hnm (hn1 nd (List.mem_of_getElem? hnd));rw[hzx]at hst g hgood
       have hnms:nd'.nms=nd.nms:=by have:nd'.p.nms=nd.p.nms:=by rw[hp']
                                    exact this
       have hsub:=ZaX hnd (nd':=nd') (by rw[hnms];exact List.Sublist.refl _);have hu1:(((R.setPuts (R.puts.eraseIdx t) v).putN k nd').pushUse nm vs).uses.length=R.uses.length+1:=by show(R.uses++[nm]).length=_;simp
       have hfl:nd'.fls=nd.fls∧nd'.horizon=nd.horizon:=by
        have e1:nd'.p.fls=nd.p.fls:=by rw[hp']
        have e2:nd'.p.horizon=nd.p.horizon:=by rw[hp']
        exact⟨e1,e2⟩
       refine⟨e2,h.turned g k2 hb ?_ (by rw[hu1];exact hgood) (by have:=hfit nd' hn hfl.1 hfl.2;exact⟨this.pos,this.pmax,this.clk0,this.clk1,this.rmax,this.npos,this.nmax,this.fmax⟩) (by omega) hnx0 (by rw[hu1];show R.next≤_;omega),hb.2.1⟩;exact hsd.turnU (nx:=R.next) (nd':=nd') hs hnd (by rw[hp'];exact hm2) rfl (fun k' nd2 hnd2 hkk a ha=>hn2 k' k nd2 nd hnd2 hnd hkk a ha nm (List.mem_of_getElem? hnm)) (h.sim.names.sublist hsub) fun x hx=>hfr x (hsub.subset hx)
     · have hst:s.store p=(s.lay y,true):=by
        unfold Zb.store;rw[if_neg hu',hca'];dsimp only;rw[hsame',hj]
       rw[hst]at g hgood⊢;have hroom:s.room=R.room:=h.sim.room s (List.mem_of_getElem? hs);have hel:nd.ents.length=s.ents.length:=by have e1:nd.ents=s.ents.map (·.e):=hn.ents;rw[e1,List.length_map]
       have hnew:∀a∈R.nodes.flatMap (·.nms),a≠R.next:=fun a ha e=>by have:=hfr a ha;omega
       have hmem:∀a∈nd.nms,a∈R.nodes.flatMap (·.nms):=fun a ha=>List.mem_flatMap.mpr ⟨nd,List.mem_of_getElem? hnd,ha⟩;have hgoes:=hn.goes;have hu1:({((R.setPuts (R.puts.eraseIdx t) v).putN k nd').pushUse R.next vs with next:=R.next+1}:Zd).uses.length=R.uses.length+1:=by show(R.uses++[R.next]).length=_;simp
       have key:ZX R.past (R.uses++[R.next]) (s.lay y) nd'.p∧(∃m,nd'.nms=m++[R.next]∧m.Sublist nd.nms)∧(s.lay y).room=s.room∧nd'.fls=nd.fls∧nd'.horizon=nd.horizon:=by
        have hfl:nd'.fls=n1.fls∧nd'.horizon=n1.horizon:=by
         have e1:nd'.p.fls=n1.fls:=by rw[hp']
         have e2:nd'.p.horizon=n1.horizon:=by rw[hp']
         exact⟨e1,e2⟩
        have hnm:nd'.nms=n1.nms++[R.next]:=by have e1:nd'.p.nms=n1.nms++[R.next]:=by rw[hp']
                                              exact e1
        unfold Zb.lay;by_cases hc:s.room≤(s.ents.length:Int)
        · rw[if_pos (by rw[←hroom,hel];exact hc)]at hn1';rw[if_pos hc];have hr:=hn.remove (XH R.uses nd).toNat;rw[hgoes,Int.toNat_natCast]at hr;rw[hgoes,Int.toNat_natCast]at hn1';have hn1s:n1.nms.Sublist nd.nms:=by rw[hn1'];exact List.eraseIdx_sublist ..
          have hlay:=hr.lay0 y (nm:=R.next) (fun a ha=>hnew a (hmem a (List.mem_of_mem_eraseIdx ha)));refine⟨?_,⟨n1.nms,hnm,hn1s⟩,rfl,?_,?_⟩
          · rw[hp',hn1'];exact hlay
          · rw[hfl.1,hn1'];rfl
          · rw[hfl.2,hn1'];rfl
        · rw[if_neg (by rw[←hroom,hel];exact hc)]at hn1';rw[if_neg hc];have hlay:=hn.lay0 y (nm:=R.next) (fun a ha=>hnew a (hmem a ha));subst hn1';refine⟨by rw[hp'];exact hlay,⟨nd.nms,hnm,List.Sublist.refl _⟩,rfl,hfl.1,hfl.2⟩
       obtain⟨k1,⟨m,hm1,hm2⟩,k3,k4,k5⟩:=key;have hns:=Zdz hnd hm1 hm2 h.sim.names (fun hh=>hnew _ hh rfl);refine⟨e2,h.turned g k2 hb ?_ (by rw[hu1];exact hgood) ?_ (by omega) (by show 0≤R.next+1;omega) (by rw[hu1];show R.next+1≤_;omega),hb.2.1⟩
       · exact hsd.turnU (nx:=R.next+1) (nd':=nd') hs hnd k1 k3 (fun k' nd2 hnd2 hkk a ha=>hnew a (List.mem_flatMap.mpr ⟨nd2,List.mem_of_getElem? hnd2,ha⟩)) hns.1 fun x hx=>by
          rcases hns.2 x hx with hx|hx
          · have:=hfr x hx;omega
          · subst hx;omega
       · have:=hfit nd' hn k4 k5;exact⟨this.pos,this.pmax,this.clk0,this.clk1,this.rmax,this.npos,this.nmax,this.fmax⟩
end Go.Proofs.YtpfcacedpkaihaaGreat
