import Derived.Test.YtpfcacedpkaihaaGreatC21
import Derived.Test.YtpfcacedpkaihaaGreatC19
namespace Go.Proofs.YtpfcacedpkaihaaGreat
open Go.RowKit
set_option maxRecDepth 100000
set_option maxHeartbeats 16000000
theorem ZfV (n r:Int)(w:World)(h:n<1∨3<n):
 Calls Tryz.prog 23 #[.int .i64 n,.int .i64 r] w fun e w'=>e=.returned (.tuple #[.pointer none,.int .i64 1])∧w=w':=by
 by_cases h0:n<1
 · have hd:decide (n<1)=true:=by simpa using h0
   go_enter Tryz.func23,Tryz.ntmps23;go_wp2;go_ret2;exact⟨rfl,rfl⟩
 · have hd:decide (n<1)=false:=by simpa using h0
   have h1:3<n:=by omega
   go_enter Tryz.func23,Tryz.ntmps23;go_wp2;go_ret2;exact⟨rfl,rfl⟩
theorem Zhp (n r:Int)(w:World)(h1:1≤n)(h2:n≤3)(h:r<1∨6<r):
 Calls Tryz.prog 23 #[.int .i64 n,.int .i64 r] w fun e w'=>e=.returned (.tuple #[.pointer none,.int .i64 2])∧w=w':=by
 have hd0:decide (n<1)=false:=by simp;omega
 by_cases h0:r<1
 · have hd:decide (r<1)=true:=by simpa using h0
   go_enter Tryz.func23,Tryz.ntmps23;go_wp2;go_ret2;exact⟨rfl,rfl⟩
 · have hd:decide (r<1)=false:=by simpa using h0
   have h3:6<r:=by omega
   go_enter Tryz.func23,Tryz.ntmps23;go_wp2;go_ret2;exact⟨rfl,rfl⟩
theorem dtick (w:World)(b:Nat)(D:Ze)(h:Dev w b D)(hf:D.Fit):
 Calls Tryz.prog 31 #[.pointer (some ⟨b,0,none⟩)] w fun e w'=>Zbi w b D e w':=by
 have H0:Hid (Calls Tryz.prog 79 #[.pointer (some ⟨b,0,none⟩)] w fun e w'=>Zbi w b D e w'):=dtick0 w b D h hf;by_cases hc:D.clock<100000
 · have H1:Hid (Calls Tryz.prog 79 #[.pointer (some ⟨b,0,none⟩)] w fun e w'=>e=.returned (.int .i64 0)∧Hid (Dev w' b {D with clock:=D.clock+1}∧Za (D.fp b) w w')):=H0.out.mono fun e w' hp=>by
    rcases hp with⟨a,_⟩|⟨_,e2,r⟩
    · omega
    · exact⟨e2,r⟩
   clear H0 h hf;go_enter Tryz.func31,Tryz.ntmps31
   go_wp2_with (go_at_call 79;refine H1.out.mono ?_;rintro e w1 ⟨rfl,hr⟩)
   go_ret;exact .inr ⟨hc,rfl,hr.out⟩
 · have H1:Hid (Calls Tryz.prog 79 #[.pointer (some ⟨b,0,none⟩)] w fun e w'=>e=.returned (.int .i64 6)∧w=w'):=H0.out.mono fun e w' hp=>by
    rcases hp with⟨_,e2,r⟩|⟨a,_⟩
    · exact⟨e2,r⟩
    · omega
   have hc1:=hf.clk1;clear H0 h hf;go_enter Tryz.func31,Tryz.ntmps31
   go_wp2_with (go_at_call 79;refine H1.out.mono ?_;rintro e w1 ⟨rfl,rfl⟩)
   go_ret;exact .inl ⟨by omega,rfl,rfl⟩
theorem dnow (w:World)(b:Nat)(D:Ze)(h:Dev w b D)(hf:D.Fit):
 Calls Tryz.prog 33 #[.pointer (some ⟨b,0,none⟩)] w fun e w'=>e=.returned (.tuple #[.int .u64 (D.past.length:Int),.int .i64 D.clock])∧w=w':=by
 have H0:Hid (Calls Tryz.prog 80 #[.pointer (some ⟨b,0,none⟩)] w fun e w'=>e=.returned (.int .u64 (D.past.length:Int))∧w=w'):=Zah w b D h hf;have H1:Hid (Calls Tryz.prog 81 #[.pointer (some ⟨b,0,none⟩)] w fun e w'=>e=.returned (.int .i64 D.clock)∧w=w'):=Zeu w b D.clock h.c0;clear h hf;go_enter Tryz.func33,Tryz.ntmps33
 go_wp2_with first
  |(go_at_call 80;refine H0.out.mono ?_;rintro e w1 ⟨rfl,rfl⟩)
  |(go_at_call 81;refine H1.out.mono ?_;rintro e w1 ⟨rfl,rfl⟩)
 go_ret2;exact⟨rfl,rfl⟩
def Zjw (w:World)(b:Nat)(D:Ze)(limit:Int)(e:Ending)(w':World):Prop:=∃lo,Zjv D.past (D.clock-limit) lo∧YN w b D lo D.past.length e w'
theorem YN.form {w w':World}{b lo hi:Nat}{D:Ze}{e:Ending}(h:YN w b D lo hi e w'):∃x y:Int,e=.returned (.tuple #[.int .i64 x,.int .i64 y]):=by
 rcases h with⟨_,e1,_⟩|⟨_,_,_,_,e1,_⟩|⟨_,_,_,_,e1,_⟩
 · exact⟨_,_,e1⟩
 · exact⟨_,_,e1⟩
 · exact⟨_,_,e1⟩
theorem YN.from {w w1 w':World}{b lo hi:Nat}{D:Ze}{e:Ending}(h:YN w1 b D lo hi e w')(k:Za (fun _=>False) w w1):YN w b D lo hi e w':=by
 rcases h with⟨a,e1,r⟩|⟨j,hj,hr,hb,e1,r⟩|⟨j,hj,hr,hb,e1,r1,r2⟩
 · exact .inl ⟨a,e1,k.trans r (fun _=>id) (fun _ _=>id)⟩
 · exact .inr (.inl ⟨j,hj,hr,hb,e1,k.trans r (fun _=>id) (fun _ _=>id)⟩)
 · exact .inr (.inr ⟨j,hj,hr,hb,e1,r1,k.trans r2 (fun _=>False.elim) (fun _ _=>id)⟩)
theorem Zgd (w:World)(b:Nat)(limit:Int)(hl:limit<0∨100000<limit):
 Calls Tryz.prog 34 #[.pointer (some ⟨b,0,none⟩),.int .i64 limit] w fun e w'=>e=.returned (.tuple #[.int .i64 0,.int .i64 10])∧w=w':=by
 by_cases h0:limit<0
 · have hd:decide (limit<0)=true:=by simpa using h0
   go_enter Tryz.func34,Tryz.ntmps34;go_wp2;go_ret2;exact⟨rfl,rfl⟩
 · have hd:decide (limit<0)=false:=by simpa using h0
   have h1:100000<limit:=by omega
   go_enter Tryz.func34,Tryz.ntmps34;go_wp2;go_ret2;exact⟨rfl,rfl⟩
theorem Zgh (w:World)(b:Nat)(D:Ze)(limit:Int)(h:Dev w b D)(hf:D.Fit)(hl0:0≤limit)(hl1:limit≤100000):
 Calls Tryz.prog 34 #[.pointer (some ⟨b,0,none⟩),.int .i64 limit] w fun e w'=>Zjw w b D limit e w':=by
 have hc0:=hf.clk0;have hc1:=hf.clk1;have hd:decide (limit<0)=false:=by simp;omega
 have H0:Hid (∀w1,Dev w1 b D→Calls Tryz.prog 80 #[.pointer (some ⟨b,0,none⟩)] w1 fun e w'=>e=.returned (.int .u64 (D.past.length:Int))∧w1=w'):=fun w1 h1=>Zah w1 b D h1 hf;have H1:Hid (Calls Tryz.prog 81 #[.pointer (some ⟨b,0,none⟩)] w fun e w'=>e=.returned (.int .i64 D.clock)∧w=w'):=Zeu w b D.clock h.c0;have H2:Hid (Calls Tryz.prog 82 #[.pointer (some ⟨b,0,none⟩),.int .i64 (D.clock-limit)] w fun e w'=>∃j:Nat,e=.returned (.int .u64 (j:Int))∧Hid (Zjv D.past (D.clock-limit) j)∧Hid (Za (fun _=>False) w w'∧Dev w' b D)):=(dsince w b D (D.clock-limit) h hf).mono fun e w' hp=>by
  obtain⟨j,h1,h2,h3⟩:=hp;exact⟨j,h2,h1,h3,h.kept h3 (fun _ _=>id)⟩
 have H3:Hid (∀w1 (lo:Nat),Dev w1 b D→Calls Tryz.prog 83 #[.pointer (some ⟨b,2,none⟩),.agg #[.int .u64 (lo:Int),.int .u64 (D.past.length:Int)]] w1 fun e w'=>∃x y:Int,e=.returned (.tuple #[.int .i64 x,.int .i64 y])∧Hid (YN w1 b D lo D.past.length (.returned (.tuple #[.int .i64 x,.int .i64 y])) w')):=fun w1 lo h1=>(ZjV w1 b D lo D.past.length h1 hf).mono fun e w' hp=>by
  obtain⟨x,y,rfl⟩:=hp.form;exact⟨x,y,rfl,hp⟩
 clear h hf;go_enter Tryz.func34,Tryz.ntmps34
 go_wp2_with first
  |(go_at_call 80;refine(H0.out _ hz.out.2).mono ?_;rintro e w2 ⟨rfl,rfl⟩)
  |(go_at_call 81;refine H1.out.mono ?_;rintro e w2 ⟨rfl,rfl⟩)
  |(go_at_call 82;refine H2.out.mono ?_;rintro e w1 ⟨j,rfl,hj,hz⟩)
  |(go_at_call 83;refine(H3.out _ _ hz.out.2).mono ?_;rintro e w3 ⟨x,y,rfl,hr⟩)
 go_ret2;exact⟨j,hj.out,hr.out.from hz.out.1⟩
theorem XD.form {w w':World}{b:Nat}{D:Ze}{m:Int}{e:Ending}(h:XD w b D m e w'):∃x y z:Int,e=.returned (.tuple #[.agg #[.int .u64 x,.int .u64 y],.int .i64 z]):=by
 rcases h with⟨_,e1,_⟩|⟨_,_,_,_,e1,_⟩
 · exact⟨_,_,_,e1⟩
 · exact⟨_,_,_,e1⟩
theorem XD.from {w w1 w' w2:World}{b:Nat}{D:Ze}{m:Int}{e:Ending}(h:XD w1 b D m e w')(hD:∀i,D.fp b i→i<w.heap.size)(k:Za (fun _=>False) w w1){F:Nat→Prop}(k2:Za F w' w2)(hF:∀i,F i→w.heap.size≤i):XD w b D m e w2:=by
 rcases h with⟨a,e1,r⟩|⟨j,hj,hr,hb,e1,r1,r2⟩
 · exact .inl ⟨a,e1,(k.trans r (fun _=>id) (fun _ _=>id)).trans k2 (fun _=>id) (fun i hi hf=>by have:=hF i hf;omega)⟩
 · exact .inr ⟨j,hj,hr,hb,e1,Dev.besides ⟨r1,k.trans r2 (fun _=>False.elim) (fun _ _=>id)⟩ k2 hF hD⟩
theorem dend (w:World)(b:Nat)(D:Ze)(m:Int)(h:Dev w b D):
 Calls Tryz.prog 36 #[.pointer (some ⟨b,0,none⟩),.int .i64 m] w fun e w'=>XD w b D m e w':=by
 have HLT:Hid (∀i,D.fp b i→i<w.heap.size):=h.lt;have H3:Hid (∀o,Calls Tryz.prog 85 #[.pointer (some ⟨b,2,none⟩),.int .i64 m] (w.alloc o) fun e w'=>∃x y z:Int,e=.returned (.tuple #[.agg #[.int .u64 x,.int .u64 y],.int .i64 z])∧Hid (XD (w.alloc o) b D m (.returned (.tuple #[.agg #[.int .u64 x,.int .u64 y],.int .i64 z])) w')∧w'.heap[w.heap.size]?=(w.alloc o).heap[w.heap.size]?):=fun o=>(dend0 (w.alloc o) b D m (h.kept (Za.alloc w o (fun _=>False)) (fun _ _=>id))).mono fun e w' hp=>by
  obtain⟨x,y,z,rfl⟩:=hp.form;refine⟨x,y,z,rfl,hp,?_⟩;rcases hp with⟨_,_,r⟩|⟨_,_,_,_,_,_,r⟩
  · exact r.block _ (by simp) id
  · exact r.block _ (by simp) fun hh=>by have:=h.lt _ hh;omega
 clear h;go_enter Tryz.func36,Tryz.ntmps36
 go_wp2_with (go_at_call 85;refine(H3.out _).mono ?_;rintro e w1 ⟨x,y,z,rfl,hr,hb1⟩;have p0:w1.cell? ⟨w.heap.size,0,none⟩=some (.int .u64 0):=(World.cell?_of_block (a:=⟨w.heap.size,0,none⟩) hb1).trans (by simp);have p1:w1.cell? ⟨w.heap.size,1,none⟩=some (.int .u64 0):=(World.cell?_of_block (a:=⟨w.heap.size,1,none⟩) hb1).trans (by simp);have g0:w1.frozen? ⟨w.heap.size,0,none⟩=false:=(World.frozen?_of_block (a:=⟨w.heap.size,0,none⟩) hb1).trans (by simp);have g1:w1.frozen? ⟨w.heap.size,1,none⟩=false:=(World.frozen?_of_block (a:=⟨w.heap.size,1,none⟩) hb1).trans (by simp))
 refine bodyPost_ret (v:=.tuple #[.agg #[.int .u64 x,.int .u64 y],.int .i64 z]) (by simp[results,Tryz.results36,go_sem, *]) rfl ?_;exact hr.out.from HLT.out (Za.alloc _ _ _) ((Za.setCell _ ⟨w.heap.size,0,none⟩ (.int .u64 x)).trans (Za.setCell _ ⟨w.heap.size,1,none⟩ (.int .u64 y)) (H:=fun k=>k=w.heap.size) (fun _=>id) (fun _ _=>id)) (fun i hi=>Nat.le_of_eq hi.symm)
def Ze.setPuts (D:Ze)(l:List Zh)(v:Value):Ze:={D with puts:=l,vq:=v}
theorem Dev.c27 {w:World}{b:Nat}{D:Ze}(h:Dev w b D):w.cell? ⟨b,27,none⟩=some D.vq:=h.blk.cell 27
theorem Dev.setPuts {w w':World}{b:Nat}{D:Ze}(h:Dev w b D)(l:List Zh)(v:Value)(k:Za (fun j=>D.vq.ownBlock=some j) w w')(hr:Row w' 55 6 v l.length (l.flatMap Zk))(hown:∀x,v.ownBlock=some x→D.vq.ownBlock=some x∨w.heap.size≤x):
 Dev (w'.setCell ⟨b,27,none⟩ v) b (D.setPuts l v)∧Za (D.fp b) w (w'.setCell ⟨b,27,none⟩ v)∧(∀x,(D.setPuts l v).fp b x→D.fp b x∨w.heap.size≤x):=
 h.put 1 27 ⟨55,6,D.vq,D.puts.length,D.puts.flatMap Zk⟩ ⟨55,6,v,l.length,l.flatMap Zk⟩ rfl k hr hown rfl (by dsimp only;decide) rfl
theorem Zbs (e:Zh):∀u∈Zk e,u.oneCell'=true:=by
 intro u hu;simp[Zk]at hu;rcases hu with rfl|rfl|rfl|rfl|rfl|rfl<;>rfl
theorem Zea (w:World)(e:Zh)(t:TypeId):∀j u,(Zk e)[j]?=some u→(w.alloc (.cells #[.string e.q,.int .i32 e.val,.int .u64 (e.fr:Int),.int .u64 (e.till:Int),.bool e.op,.int .u64 (e.kn:Int)] t)).cell? ((⟨w.heap.size,0,none⟩:Addr).add j)=some u:=by
 intro j u hj;have e':(⟨w.heap.size,0,none⟩:Addr).add j=⟨w.heap.size,j,none⟩:=by cases j<;>simp[Addr.add]
 rw[e',World.cell?_alloc_at _ _ _ _ rfl];simpa[Zk]using hj
theorem Zj5 {W w':World}{b:Nat}{D:Ze}{v v':Value}{news xs:List Value}{n:Nat}{o:Obj}(h:Dev W b D)(hv:D.vq=v)(hA:Zc ((W.alloc o).drew) w' 55 6 v v' n 1 xs news):
 w'.cell? ⟨b,27,none⟩=some v∧w'.frozen? ⟨b,27,none⟩=false∧Zc W w' 55 6 v v' n 1 xs news:=by
 have hk:Za (fun x=>v.ownBlock=some x) W w':=(((Za.alloc W o (fun _=>False)).drew).trans hA.kept (fun _=>False.elim) (fun _ _=>id));have blk1:=h.blk.kept hk fun e=>h.puts.ne_block h.blk (by decide) (by rw[hv,e]);refine⟨by rw[blk1.cell 27,←hv];rfl,blk1.free 27,hA.row,hk,?_⟩;rcases hA.own with e|e
 · exact .inl e
 · refine .inr fun x hx=> ?_;have h1:=e x hx;have h2:W.heap.size+1≤x:=by simpa using h1
   omega
def Za1 (w:World)(b:Nat)(D:Ze)(en:Zh)(e:Ending)(w':World):Prop:=
 e=.returned (.tuple #[])∧∃v,Dev w' b (D.setPuts (if D.puts.length<10 then D.puts++[en]else D.puts) v)∧Za (D.fp b) w w'∧(∀x,(D.setPuts (if D.puts.length<10 then D.puts++[en]else D.puts) v).fp b x→D.fp b x∨w.heap.size≤x)
theorem djoin (w:World)(b:Nat)(D:Ze)(en:Zh)(h:Dev w b D)(hf:D.Fit):
 Calls Tryz.prog 92 #[.pointer (some ⟨b,27,none⟩),.agg #[.string en.q,.int .i32 en.val,.int .u64 (en.fr:Int),.int .u64 (en.till:Int),.bool en.op,.int .u64 (en.kn:Int)]] w fun e w'=>Za1 w b D en e w':=by
 have hqm:=hf.qmax;obtain⟨av,cv,hv,_⟩:=h.puts.form;have c27:=h.c27;rw[hv]at c27;have hbl:=h.blk.lt;have HD:=hid h;have HV:=hid hv;by_cases h10:D.puts.length<10
 · have HPO:Hid (∀w' v,Dev w' b (D.setPuts (D.puts++[en]) v)∧Za (D.fp b) w w'∧(∀x,(D.setPuts (D.puts++[en]) v).fp b x→D.fp b x∨w.heap.size≤x)→Za1 w b D en (.returned (.tuple #[])) w'):=fun w' v hz=>⟨rfl,v,by rw[if_pos h10];exact hz⟩;clear h hf hv;go_enter Tryz.func92,Tryz.ntmps92
   go_wp2_with fail
   obtain⟨W,hW⟩:∃W,W=w.alloc (.cells #[.string en.q,.int .i32 en.val,.int .u64 (en.fr:Int),.int .u64 (en.till:Int),.bool en.op,.int .u64 (en.kn:Int)] 55):=⟨_,rfl⟩;have kW:Za (fun _=>False) w W:=by rw[hW];exact Za.alloc _ _ _
   have bW:Blk W w.heap.size 55 #[.string en.q,.int .i32 en.val,.int .u64 (en.fr:Int),.int .u64 (en.till:Int),.bool en.op,.int .u64 (en.kn:Int)]:=by rw[hW];exact Blk.new _ _ _
   rw[←hW];have HDW:Hid (Dev W b D):=HD.out.kept kW (fun _ _=>id);have HKW:=hid kW;have hbw:b<W.heap.size:=HDW.out.blk.lt;have d27:=kW.keep id c27;have z0:W.cell? ⟨w.heap.size,0,none⟩=some (.string en.q):=bW.cell 0;have z1:W.cell? ⟨w.heap.size,1,none⟩=some (.int .i32 en.val):=bW.cell 1;have z2:W.cell? ⟨w.heap.size,2,none⟩=some (.int .u64 (en.fr:Int)):=bW.cell 2;have z3:W.cell? ⟨w.heap.size,3,none⟩=some (.int .u64 (en.till:Int)):=bW.cell 3;have z4:W.cell? ⟨w.heap.size,4,none⟩=some (.bool en.op):=bW.cell 4;have z5:W.cell? ⟨w.heap.size,5,none⟩=some (.int .u64 (en.kn:Int)):=bW.cell 5;clear hW kW bW c27;obtain⟨i0,hi,hz0,hz1,hz2⟩:=info_parts Tryz.infoEntry;have HI:Hid (Tryz.prog.info? 55=some i0∧i0.zero=some (.agg #[.string ByteArray.empty,.int .i32 0,.int .u64 0,.int .u64 0,.bool false,.int .u64 0])∧i0.size=6∧i0.bytes=56):=⟨hi,hz0,hz1,hz2⟩;clear hi hz0 hz1 hz2;have qb:∀o:Obj,(W.alloc o).cell? ⟨b,27,none⟩=some (.slice av D.puts.length cv):=fun o=>(World.cell?_alloc_past _ _ _ hbw).trans d27;have HROW:Hid (∀o:Obj,Row ((W.alloc o).drew) 55 6 (.slice av D.puts.length cv) D.puts.length (D.puts.flatMap Zk)):=fun o=>by rw[←HV.out];exact HDW.out.puts.kept ((Za.alloc W o (fun _=>False)).drew) (fun _ _=>id)
   have HAP:Hid (∀(o:Obj)(w':World)(v':Value)(news:List Value),Zc ((W.alloc o).drew) w' 55 6 (.slice av D.puts.length cv) v' D.puts.length 1 (D.puts.flatMap Zk) news→w'.cell? ⟨b,27,none⟩=some (.slice av D.puts.length cv)∧w'.frozen? ⟨b,27,none⟩=false∧Zc W w' 55 6 (.slice av D.puts.length cv) v' D.puts.length 1 (D.puts.flatMap Zk) news):=fun o w' v' news hA=>Zj5 HDW.out HV.out hA;have b1:D.puts.length+1≤maxLen:=by unfold maxLen;omega
   have b2:(D.puts.length+1)*56≤140737488355328:=by omega
   go_region_law (refine Zw rfl (.tmp 14) (.tmp 16) 51 rfl 55 i0 (.agg #[.string ByteArray.empty,.int .i32 0,.int .u64 0,.int .u64 0,.bool false,.int .u64 0]) 6 56 Tryz.underlying51 HI.out.1 HI.out.2.1 HI.out.2.2.1 HI.out.2.2.2 rfl (Nat.succ_pos 5) (.slice av D.puts.length cv) D.puts.length (D.puts.flatMap Zk) rfl (HROW.out _) ⟨W.heap.size,0,none⟩ 1 1 (Zk en) rfl rfl (fun j u hj=>Zea W en _ j u hj) (Zbs en) b1 b2 ?_;intro v' w' hA;obtain⟨p1,p2,p4⟩:=HAP.out _ _ _ _ hA;clear hA;obtain⟨ao',cap',hv',_⟩:=p4.row.form;subst hv')
   all_goals
    have hz:=Dev.setPuts HDW.out (D.puts++[en]) (.slice ao' (D.puts.length+1) cap') (by rw[HV.out];exact p4.kept) (by rw[List.length_append,List.flatMap_append];simpa using p4.row) (fun x hx=>by rw[HV.out];exact p4.own.imp (fun e=>by rw[←e];exact hx) (fun e=>e x hx));have HZ:Hid (Dev (w'.setCell ⟨b,27,none⟩ (.slice ao' (D.puts.length+1) cap')) b (D.setPuts (D.puts++[en]) (.slice ao' (D.puts.length+1) cap'))∧Za (D.fp b) w (w'.setCell ⟨b,27,none⟩ (.slice ao' (D.puts.length+1) cap'))∧(∀k,(D.setPuts (D.puts++[en]) (.slice ao' (D.puts.length+1) cap')).fp b k→D.fp b k∨w.heap.size≤k)):=
     ⟨hz.1,HKW.out.trans hz.2.1 (fun _=>False.elim) (fun _ _=>id),fun k hk=>(hz.2.2 k hk).imp id fun hh=>Nat.le_trans HKW.out.size hh⟩
    clear hz p4 p1 p2 qb;go_wp2
    go_end0
    exact HPO.out _ _ HZ.out
 · have HPO:Hid (∀w',Za (fun _=>False) w w'→Za1 w b D en (.returned (.tuple #[])) w'):=fun w' hk=>⟨rfl,D.vq,by rw[if_neg h10];exact⟨h.kept hk (fun _ _=>id),hk.mono (fun _=>False.elim),fun x hx=>.inl hx⟩⟩;clear h hf hv;go_enter Tryz.func92,Tryz.ntmps92;go_wp2
   go_end0
   exact HPO.out _ (Za.alloc _ _ _)
def tkE (l:List Zh)(i k:Nat):List Zh:=(l.take k).eraseIdx i
theorem Zkn (l:List Zh)(i:Nat):tkE l i l.length=l.eraseIdx i:=by rw[tkE,List.take_length]
theorem Zjg (l:List Zh)(i:Nat)(h:i<l.length):tkE l i (i+1)=tkE l i i:=by
 have hl:(l.take i).length=i:=by rw[List.length_take];omega
 have e2:(l.take i).eraseIdx i=l.take i:=List.eraseIdx_of_length_le (by omega);have e1:(l.take i++[l[i]]).eraseIdx i=l.take i++[l[i]].eraseIdx (i-(l.take i).length):=List.eraseIdx_append_of_length_le (by omega) _;rw[hl,Nat.sub_self]at e1;unfold tkE;rw[List.take_succ_eq_append_getElem h,e1,e2];simp
theorem ZiS (l:List Zh)(i k:Nat)(hk:k<l.length)(hne:k≠i):tkE l i (k+1)=tkE l i k++[l[k]]:=by
 unfold tkE;rw[List.take_succ_eq_append_getElem hk];by_cases h:i<k
 · rw[List.eraseIdx_append_of_lt_length (by simp;omega)]
 · rw[List.eraseIdx_of_length_le (by simp;omega),List.eraseIdx_of_length_le (by simp;omega)]
theorem Zkc (l:List Zh)(i k:Nat):(tkE l i k).length≤l.length:=by
 unfold tkE;have h1:=List.length_eraseIdx_le (l.take k) i;have h2:(l.take k).length≤l.length:=by rw[List.length_take];omega
 omega
theorem Zff (W:World)(B:Nat)(v0 v1 v2 v3 v4 v5:Value):Za (fun k=>k=B) W ((((((W.setCell ⟨B,0,none⟩ v0).setCell ⟨B,1,none⟩ v1).setCell ⟨B,2,none⟩ v2).setCell ⟨B,3,none⟩ v3).setCell ⟨B,4,none⟩ v4).setCell ⟨B,5,none⟩ v5):=by
 have st:∀(a:World)(f:Nat)(v:Value),Za (fun k=>k=B) W a→Za (fun k=>k=B) W (a.setCell ⟨B,f,none⟩ v):=fun a f v ha=>ha.trans (Za.setCell a _ v) (fun _=>id) (fun _ _ hk=>hk);exact st _ _ _ (st _ _ _ (st _ _ _ (st _ _ _ (st _ _ _ (st _ _ _ (Za.refl _ _))))))
structure ZaD (w wr:World)(v:Value)(l:List Zh):Prop where
 row:Row wr 55 6 v l.length (l.flatMap Zk)
 kept:Za (fun _=>False) w wr
 new:∀k,v.ownBlock=some k→w.heap.size≤k
theorem ZaD.next {w wr w':World}{v v':Value}{l:List Zh}{x:Zh}{o:Obj}(h:ZaD w wr v l)(hA:Zc (wr.alloc o) w' 55 6 v v' l.length 1 (l.flatMap Zk) (Zk x)):ZaD w w' v' (l++[x]):=by
 have hA:=hA.of_alloc;refine⟨by rw[List.length_append,List.flatMap_append];simpa using hA.row,h.kept.trans hA.kept (fun _=>id) (fun k hk he=>by have:=h.new k he;omega),fun k hk=> ?_⟩;rcases hA.own with e|e
 · exact h.new k (by rw[←e];exact hk)
 · exact Nat.le_trans h.kept.size (e k hk)
def Zbd (w:World)(b:Nat)(D:Ze)(i:Int)(e:Ending)(w':World):Prop:=
 ((i<0∨(D.puts.length:Int)≤i)∧e=.returned (.tuple #[.agg #[.string ⟨#[]⟩,.int .i32 0,.int .u64 0,.int .u64 0,.bool false,.int .u64 0],.int .i64 10])∧Za (fun _=>False) w w')∨
 (0≤i∧i<(D.puts.length:Int)∧∃x:Zh,D.puts[i.toNat]?=some x∧e=.returned (.tuple #[.agg #[.string x.q,.int .i32 x.val,.int .u64 (x.fr:Int),.int .u64 (x.till:Int),.bool x.op,.int .u64 (x.kn:Int)],.int .i64 0])∧∃v,Dev w' b (D.setPuts (D.puts.eraseIdx i.toNat) v)∧Za (D.fp b) w w'∧(∀y,(D.setPuts (D.puts.eraseIdx i.toNat) v).fp b y→D.fp b y∨w.heap.size≤y))
theorem Zg9 (w:World)(b:Nat)(D:Ze)(i:Int)(h:Dev w b D)(hf:D.Fit)(hi:i<0∨(D.puts.length:Int)≤i):
 Calls Tryz.prog 99 #[.pointer (some ⟨b,27,none⟩),.int .i64 i] w fun e w'=>Zbd w b D i e w':=by
 have hqm:=hf.qmax;obtain⟨av,cv,hv,_⟩:=h.puts.form;have c27:=h.c27;rw[hv]at c27;have hbl:=h.blk.lt;have HI:=hid hi;by_cases h0:i<0
 · have hd:decide (i<0)=true:=by simpa using h0
   clear h hf hv hi;go_enter Tryz.func99,Tryz.ntmps99;go_wp2;refine bodyPost_ret (v:=.tuple #[.agg #[.string ⟨#[]⟩,.int .i32 0,.int .u64 0,.int .u64 0,.bool false,.int .u64 0],.int .i64 10]) (by simp[results,Tryz.results99,go_sem]) rfl (.inl ⟨HI.out,rfl,Za.alloc _ _ _⟩)
 · have hd:decide (i<0)=false:=by simpa using h0
   have h1:(D.puts.length:Int)≤i:=by omega
   clear h hf hv hi;go_enter Tryz.func99,Tryz.ntmps99;go_wp2;refine bodyPost_ret (v:=.tuple #[.agg #[.string ⟨#[]⟩,.int .i32 0,.int .u64 0,.int .u64 0,.bool false,.int .u64 0],.int .i64 10]) (by simp[results,Tryz.results99,go_sem]) rfl (.inl ⟨HI.out,rfl,Za.alloc _ _ _⟩)
theorem Zgc (w:World)(b:Nat)(D:Ze)(i:Nat)(h:Dev w b D)(hf:D.Fit)(hi:i<D.puts.length):
 Calls Tryz.prog 99 #[.pointer (some ⟨b,27,none⟩),.int .i64 (i:Int)] w fun e w'=>Zbd w b D i e w':=by
 have hqm:=hf.qmax;obtain⟨g,cv,hv,ho,hgl⟩:=h.puts.block (by omega);have c27:=h.c27;rw[hv]at c27;have hbl:=h.blk.lt;have HD:=hid h;have HCELL:Hid (∀k (hk:k<D.puts.length),∀W,Za (fun _=>False) w W→Zb2 W g (k*6) D.puts[k]):=by
  intro k hk W hW;obtain⟨g',cap',hv',_,he⟩:=h.puts.entAt k hk;rw[hv]at hv';injection hv' with e1 _ _;injection e1 with e1;injection e1 with e1 _ _;subst e1;exact he.same (hW.block g hgl id)
 have HD27:Hid (∀W,Za (fun _=>False) w W→W.cell? ⟨b,27,none⟩=some (.slice (some ⟨g,0,none⟩) D.puts.length cv)∧W.frozen? ⟨b,27,none⟩=false):=fun W hW=>⟨hW.keep id c27,(h.kept hW (fun _ _=>id)).blk.free 27⟩;obtain⟨i0,hi0,hz0,hz1,hz2⟩:=info_parts Tryz.infoEntry;have HI:Hid (Tryz.prog.info? 55=some i0∧i0.zero=some (.agg #[.string ByteArray.empty,.int .i32 0,.int .u64 0,.int .u64 0,.bool false,.int .u64 0])∧i0.size=6∧i0.bytes=56):=⟨hi0,hz0,hz1,hz2⟩;obtain⟨x,hx⟩:∃x,x=D.puts[i]:=⟨_,rfl⟩;have HXE:Hid (D.puts[((i:Nat):Int).toNat]?=some x):=by show _=_;rw[hx];exact List.getElem?_eq_getElem hi
 have hx0:=HCELL.out i hi w (Za.refl _ _);rw[←hx]at hx0;obtain⟨a0,a1,a2,a3,a4,a5⟩:=hx0;have hd:decide ((i:Int)<0)=false:=by simp
 have hd2:decide (D.puts.length≤i)=false:=by simp;omega
 clear h hf hv ho hi0 hz0 hz1 hz2 hx;go_enter Tryz.func99,Tryz.ntmps99;go_wp2;obtain⟨w2,hw2⟩:∃w2,w2=(w.alloc (.cells #[.string ⟨#[]⟩,.int .i32 0,.int .u64 0,.int .u64 0,.bool false,.int .u64 0] 55)).alloc (.cells #[.string x.q,.int .i32 x.val,.int .u64 (x.fr:Int),.int .u64 (x.till:Int),.bool x.op,.int .u64 (x.kn:Int)] 55):=⟨_,rfl⟩;have k2:Za (fun _=>False) w w2:=by rw[hw2];exact(Za.alloc _ _ _).allocNew _
 have bb:Blk w2 w.heap.size 55 #[.string ⟨#[]⟩,.int .i32 0,.int .u64 0,.int .u64 0,.bool false,.int .u64 0]∧Blk w2 (w.heap.size+1) 55 #[.string x.q,.int .i32 x.val,.int .u64 (x.fr:Int),.int .u64 (x.till:Int),.bool x.op,.int .u64 (x.kn:Int)]:=by
  rw[hw2];refine⟨(Blk.new w _ _).kept (Za.alloc _ _ (fun _=>False)) id,?_⟩;have:=Blk.new (w.alloc (.cells #[.string ⟨#[]⟩,.int .i32 0,.int .u64 0,.int .u64 0,.bool false,.int .u64 0] 55)) 55 #[.string x.q,.int .i32 x.val,.int .u64 (x.fr:Int),.int .u64 (x.till:Int),.bool x.op,.int .u64 (x.kn:Int)];simp only[World.size_alloc]at this;exact this
 have hs2:w2.heap.size=w.heap.size+2:=by rw[hw2];simp
 rw[show((w.alloc (.cells #[.string ⟨#[]⟩,.int .i32 0,.int .u64 0,.int .u64 0,.bool false,.int .u64 0] 55)).alloc (.cells #[.string x.q,.int .i32 x.val,.int .u64 (x.fr:Int),.int .u64 (x.till:Int),.bool x.op,.int .u64 (x.kn:Int)] 55))=w2 from hw2.symm];have HK2:=hid k2;have HBB:=hid bb;clear hw2 k2 bb a0 a1 a2 a3 a4 a5 c27
 go_loopw [7,34] (fun v j wr=>∃k:Nat,k≤D.puts.length∧j=.int .i64 k∧Hid (ZaD w2 wr v (tkE D.puts i k))) (fun _ j _=>D.puts.length-(intOf j).toNat)
 case atStart=>exact⟨0,Nat.zero_le _,rfl,by simp[tkE];exact Row.nil _ _ _,Za.refl _ _,fun k hk=>by simp[Value.ownBlock]at hk⟩
 case round=>
  obtain⟨k,hk,rfl,HT⟩:=hrel;have hkw:Za (fun _=>False) w wr:=HK2.out.trans HT.out.kept (fun _=>id) (fun _ _=>id);obtain⟨av,cp,hv7,_⟩:=HT.out.row.form;have htl:=Zkc D.puts i k;obtain⟨n,hn⟩:∃n,n=(tkE D.puts i k).length:=⟨_,rfl⟩;rw[←hn]at hv7 htl;subst hv7;by_cases hlt:k<D.puts.length
  · have hy:=HCELL.out k hlt wr hkw;obtain⟨y,hyy⟩:∃y,y=D.puts[k]:=⟨_,rfl⟩;rw[←hyy]at hy;obtain⟨q0,q1,q2,q3,q4,q5⟩:=hy;by_cases hki:k=i
    · have hb:(((k:Int)) !=(i:Int))=false:=by simp[hki]
      have HX:Hid (tkE D.puts i (k+1)=tkE D.puts i k):=by show _=_;rw[hki];exact Zjg D.puts i hi
      clear hyy hki hn;go_wp2
      go_roundw
      case rel=>exact⟨k+1,by omega,by go_num,by rw[HX.out];exact HT.out.row.kept (Za.alloc _ _ (fun _=>False)) (fun _ _=>id),HT.out.kept.allocNew _,HT.out.new⟩
      case measure=>simp[intOf];omega
    · have hb:(((k:Int)) !=(i:Int))=true:=by simp;omega
      have HX:Hid (tkE D.puts i (k+1)=tkE D.puts i k++[y]):=by show _=_;rw[hyy];exact ZiS D.puts i k hlt hki
      have HROW:Hid (∀o o',Row ((wr.alloc o).alloc o') 55 6 (.slice av n cp) n ((tkE D.puts i k).flatMap Zk)):=fun o o'=>by have:=(HT.out.row.kept (Za.alloc wr o (fun _=>False)) (fun _ _=>id)).kept (Za.alloc _ o' (fun _=>False)) (fun _ _=>id);rw[←hn]at this;exact this
      have HNX:Hid (∀(o o':Obj)(w':World)(v':Value),Zc ((wr.alloc o).alloc o') w' 55 6 (.slice av n cp) v' n 1 ((tkE D.puts i k).flatMap Zk) (Zk y)→ZaD w2 w' v' (tkE D.puts i k++[y])):=by
       intro o o' w' v' hA;rw[hn]at hA HT;exact ZaD.next (wr:=wr.alloc o) ⟨HT.out.row.kept (Za.alloc _ _ (fun _=>False)) (fun _ _=>id),HT.out.kept.allocNew _,HT.out.new⟩ hA
      have b1:n+1≤maxLen:=by unfold maxLen;omega
      have b2:(n+1)*56≤140737488355328:=by omega
      clear hyy hki hn
      go_wp2_with (at_builtin;go_must (refine Zf _ rfl (.tmp 42) (.tmp 44) 51 rfl 55 i0 (.agg #[.string ByteArray.empty,.int .i32 0,.int .u64 0,.int .u64 0,.bool false,.int .u64 0]) 6 56 Tryz.underlying51 HI.out.1 HI.out.2.1 HI.out.2.2.1 HI.out.2.2.2 rfl (by decide) (.slice av n cp) n ((tkE D.puts i k).flatMap Zk) rfl (HROW.out _ _) ⟨wr.heap.size+1,0,none⟩ 1 1 (Zk y) rfl rfl (fun j u hj=>by have:=Zea (wr.alloc (.cells #[.string y.q,.int .i32 y.val,.int .u64 (y.fr:Int),.int .u64 (y.till:Int),.bool y.op,.int .u64 (y.kn:Int)] 55)) y 55 j u hj;simpa only[World.size_alloc]using this) (Zbs y) b1 b2 ?_);intro v' w1 hA;have HA:Hid (ZaD w2 w1 v' (tkE D.puts i k++[y])):=HNX.out _ _ _ _ hA;obtain⟨ao',cap',hv',_⟩:=hA.row.form;clear hA;subst hv')
      go_roundw
      case rel=>exact⟨k+1,by omega,by go_num,by rw[HX.out];exact HA.out⟩
      case measure=>simp[intOf];omega
  · have hkk:k=D.puts.length:=by omega
    subst hkk;obtain⟨d27,f27⟩:=HD27.out wr hkw;have hbw:b<wr.heap.size:=by have:=hkw.size;omega
    have hb2:Blk wr w.heap.size 55 #[.string ⟨#[]⟩,.int .i32 0,.int .u64 0,.int .u64 0,.bool false,.int .u64 0]:=HBB.out.1.kept HT.out.kept id;have hb3:Blk wr (w.heap.size+1) 55 #[.string x.q,.int .i32 x.val,.int .u64 (x.fr:Int),.int .u64 (x.till:Int),.bool x.op,.int .u64 (x.kn:Int)]:=HBB.out.2.kept HT.out.kept id;have y0:wr.cell? ⟨w.heap.size,0,none⟩=some (.string ⟨#[]⟩):=hb2.cell 0;have y1:wr.cell? ⟨w.heap.size,1,none⟩=some (.int .i32 0):=hb2.cell 1;have y2:wr.cell? ⟨w.heap.size,2,none⟩=some (.int .u64 0):=hb2.cell 2;have y3:wr.cell? ⟨w.heap.size,3,none⟩=some (.int .u64 0):=hb2.cell 3;have y4:wr.cell? ⟨w.heap.size,4,none⟩=some (.bool false):=hb2.cell 4;have y5:wr.cell? ⟨w.heap.size,5,none⟩=some (.int .u64 0):=hb2.cell 5;have g0:=hb2.free 0;have g1:=hb2.free 1;have g2:=hb2.free 2;have g3:=hb2.free 3;have g4:=hb2.free 4;have g5:=hb2.free 5;have u0:wr.cell? ⟨w.heap.size+1,0,none⟩=some (.string x.q):=hb3.cell 0;have u1:wr.cell? ⟨w.heap.size+1,1,none⟩=some (.int .i32 x.val):=hb3.cell 1;have u2:wr.cell? ⟨w.heap.size+1,2,none⟩=some (.int .u64 (x.fr:Int)):=hb3.cell 2;have u3:wr.cell? ⟨w.heap.size+1,3,none⟩=some (.int .u64 (x.till:Int)):=hb3.cell 3;have u4:wr.cell? ⟨w.heap.size+1,4,none⟩=some (.bool x.op):=hb3.cell 4;have u5:wr.cell? ⟨w.heap.size+1,5,none⟩=some (.int .u64 (x.kn:Int)):=hb3.cell 5;have hbs:b≠w.heap.size:=by omega
    have hbs1:b≠w.heap.size+1:=by omega
    have HKW:=hid hkw;have HN:=hid hn;clear hkw hn hb2 hb3;go_wp2;refine bodyPost_ret (v:=.tuple #[.agg #[.string x.q,.int .i32 x.val,.int .u64 (x.fr:Int),.int .u64 (x.till:Int),.bool x.op,.int .u64 (x.kn:Int)],.int .i64 0]) (by simp[results,Tryz.results99,go_sem, *]) rfl (.inr ⟨by omega,by omega,x,HXE.out,rfl,?_⟩);have hDr:Dev w2 b D:=HD.out.kept HK2.out (fun _ _=>id);have hrow:=HT.out.row;rw[Zkn]at hrow;have hz:=Dev.setPuts hDr (D.puts.eraseIdx i) (.slice av n cp) (w':=wr) (HT.out.kept.mono fun _=>False.elim) hrow (fun y hy=>.inr (HT.out.new y hy));have hlt:=HD.out.lt;have kS:=Zff (wr.setCell ⟨b,27,none⟩ (.slice av n cp)) w.heap.size (.string x.q) (.int .i32 x.val) (.int .u64 (x.fr:Int)) (.int .u64 (x.till:Int)) (.bool x.op) (.int .u64 (x.kn:Int));refine⟨.slice av n cp,hz.1.kept kS fun j hj he=> ?_,(HK2.out.trans hz.2.1 (H:=D.fp b) (fun _=>False.elim) (fun _ _=>id)).trans kS (fun _=>id) (fun j hj he=> ?_),fun y hy=>(hz.2.2 y hy).imp id fun hh=> ?_⟩
    · subst he;rcases hz.2.2 _ hj with h1|h1
      · have:=hlt _ h1;omega
      · omega
    · subst he;omega
    · omega
theorem ZgB (w:World)(b:Nat)(D:Ze)(i:Int)(h:Dev w b D)(hf:D.Fit):
 Calls Tryz.prog 99 #[.pointer (some ⟨b,27,none⟩),.int .i64 i] w fun e w'=>Zbd w b D i e w':=by
 by_cases hi:i<0∨(D.puts.length:Int)≤i
 · exact Zg9 w b D i h hf hi
 · obtain⟨k,rfl⟩:∃k:Nat,i=k:=⟨i.toNat,by omega⟩;exact Zgc w b D k h hf (by omega)
def Zhx (w:World)(b:Nat)(D:Ze)(i:Int)(e:Ending)(w':World):Prop:=
 ((i<0∨(D.puts.length:Int)≤i)∧e=.returned (.int .i64 10)∧Za (fun _=>False) w w')∨
 (0≤i∧i<(D.puts.length:Int)∧e=.returned (.int .i64 0)∧∃v,Dev w' b (D.setPuts (D.puts.eraseIdx i.toNat) v)∧Za (D.fp b) w w'∧(∀y,(D.setPuts (D.puts.eraseIdx i.toNat) v).fp b y→D.fp b y∨w.heap.size≤y))
theorem ddrop (w:World)(b:Nat)(D:Ze)(i:Int)(h:Dev w b D)(hf:D.Fit):
 Calls Tryz.prog 43 #[.pointer (some ⟨b,0,none⟩),.int .i64 i] w fun e w'=>Zhx w b D i e w':=by
 by_cases hi:i<0∨(D.puts.length:Int)≤i
 · have H0:Hid (Calls Tryz.prog 99 #[.pointer (some ⟨b,27,none⟩),.int .i64 i] w fun e w'=>e=.returned (.tuple #[.agg #[.string ⟨#[]⟩,.int .i32 0,.int .u64 0,.int .u64 0,.bool false,.int .u64 0],.int .i64 10])∧Hid (Za (fun _=>False) w w')):=(ZgB w b D i h hf).mono fun e w' hp=>by
    rcases hp with⟨_,e1,k⟩|⟨a,c,_⟩
    · exact⟨e1,k⟩
    · omega
   have HI:=hid hi;clear h hf hi;go_enter Tryz.func43,Tryz.ntmps43
   go_wp2_with (go_at_call 99;refine H0.out.mono ?_;rintro e w1 ⟨rfl,hk⟩)
   go_ret;exact .inl ⟨HI.out,rfl,hk.out.allocNew _⟩
 · have H0:Hid (Calls Tryz.prog 99 #[.pointer (some ⟨b,27,none⟩),.int .i64 i] w fun e w'=>∃x:Zh,e=.returned (.tuple #[.agg #[.string x.q,.int .i32 x.val,.int .u64 (x.fr:Int),.int .u64 (x.till:Int),.bool x.op,.int .u64 (x.kn:Int)],.int .i64 0])∧Hid (∃v,Dev w' b (D.setPuts (D.puts.eraseIdx i.toNat) v)∧Za (D.fp b) w w'∧(∀y,(D.setPuts (D.puts.eraseIdx i.toNat) v).fp b y→D.fp b y∨w.heap.size≤y))):=(ZgB w b D i h hf).mono fun e w' hp=>by
    rcases hp with⟨a,_⟩|⟨_,_,x,_,e1,r⟩
    · exact absurd a hi
    · exact⟨x,e1,r⟩
   have HI:Hid (0≤i∧i<(D.puts.length:Int)):=⟨by omega,by omega⟩;clear h hf hi;go_enter Tryz.func43,Tryz.ntmps43
   go_wp2_with (go_at_call 99;refine H0.out.mono ?_;rintro e w1 ⟨x,rfl,hr⟩)
   go_ret;obtain⟨v,r1,r2,r3⟩:=hr.out;exact .inr ⟨HI.out.1,HI.out.2,rfl,v,r1.kept (Za.alloc _ _ (fun _=>False)) (fun _ _=>id),r2.allocNew _,r3⟩
def Zhn (w:World)(D:Ze)(m:Int)(e:Ending)(w':World):Prop:=
 Za (fun _=>False) w w'∧(((∀i,i<6→(D.seats i).reads=true→(D.seats i).num≠m)∧e=.returned (.tuple #[.agg #[.int .u64 0,.int .u64 0],.int .i64 8]))∨
  (∃j,j<6∧(D.seats j).reads=true∧(D.seats j).num=m∧e=.returned (.tuple #[.agg #[.int .u64 ((D.seats j).lo:Int),.int .u64 ((D.seats j).hi:Int)],.int .i64 0])))
theorem ZgY (w:World)(b:Nat)(D:Ze)(m:Int)(h:Dev w b D):
 Calls Tryz.prog 87 #[.pointer (some ⟨b,2,none⟩),.int .i64 m] w fun e w'=>Zhn w D m e w':=by
 have HD:=hid h;have hbl:=h.blk.lt;have HD1:Hid (∀o,Dev (w.alloc o) b D):=fun o=>h.kept (Za.alloc w o (fun _=>False)) (fun _ _=>id);by_cases hall:∀i,i<6→(D.seats i).reads=true→(D.seats i).num≠m
 · have HALL:=hid hall;have HFR:Hid (∀o,Calls Tryz.prog 133 #[.pointer (some ⟨b,2,none⟩),.int .i64 m] (w.alloc o) fun e w'=>e=.returned (.tuple #[.int .i64 0,.bool false])∧Za (fun _=>False) w w'∧w'.heap[w.heap.size]?=(w.alloc o).heap[w.heap.size]?):=
    fun o=>(Zej (w.alloc o) b D m (HD1.out o)).mono fun e w' hp=>by
     obtain⟨k,⟨j,hj,hr,hn,_⟩|⟨_,e2⟩⟩:=hp
     · exact absurd hn (hall j hj hr)
     · exact⟨e2,(Za.alloc w o (fun _=>False)).trans k (fun _=>id) (fun _ _=>id),k.block _ (by simp) id⟩
   clear h hall;go_enter Tryz.func87,Tryz.ntmps87
   go_wp2_with (go_at_call 133;refine(HFR.out _).mono ?_;rintro e w1 ⟨rfl,hk1,hb1⟩;have p0:w1.cell? ⟨w.heap.size,0,none⟩=some (.int .u64 0):=(World.cell?_of_block (a:=⟨w.heap.size,0,none⟩) hb1).trans (by simp);have p1:w1.cell? ⟨w.heap.size,1,none⟩=some (.int .u64 0):=(World.cell?_of_block (a:=⟨w.heap.size,1,none⟩) hb1).trans (by simp);have g0:w1.frozen? ⟨w.heap.size,0,none⟩=false:=(World.frozen?_of_block (a:=⟨w.heap.size,0,none⟩) hb1).trans (by simp);have g1:w1.frozen? ⟨w.heap.size,1,none⟩=false:=(World.frozen?_of_block (a:=⟨w.heap.size,1,none⟩) hb1).trans (by simp))
   refine bodyPost_ret (v:=.tuple #[.agg #[.int .u64 0,.int .u64 0],.int .i64 8]) (by simp[results,Tryz.results87,go_sem, *]) rfl ⟨?_,.inl ⟨HALL.out,rfl⟩⟩;exact(hk1.setNew _ 0 _ (Nat.le_refl _)).setNew _ 1 _ (Nat.le_refl _)
 · have HFR:Hid (∀o,Calls Tryz.prog 133 #[.pointer (some ⟨b,2,none⟩),.int .i64 m] (w.alloc o) fun e w'=>∃j,j<6∧Hid ((D.seats j).reads=true∧(D.seats j).num=m)∧e=.returned (.tuple #[.int .i64 (j:Int),.bool true])∧Za (fun _=>False) w w'∧w'.heap[w.heap.size]?=(w.alloc o).heap[w.heap.size]? ∧w.heap.size<w'.heap.size):=
    fun o=>(Zej (w.alloc o) b D m (HD1.out o)).mono fun e w' hp=>by
     obtain⟨k,⟨j,hj,hr,hn,e2⟩|⟨ha,_⟩⟩:=hp
     · exact⟨j,hj,⟨hr,hn⟩,e2,(Za.alloc w o (fun _=>False)).trans k (fun _=>id) (fun _ _=>id),k.block _ (by simp) id,by have:=k.size;simp at this;omega⟩
     · exact absurd ha hall
   clear h hall;go_enter Tryz.func87,Tryz.ntmps87
   go_wp2_with (go_at_call 133;refine(HFR.out _).mono ?_;rintro e w1 ⟨j,hj,hr,rfl,hk1,hb1,hsz1⟩;have p0:w1.cell? ⟨w.heap.size,0,none⟩=some (.int .u64 0):=(World.cell?_of_block (a:=⟨w.heap.size,0,none⟩) hb1).trans (by simp);have p1:w1.cell? ⟨w.heap.size,1,none⟩=some (.int .u64 0):=(World.cell?_of_block (a:=⟨w.heap.size,1,none⟩) hb1).trans (by simp);have g0:w1.frozen? ⟨w.heap.size,0,none⟩=false:=(World.frozen?_of_block (a:=⟨w.heap.size,0,none⟩) hb1).trans (by simp);have g1:w1.frozen? ⟨w.heap.size,1,none⟩=false:=(World.frozen?_of_block (a:=⟨w.heap.size,1,none⟩) hb1).trans (by simp);have hD1:Dev w1 b D:=HD.out.kept hk1 (fun _ _=>id);obtain⟨s0,s1,s2,s3⟩:=hD1.seat j hj;clear hD1 hb1;have hbs:b≠w.heap.size:=Nat.ne_of_lt hbl;have hbw:b<w1.heap.size:=Nat.lt_trans hbl hsz1)
   refine bodyPost_ret (v:=.tuple #[.agg #[.int .u64 ((D.seats j).lo:Int),.int .u64 ((D.seats j).hi:Int)],.int .i64 0]) (by simp[results,Tryz.results87,go_sem, *]) rfl ⟨?_,.inr ⟨j,hj,hr.out.1,hr.out.2,rfl⟩⟩;exact(hk1.setNew _ 0 _ (Nat.le_refl _)).setNew _ 1 _ (Nat.le_refl _)
def Yb.cut (s:Yb)(f t:Nat):Yb:={s with lo:=max s.lo f,hi:=min s.hi t}
theorem ZeR (D:Ze)(j:Nat)(hj:j<6)(lo hi:Nat):
 ((D.cells.setIfInBounds (3+j*4+2) (.int .u64 (lo:Int))).setIfInBounds (3+j*4+3) (.int .u64 (hi:Int)))=(D.seatP j {D.seats j with lo:=lo,hi:=hi} D.begun).cells:=by
 rcases six hj with rfl|rfl|rfl|rfl|rfl|rfl<;>simp[Ze.cells,Ze.seatP,Z9]
theorem Dev.seatSpan {w w1:World}{b:Nat}{D:Ze}(h:Dev w1 b D)(k:Za (fun _=>False) w w1)(j:Nat)(hj:j<6)(lo hi:Nat)(W:World)
 (hW:W.heap=((w1.setCell ⟨b,3+j*4+2,none⟩ (.int .u64 (lo:Int))).setCell ⟨b,3+j*4+3,none⟩ (.int .u64 (hi:Int))).heap) (h1:W.os=w1.os) (h2:W.tape=w1.tape) (h3:W.output=w1.output):
 Dev W b (D.seatP j {D.seats j with lo:=lo,hi:=hi} D.begun)∧Za (D.fp b) w W:=by
 have kk:=(Za.setCell w1 ⟨b,3+j*4+2,none⟩ (.int .u64 (lo:Int))).trans (Za.setCell _ ⟨b,3+j*4+3,none⟩ (.int .u64 (hi:Int))) (H:=fun k=>k=b) (fun _=>id) (fun _ _=>id);have kW:Za (fun k=>k=b) w1 W:=⟨h1,h2,h3,by rw[hW];exact kk.size,fun i hi hn=>by rw[hW];exact kk.block i hi hn⟩;have bb:=(h.blk.set (3+j*4+2) (.int .u64 (lo:Int))).set (3+j*4+3) (.int .u64 (hi:Int));rw[ZeR D j hj lo hi]at bb;exact⟨h.own kW rfl (bb.same (by rw[hW])),k.trans kW (fun _=>False.elim) (fun i _ he=>.inl he)⟩
def Zbn (w:World)(b:Nat)(D:Ze)(j f t:Nat)(e:Ending)(w':World):Prop:=e=.returned (.tuple #[])∧Dev w' b (D.seatP j ((D.seats j).cut f t) D.begun)∧Za (D.fp b) w w'
theorem ZgS (w:World)(b:Nat)(D:Ze)(m:Int)(j f t:Nat)(h:Dev w b D)(hj:j<6)(hr:(D.seats j).reads=true)(hn:(D.seats j).num=m)(hone:∀i,i<6→(D.seats i).reads=true→(D.seats i).num=m→i=j):
 Calls Tryz.prog 90 #[.pointer (some ⟨b,2,none⟩),.int .i64 m,.agg #[.int .u64 (f:Int),.int .u64 (t:Int)]] w fun e w'=>Zbn w b D j f t e w':=by
 have HD:=hid h;have hbl:=h.blk.lt;have HFR:Hid (∀o,Calls Tryz.prog 133 #[.pointer (some ⟨b,2,none⟩),.int .i64 m] (w.alloc o) fun e w'=>e=.returned (.tuple #[.int .i64 (j:Int),.bool true])∧Za (fun _=>False) w w'∧w'.heap[w.heap.size]?=(w.alloc o).heap[w.heap.size]? ∧w.heap.size<w'.heap.size):=
  fun o=>(Zej (w.alloc o) b D m (h.kept (Za.alloc w o (fun _=>False)) (fun _ _=>id))).mono fun e w' hp=>by
   obtain⟨k,⟨i,hi,hri,hni,e2⟩|⟨ha,_⟩⟩:=hp
   · have:=hone i hi hri hni;subst this;exact⟨e2,(Za.alloc w o (fun _=>False)).trans k (fun _=>id) (fun _ _=>id),k.block _ (by simp) id,by have:=k.size;simp at this;omega⟩
   · exact absurd hn (ha j hj hr)
 have HLO:Hid (∀W,Dev W b (D.seatP j {D.seats j with lo:=max (D.seats j).lo f,hi:=min (D.seats j).hi t} D.begun)∧Za (D.fp b) w W→Zbn w b D j f t (.returned (.tuple #[])) W):=fun W hW=>⟨rfl,hW⟩;obtain⟨lo,hlo⟩:∃lo,lo=(D.seats j).lo:=⟨_,rfl⟩;obtain⟨hi,hhi⟩:∃hi,hi=(D.seats j).hi:=⟨_,rfl⟩;have HS:Hid (∀W,Za (fun _=>False) w W→Dev W b D∧W.cell? ⟨b,3+j*4+2,none⟩=some (.int .u64 (lo:Int))∧W.cell? ⟨b,3+j*4+3,none⟩=some (.int .u64 (hi:Int))∧W.frozen? ⟨b,3+j*4+2,none⟩=false∧W.frozen? ⟨b,3+j*4+3,none⟩=false):=fun W hW=>by
  have hd:=h.kept hW (fun _ _=>id);exact⟨hd,by rw[hlo];exact(hd.seat j hj).2.2.1,by rw[hhi];exact(hd.seat j hj).2.2.2,hd.blk.free _,hd.blk.free _⟩
 rw[←hlo,←hhi]at HLO;have hj0:(0:Int)≤(j:Int):=by omega
 have hj6:(j:Int)<6:=by omega
 clear h hr hn hone hlo hhi;have hcase:(lo<f∧t<hi)∨(lo<f∧hi≤t)∨(f≤lo∧t<hi)∨(f≤lo∧hi≤t):=by omega
 rcases hcase with⟨q1,q2⟩|⟨q1,q2⟩|⟨q1,q2⟩|⟨q1,q2⟩
 · have em:max lo f=f:=by omega
   have en:min hi t=t:=by omega
   rw[em,en]at HLO;clear em en;go_enter Tryz.func90,Tryz.ntmps90
   go_wp2_with (go_at_call 133;refine(HFR.out _).mono ?_;rintro e w1 ⟨rfl,hk1,hb1,hsz1⟩;obtain⟨hd1,s2,s3,f2,f3⟩:=HS.out _ hk1;have HD1:Hid (Dev w1 b D):=hd1;clear hd1;have p0:w1.cell? ⟨w.heap.size,0,none⟩=some (.int .u64 (f:Int)):=(World.cell?_of_block (a:=⟨w.heap.size,0,none⟩) hb1).trans (by simp);have p1:w1.cell? ⟨w.heap.size,1,none⟩=some (.int .u64 (t:Int)):=(World.cell?_of_block (a:=⟨w.heap.size,1,none⟩) hb1).trans (by simp);clear hb1;have hbs:b≠w.heap.size:=Nat.ne_of_lt hbl;have hbw:b<w1.heap.size:=Nat.lt_trans hbl hsz1)
   go_region
   all_goals
    go_wp2
    go_end0
    exact HLO.out _ (Dev.besides (HD1.out.seatSpan hk1 j hj f t _ rfl rfl rfl rfl) ((Za.alloc _ _ (fun _=>False)).drew) (fun _=>False.elim) (fun i hi=>HD.out.lt i hi))
 · have em:max lo f=f:=by omega
   have en:min hi t=hi:=by omega
   rw[em,en]at HLO;clear em en;go_enter Tryz.func90,Tryz.ntmps90
   go_wp2_with (go_at_call 133;refine(HFR.out _).mono ?_;rintro e w1 ⟨rfl,hk1,hb1,hsz1⟩;obtain⟨hd1,s2,s3,f2,f3⟩:=HS.out _ hk1;have HD1:Hid (Dev w1 b D):=hd1;clear hd1;have p0:w1.cell? ⟨w.heap.size,0,none⟩=some (.int .u64 (f:Int)):=(World.cell?_of_block (a:=⟨w.heap.size,0,none⟩) hb1).trans (by simp);have p1:w1.cell? ⟨w.heap.size,1,none⟩=some (.int .u64 (t:Int)):=(World.cell?_of_block (a:=⟨w.heap.size,1,none⟩) hb1).trans (by simp);clear hb1;have hbs:b≠w.heap.size:=Nat.ne_of_lt hbl;have hbw:b<w1.heap.size:=Nat.lt_trans hbl hsz1)
   go_region
   all_goals
    go_wp2
    go_end0
    exact HLO.out _ (Dev.besides (HD1.out.seatSpan hk1 j hj f hi _ rfl rfl rfl rfl) ((Za.alloc _ _ (fun _=>False)).drew) (fun _=>False.elim) (fun i hi=>HD.out.lt i hi))
 · have em:max lo f=lo:=by omega
   have en:min hi t=t:=by omega
   rw[em,en]at HLO;clear em en;go_enter Tryz.func90,Tryz.ntmps90
   go_wp2_with (go_at_call 133;refine(HFR.out _).mono ?_;rintro e w1 ⟨rfl,hk1,hb1,hsz1⟩;obtain⟨hd1,s2,s3,f2,f3⟩:=HS.out _ hk1;have HD1:Hid (Dev w1 b D):=hd1;clear hd1;have p0:w1.cell? ⟨w.heap.size,0,none⟩=some (.int .u64 (f:Int)):=(World.cell?_of_block (a:=⟨w.heap.size,0,none⟩) hb1).trans (by simp);have p1:w1.cell? ⟨w.heap.size,1,none⟩=some (.int .u64 (t:Int)):=(World.cell?_of_block (a:=⟨w.heap.size,1,none⟩) hb1).trans (by simp);clear hb1;have hbs:b≠w.heap.size:=Nat.ne_of_lt hbl;have hbw:b<w1.heap.size:=Nat.lt_trans hbl hsz1)
   go_region
   all_goals
    go_wp2
    go_end0
    exact HLO.out _ (Dev.besides (HD1.out.seatSpan hk1 j hj lo t _ rfl rfl rfl rfl) ((Za.alloc _ _ (fun _=>False)).drew) (fun _=>False.elim) (fun i hi=>HD.out.lt i hi))
 · have em:max lo f=lo:=by omega
   have en:min hi t=hi:=by omega
   rw[em,en]at HLO;clear em en;go_enter Tryz.func90,Tryz.ntmps90
   go_wp2_with (go_at_call 133;refine(HFR.out _).mono ?_;rintro e w1 ⟨rfl,hk1,hb1,hsz1⟩;obtain⟨hd1,s2,s3,f2,f3⟩:=HS.out _ hk1;have HD1:Hid (Dev w1 b D):=hd1;clear hd1;have p0:w1.cell? ⟨w.heap.size,0,none⟩=some (.int .u64 (f:Int)):=(World.cell?_of_block (a:=⟨w.heap.size,0,none⟩) hb1).trans (by simp);have p1:w1.cell? ⟨w.heap.size,1,none⟩=some (.int .u64 (t:Int)):=(World.cell?_of_block (a:=⟨w.heap.size,1,none⟩) hb1).trans (by simp);clear hb1;have hbs:b≠w.heap.size:=Nat.ne_of_lt hbl;have hbw:b<w1.heap.size:=Nat.lt_trans hbl hsz1)
   go_region
   all_goals
    go_wp2
    go_end0
    exact HLO.out _ (Dev.besides (HD1.out.seatSpan hk1 j hj lo hi _ rfl rfl rfl rfl) ((Za.alloc _ _ (fun _=>False)).drew) (fun _=>False.elim) (fun i hi=>HD.out.lt i hi))
def Zap (s:Nat→Yb):Nat:=(if(s 0).reads then 1 else 0)+(if(s 1).reads then 1 else 0)+(if(s 2).reads then 1 else 0)+(if(s 3).reads then 1 else 0)+(if(s 4).reads then 1 else 0)+(if(s 5).reads then 1 else 0)
theorem Yc (s:Nat→Yb)(j:Nat)(x:Yb):Z9 s j x j=x:=by simp[Z9]
theorem ZK (s:Nat→Yb)(j i:Nat)(x:Yb)(h:i≠j):Z9 s j x i=s i:=by simp[Z9,h]
theorem Zae (s:Nat→Yb)(j:Nat)(x:Yb)(h:j<6):Zap (Z9 s j x)+(if(s j).reads then 1 else 0)=Zap s+(if x.reads then 1 else 0):=by
 rcases six h with rfl|rfl|rfl|rfl|rfl|rfl<;>simp[Zap,Z9]<;>omega
theorem ZhJ {s:Nat→Yb}(h:∀i,i<6→(s i).reads=true):Zap s=6:=by
 simp[Zap,h 0 (by omega),h 1 (by omega),h 2 (by omega),h 3 (by omega),h 4 (by omega),h 5 (by omega)]
theorem Zgt {s:Nat→Yb}{j:Nat}(hj:j<6)(h:(s j).reads=false):Zap s<6:=by
 have:=Zae s j ⟨true,0,0,0⟩ hj;rw[h]at this;have h6:Zap (Z9 s j ⟨true,0,0,0⟩)≤6:=by unfold Zap;split<;>split<;>split<;>split<;>split<;>split<;>omega
 simp at this;omega
theorem Zd5 (l:List Yj)(x:Yj):YH (l++[x])=YH l+if x.ended then 0 else 1:=by
 unfold YH;rw[List.filter_append,List.length_append];cases h:x.ended<;>simp[h]
theorem Zdf (l:List Yj)(j:Nat)(x y:Yj)(h:l[j]?=some x):YH (l.set j y)+(if x.ended then 0 else 1)=YH l+(if y.ended then 0 else 1):=by
 induction l generalizing j with
 |nil=>simp at h
 |cons a r ih=>
  match j with
  |0=>simp at h;subst h;cases ha:a.ended<;>cases hy:y.ended<;>simp[YH,ha,hy]
  |j+1=>
   have:=ih j (by simpa using h);cases ha:a.ended<;>simp[YH,ha]at this⊢ <;>omega
structure V5 (begun:Nat)(s:Nat→Yb)(l:List Yj)(top:Nat):Prop where
 begun:begun=l.length
 seat:∀i,i<6→(s i).reads=true→∃(j:Nat)(x:Yj),(s i).num=j∧l[j]?=some x∧x.ended=false∧x.lo=(s i).lo∧x.hi=(s i).hi
 back:∀(j:Nat)(x:Yj),l[j]?=some x→x.ended=false→∃i,i<6∧(s i).reads=true∧(s i).num=j
 one:∀i k,i<6→k<6→(s i).reads=true→(s k).reads=true→(s i).num=(s k).num→i=k
 count:YH l=Zap s
 span:∀x∈l,x.lo≤x.hi∧x.hi≤top
theorem V5.beginS {b top:Nat}{s:Nat→Yb}{l:List Yj}(h:V5 b s l top){j:Nat}(hj:j<6)(hf:(s j).reads=false)(lo:Nat)(hlo:lo≤top):
 V5 (b+1) (Z9 s j ⟨true,b,lo,top⟩) (l++[⟨lo,top,false⟩]) top:=by
 have hb:=h.begun;refine⟨by simp[hb],?_,?_,?_,?_,?_⟩
 · intro i hi hr;by_cases e:i=j
   · subst e;rw[Yc];exact⟨b,⟨lo,top,false⟩,rfl,by rw[hb];simp,rfl,rfl,rfl⟩
   · rw[ZK _ _ _ _ e]at hr⊢;obtain⟨k,x,h1,h2,h3⟩:=h.seat i hi hr;exact⟨k,x,h1,by rw[List.getElem?_append_left (List.getElem?_eq_some_iff.mp h2).1];exact h2,h3⟩
 · intro k x hx he;by_cases hk:k<l.length
   · rw[List.getElem?_append_left hk]at hx;obtain⟨i,hi,hr,hn⟩:=h.back k x hx he;have e:i≠j:=by intro e;subst e;rw[hf]at hr;cases hr
     exact⟨i,hi,by rw[ZK _ _ _ _ e];exact hr,by rw[ZK _ _ _ _ e];exact hn⟩
   · have hk2:k<(l++[(⟨lo,top,false⟩:Yj)]).length:=(List.getElem?_eq_some_iff.mp hx).1;have:k=b:=by simp at hk2;omega
     exact⟨j,hj,by rw[Yc],by rw[Yc,this]⟩
 · intro i k hi hk hri hrk hn;have key:∀i,i<6→i≠j→(s i).reads=true→(s i).num≠(b:Int):=by
    intro i hi _ hr e;obtain⟨q,x,h1,h2,_⟩:=h.seat i hi hr;have:=(List.getElem?_eq_some_iff.mp h2).1;rw[e]at h1;omega
   by_cases ei:i=j
   · by_cases ek:k=j
     · omega
     · subst ei;rw[Yc,ZK _ _ _ _ ek]at hn;rw[ZK _ _ _ _ ek]at hrk;exact absurd hn.symm (key k hk ek hrk)
   · by_cases ek:k=j
     · subst ek;rw[Yc,ZK _ _ _ _ ei]at hn;rw[ZK _ _ _ _ ei]at hri;exact absurd hn (key i hi ei hri)
     · rw[ZK _ _ _ _ ei,ZK _ _ _ _ ek]at hn;rw[ZK _ _ _ _ ei]at hri;rw[ZK _ _ _ _ ek]at hrk;exact h.one i k hi hk hri hrk hn
 · rw[Zd5,h.count];have:=Zae s j ⟨true,b,lo,top⟩ hj;rw[hf]at this;simpa using this.symm
 · intro x hx;rw[List.mem_append]at hx;rcases hx with hx|hx
   · exact h.span x hx
   · simp at hx;subst hx;exact⟨hlo,Nat.le_refl _⟩
theorem V5.top {b t t':Nat}{s:Nat→Yb}{l:List Yj}(h:V5 b s l t)(ht:t≤t'):V5 b s l t':=
 ⟨h.begun,h.seat,h.back,h.one,h.count,fun x hx=>⟨(h.span x hx).1,Nat.le_trans (h.span x hx).2 ht⟩⟩
theorem V5.endS {b top:Nat}{s:Nat→Yb}{l:List Yj}(h:V5 b s l top){i j:Nat}{x:Yj}(hi:i<6)(hr:(s i).reads=true)(hn:(s i).num=j)(hx:l[j]?=some x)(he:x.ended=false):
 V5 b (Z9 s i ⟨false,0,0,0⟩) (l.set j {x with ended:=true}) top:=by
 have hlt:=(List.getElem?_eq_some_iff.mp hx).1;refine⟨by simp[h.begun],?_,?_,?_,?_,?_⟩
 · intro k hk hrk;by_cases e:k=i
   · subst e;rw[Yc]at hrk;cases hrk
   · rw[ZK _ _ _ _ e]at hrk⊢;obtain⟨q,y,h1,h2,h3⟩:=h.seat k hk hrk;have hq:q≠j:=fun eq=>e (h.one k i hk hi hrk hr (by rw[h1,hn,eq]));exact⟨q,y,h1,by rw[List.getElem?_set_ne (fun z=>hq z.symm)];exact h2,h3⟩
 · intro q y hy hye;by_cases e:q=j
   · subst e;rw[List.getElem?_set_self hlt]at hy;injection hy with hy;subst hy;cases hye
   · rw[List.getElem?_set_ne (fun z=>e z.symm)]at hy;obtain⟨k,hk,hrk,hnk⟩:=h.back q y hy hye;have hki:k≠i:=by intro eq;subst eq;rw[hn]at hnk;omega
     exact⟨k,hk,by rw[ZK _ _ _ _ hki];exact hrk,by rw[ZK _ _ _ _ hki];exact hnk⟩
 · intro p q hp hq hrp hrq hnn;by_cases ep:p=i
   · subst ep;rw[Yc]at hrp;cases hrp
   · by_cases eq:q=i
     · subst eq;rw[Yc]at hrq;cases hrq
     · rw[ZK _ _ _ _ ep,ZK _ _ _ _ eq]at hnn;rw[ZK _ _ _ _ ep]at hrp;rw[ZK _ _ _ _ eq]at hrq;exact h.one p q hp hq hrp hrq hnn
 · have a:=Zdf l j x {x with ended:=true} hx;have c:=Zae s i ⟨false,0,0,0⟩ hi;have d:=h.count;rw[he]at a;rw[hr]at c;simp at a c;omega
 · intro y hy;rcases List.mem_or_eq_of_mem_set hy with hy|rfl
   · exact h.span y hy
   · exact h.span x (List.mem_of_getElem? hx)
theorem V5.cutS {b top:Nat}{s:Nat→Yb}{l:List Yj}(h:V5 b s l top){i j f g:Nat}{x:Yj}(hi:i<6)(hr:(s i).reads=true)(hn:(s i).num=j)(hx:l[j]?=some x)(hf:max x.lo f≤min x.hi g)(hlo:x.lo=(s i).lo)(hhi:x.hi=(s i).hi)(he:x.ended=false):
 V5 b (Z9 s i ((s i).cut f g)) (l.set j {x with lo:=max x.lo f,hi:=min x.hi g}) top:=by
 have hlt:=(List.getElem?_eq_some_iff.mp hx).1;have rd:∀k,(Z9 s i ((s i).cut f g) k).reads=(s k).reads:=fun k=>by by_cases e:k=i<;>simp[Z9,e,Yb.cut]
 have nm:∀k,(Z9 s i ((s i).cut f g) k).num=(s k).num:=fun k=>by by_cases e:k=i<;>simp[Z9,e,Yb.cut]
 refine⟨by simp[h.begun],?_,?_,?_,?_,?_⟩
 · intro k hk hrk;rw[rd]at hrk;rw[nm];by_cases e:k=i
   · subst e;refine⟨j,{x with lo:=max x.lo f,hi:=min x.hi g},hn,List.getElem?_set_self hlt,he,?_,?_⟩
     · rw[Yc];show max x.lo f=max (s k).lo f;rw[hlo]
     · rw[Yc];show min x.hi g=min (s k).hi g;rw[hhi]
   · obtain⟨q,y,h1,h2,h3⟩:=h.seat k hk hrk;have hq:q≠j:=fun eq=>e (h.one k i hk hi hrk hr (by rw[h1,hn,eq]));rw[ZK _ _ _ _ e];exact⟨q,y,h1,by rw[List.getElem?_set_ne (fun z=>hq z.symm)];exact h2,h3⟩
 · intro q y hy hye;by_cases e:q=j
   · subst e;exact⟨i,hi,by rw[rd];exact hr,by rw[nm];exact hn⟩
   · rw[List.getElem?_set_ne (fun z=>e z.symm)]at hy;obtain⟨k,hk,hrk,hnk⟩:=h.back q y hy hye;exact⟨k,hk,by rw[rd];exact hrk,by rw[nm];exact hnk⟩
 · intro p q hp hq hrp hrq hnn;rw[rd]at hrp hrq;rw[nm,nm]at hnn;exact h.one p q hp hq hrp hrq hnn
 · have a:=Zdf l j x {x with lo:=max x.lo f,hi:=min x.hi g} hx;have c:=Zae s i ((s i).cut f g) hi;have d:=h.count;have e:((s i).cut f g).reads=(s i).reads:=rfl;rw[e]at c;have e2:({x with lo:=max x.lo f,hi:=min x.hi g}:Yj).ended=x.ended:=rfl;rw[e2]at a;omega
 · intro y hy;rcases List.mem_or_eq_of_mem_set hy with hy|rfl
   · exact h.span y hy
   · have:=h.span x (List.mem_of_getElem? hx);refine⟨hf,?_⟩;show min x.hi g≤top;omega
end Go.Proofs.YtpfcacedpkaihaaGreat
