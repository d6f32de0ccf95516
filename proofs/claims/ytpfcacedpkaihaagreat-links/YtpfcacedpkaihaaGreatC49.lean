import Derived.Test.YtpfcacedpkaihaaGreatC34
import Derived.Test.YtpfcacedpkaihaaGreatC5
import Derived.Test.YtpfcacedpkaihaaGreatC6
namespace Go.Proofs.YtpfcacedpkaihaaGreat
open Go.RowKit
set_option maxRecDepth 100000
set_option maxHeartbeats 16000000
theorem Zcb {P:Program}(w:World){o:Oper}{a:Act}{K:Act→World→Prop}{Q:Exit→Act→World→Prop}(s x:Operand)(t:TypeId)
 (ho:o.op=.call {callee:=.builtin .append,args:=#[s,x],argTypes:=#[t,t]})
 (e:TypeId) (i:TypeInfo) (z:Value) (size bytes:Nat) (ht:P.underlying t=some (.slice e)) (hi:P.info? e=some i) (hz:i.zero=some z)
 (hsize:i.size=size) (hby:i.bytes=bytes) (hzs:z.cells.size=size) (hsz:0<size)
 (v:Value) (n:Nat) (xs:List Value) (hs:a.eval s=v) (hown:Row w e size v n xs)
 (ad:Addr) (m c:Nat) (hm0:0<m) (news:List Value) (hx:a.eval x=.slice (some ad) m c) (hl:news.length=m*size) (hnews:∀j u,news[j]?=some u→w.cell? (ad.add j)=some u) (h1:∀u∈news,u.oneCell'=true)
 (h63:n+m≤maxLen) (hbytes:(n+m)*bytes≤140737488355328)
 (h:∀v' w',Zc w w' e size v v' n m xs news→Row w' e size v n xs→K (a.put o.dst v') w'):o.wp P a w K Q:=by
 obtain⟨v',w',hr,r1,r2,r3⟩:=V3 (P:=P) w t o.type e i z size bytes ht hi hz hsize hby hzs hsz v n xs hown ad m c news hl hnews h1 h63 hbytes;obtain⟨v2,w2,hr2,hB⟩:=V1 (P:=P) w t o.type e i z size bytes ht hi hz hsize hby hzs hsz v n xs hown ad m c hm0 news hl hnews h1 h63 hbytes;rw[hr]at hr2;injection hr2 with e1 e2;subst e1 e2;have hold:Row w' e size v n xs:=by
  rcases hB with⟨g,cap,_,_,_,hR,_⟩|⟨g,cap,_,_,_,hk⟩
  · exact hR
  · exact hown.kept hk fun _ _=>id
 unfold Oper.wp;simp[execOp,ho,resolve,invoke,builtin,hs,hx,hr,Result.andThen];exact h v' w' ⟨r1,r2,r3⟩ hold
theorem ZbY (w:World)(a:Value)(t:TypeId):∀j u,[a][j]?=some u→(w.alloc (.cells #[a] t)).cell? ((⟨w.heap.size,0,none⟩:Addr).add j)=some u:=by
 intro j u hj
 match j,hj with
 |0,hj=>simp at hj;subst hj;simp[Addr.add]
 |j+1,hj=>simp at hj
theorem Zic {w w2 w':World}{e:TypeId}{size:Nat}{v v':Value}{n m:Nat}{xs news:List Value}(k:Za (fun _=>False) w w2)(h:Zc w2 w' e size v v' n m xs news):Zc w w' e size v v' n m xs news:=by
 refine⟨h.row,k.trans h.kept (fun _=>False.elim) (fun _ _=>id),?_⟩;rcases h.own with e|e
 · exact .inl e
 · exact .inr fun j hj=>Nat.le_trans k.size (e j hj)
theorem copy6 {Q:Exit→Act→World→Prop}{F:World→Prop}{W:World}{b g gf k m x n cap len1 c1:Nat}{xs:List Value}{i0:TypeInfo}{u3 u4 u5 u6 u7 u8 u9 u10 u11 u12 u13 u14 u15 u16 u17 u18 u19 u20 u21 u22 u23 u24 u25 u26 u27 u28 u29 u30 u31 u32 u33 u34 u35 u36 u37 u38 u39 u40 u41 u42 u43 u44 u45 u46 u47 u48 u49 u50 u51 u52:Value}
 (hP:∀x (a:Act)(d:Nat) v w,Q (.panic x) (a.put (some d) v) w→Q (.panic x) a w) (hk0:(0:Int)≤(k:Int)) (hk1:(k:Int)<(n:Int)) (hm0:(0:Int)≤(m:Int)) (hm1:(m:Int)<(len1:Int)) (n3:W.cell? ⟨b,3,none⟩=some (.slice (some ⟨g,0,none⟩) n cap)) (n5:W.cell? ⟨g,k*7+3,none⟩=some (.slice (some ⟨gf,0,none⟩) len1 c1)) (n7:W.cell? ⟨gf,m,none⟩=some (.int .u64 (x:Int)))
 (HI0:Hid (Tryz.prog.info? 53=some i0∧i0.zero=some (.int .u64 0)∧i0.size=1∧i0.bytes=8)) (k1:len1+1≤maxLen) (k2:(len1+1)*8≤140737488355328) (HROW:Hid (∀W2:World,Za (fun _=>False) W W2→Row W2 53 1 (.slice (some ⟨gf,0,none⟩) len1 c1) len1 xs))
 (HAP:Hid (∀(W2 w':World)(v':Value),Za (fun _=>False) W W2→Zc W2 w' 53 1 (.slice (some ⟨gf,0,none⟩) len1 c1) v' len1 1 xs [.int .u64 (x:Int)]→Row w' 53 1 (.slice (some ⟨gf,0,none⟩) len1 c1) len1 xs→w'.cell? ⟨b,3,none⟩=some (.slice (some ⟨g,0,none⟩) n cap)∧w'.cell? ⟨g,k*7+3,none⟩=some (.slice (some ⟨gf,0,none⟩) len1 c1)∧w'.cell? ⟨gf,m,none⟩=some (.int .u64 (x:Int))∧w'.frozen? ⟨g,k*7+3,none⟩=false∧Hid (F (w'.setCell ⟨g,k*7+3,none⟩ v'))))
 (hfin:∀x25 x26 x27 x28 x29 x30 x31 x32 x33 x34 x35 x36 x37 x38 x39 x40 x41 x42 x43 x44 x45 x46 x47 x48 x49 x50 x51 x52 w'',F w''→Q .normal ⟨#[.pointer (some ⟨b,0,none⟩),.int .i64 (k:Int),.int .i64 (m:Int),u3,u4,u5,u6,u7,u8,u9,u10,u11,u12,u13,u14,u15,u16,u17,u18,u19,u20,u21,u22,u23,u24,x25,x26,x27,x28,x29,x30,x31,x32,x33,x34,x35,x36,x37,x38,x39,x40,x41,x42,x43,x44,x45,x46,x47,x48,x49,x50,x51,x52],[]⟩ w''):
 (Code.region 6 #[⟨some 25,.move (.tmp 0),42, "node.go:205",#[],none⟩,⟨some 26,.nilCheck (.tmp 25),0, "node.go:205",#[⟨0,.data⟩],none⟩,⟨some 27,.fieldAddr 84 (.tmp 26) 3,0, "node.go:205",#[⟨1,.data⟩],none⟩,⟨some 28,.load 82 (.tmp 27),82, "node.go:205",#[⟨2,.data⟩],none⟩,⟨some 29,.move (.tmp 1),3, "node.go:205",#[],none⟩,⟨some 30,.move (.tmp 0),42, "node.go:205",#[],none⟩,⟨some 31,.nilCheck (.tmp 30),0, "node.go:205",#[⟨5,.data⟩],none⟩,⟨some 32,.fieldAddr 84 (.tmp 31) 3,0, "node.go:205",#[⟨6,.data⟩],none⟩,⟨some 33,.load 82 (.tmp 32),82, "node.go:205",#[⟨7,.data⟩],none⟩,⟨some 34,.move (.tmp 1),3, "node.go:205",#[],none⟩,⟨some 35,.indexAddr 82 (.tmp 33) (.tmp 34),0, "node.go:205",#[⟨8,.data⟩,⟨9,.data⟩],none⟩,⟨some 36,.fieldAddr 146 (.tmp 35) 3,0, "node.go:205",#[⟨10,.data⟩],none⟩,⟨some 37,.load 144 (.tmp 36),144, "node.go:205",#[⟨11,.data⟩],none⟩,⟨some 38,.move (.tmp 0),42, "node.go:205",#[],none⟩,⟨some 39,.nilCheck (.tmp 38),0, "node.go:205",#[⟨13,.data⟩],none⟩,⟨some 40,.fieldAddr 84 (.tmp 39) 3,0, "node.go:205",#[⟨14,.data⟩],none⟩,⟨some 41,.load 82 (.tmp 40),82, "node.go:205",#[⟨15,.data⟩],none⟩,⟨some 42,.move (.tmp 1),3, "node.go:205",#[],none⟩,⟨some 43,.indexAddr 82 (.tmp 41) (.tmp 42),0, "node.go:205",#[⟨16,.data⟩,⟨17,.data⟩],none⟩,⟨some 44,.fieldAddr 146 (.tmp 43) 3,0, "node.go:205",#[⟨18,.data⟩],none⟩,⟨some 45,.load 144 (.tmp 44),144, "node.go:205",#[⟨19,.data⟩],none⟩,⟨some 46,.move (.tmp 2),3, "node.go:205",#[],none⟩,⟨some 47,.indexAddr 144 (.tmp 45) (.tmp 46),0, "node.go:205",#[⟨20,.data⟩,⟨21,.data⟩],none⟩,⟨some 48,.load 53 (.tmp 47),53, "node.go:205",#[⟨22,.data⟩],none⟩,⟨some 49,Op.buildSlice 144 1 #[(0,.tmp 48)],144, "node.go:205",#[⟨23,.data⟩],none⟩,⟨some 50,Op.call {callee:=Callee.builtin Builtin.append,args:=#[.tmp 37,.tmp 49],argTypes:=#[144,144]},144, "node.go:205",#[⟨12,.data⟩,⟨24,.data⟩],none⟩,⟨some 51,.indexAddr 82 (.tmp 28) (.tmp 29),0, "node.go:205",#[⟨3,.data⟩,⟨4,.data⟩,⟨0,.phase⟩,⟨1,.phase⟩,⟨2,.phase⟩,⟨3,.phase⟩,⟨4,.phase⟩,⟨5,.phase⟩,⟨6,.phase⟩,⟨7,.phase⟩,⟨8,.phase⟩,⟨9,.phase⟩,⟨10,.phase⟩,⟨11,.phase⟩,⟨12,.phase⟩,⟨13,.phase⟩,⟨14,.phase⟩,⟨15,.phase⟩,⟨16,.phase⟩,⟨17,.phase⟩,⟨18,.phase⟩,⟨19,.phase⟩,⟨20,.phase⟩,⟨21,.phase⟩,⟨22,.phase⟩,⟨23,.phase⟩,⟨24,.phase⟩,⟨25,.phase⟩],none⟩,⟨some 52,.fieldAddr 146 (.tmp 51) 3,0, "node.go:205",#[⟨26,.data⟩,⟨0,.phase⟩,⟨1,.phase⟩,⟨2,.phase⟩,⟨3,.phase⟩,⟨4,.phase⟩,⟨5,.phase⟩,⟨6,.phase⟩,⟨7,.phase⟩,⟨8,.phase⟩,⟨9,.phase⟩,⟨10,.phase⟩,⟨11,.phase⟩,⟨12,.phase⟩,⟨13,.phase⟩,⟨14,.phase⟩,⟨15,.phase⟩,⟨16,.phase⟩,⟨17,.phase⟩,⟨18,.phase⟩,⟨19,.phase⟩,⟨20,.phase⟩,⟨21,.phase⟩,⟨22,.phase⟩,⟨23,.phase⟩,⟨24,.phase⟩,⟨25,.phase⟩],none⟩,⟨none,Op.store 144 (.tmp 52) (.tmp 50),0, "node.go:205",#[⟨27,.data⟩,⟨25,.data⟩,⟨25,.chain⟩,⟨0,.phase⟩,⟨1,.phase⟩,⟨2,.phase⟩,⟨3,.phase⟩,⟨4,.phase⟩,⟨5,.phase⟩,⟨6,.phase⟩,⟨7,.phase⟩,⟨8,.phase⟩,⟨9,.phase⟩,⟨10,.phase⟩,⟨11,.phase⟩,⟨12,.phase⟩,⟨13,.phase⟩,⟨14,.phase⟩,⟨15,.phase⟩,⟨16,.phase⟩,⟨17,.phase⟩,⟨18,.phase⟩,⟨19,.phase⟩,⟨20,.phase⟩,⟨21,.phase⟩,⟨22,.phase⟩,⟨23,.phase⟩,⟨24,.phase⟩,⟨25,.phase⟩],none⟩] true).wp Tryz.prog Q ⟨#[.pointer (some ⟨b,0,none⟩),.int .i64 (k:Int),.int .i64 (m:Int),u3,u4,u5,u6,u7,u8,u9,u10,u11,u12,u13,u14,u15,u16,u17,u18,u19,u20,u21,u22,u23,u24,u25,u26,u27,u28,u29,u30,u31,u32,u33,u34,u35,u36,u37,u38,u39,u40,u41,u42,u43,u44,u45,u46,u47,u48,u49,u50,u51,u52],[]⟩ W:=by
 refine Zbh 28 (fun w'=>w'.cell? ⟨b,3,none⟩=some (.slice (some ⟨g,0,none⟩) n cap)∧w'.cell? ⟨g,k*7+3,none⟩=some (.slice (some ⟨gf,0,none⟩) len1 c1)∧w'.cell? ⟨gf,m,none⟩=some (.int .u64 (x:Int))) (by kernel_rfl) ?_;have hS:(fun w'=>w'.cell? ⟨b,3,none⟩=some (.slice (some ⟨g,0,none⟩) n cap)∧w'.cell? ⟨g,k*7+3,none⟩=some (.slice (some ⟨gf,0,none⟩) len1 c1)∧w'.cell? ⟨gf,m,none⟩=some (.int .u64 (x:Int))) W.drew:=⟨n3,n5,n7⟩;refine Zcv (i:=0) (v:= ?_) rfl (by kernel_rfl) (by kernel_rfl) (by kernel_rfl) (by kernel_rfl) (fun x a w h=>hP x a _ _ w h) hS (Or.inl ⟨by rfl,?_⟩) ?_
 rotate_left
 · (intro w hSw;(try dsimp only at hSw);go_simp;first|done|with_reducible rfl)
 simp only[Act.put]
 iterate 23
  refine ZcT (v:= ?_) rfl (by kernel_rfl) (by kernel_rfl) (by kernel_rfl) (by kernel_rfl) (fun x a w h=>hP x a _ _ w h) hS (Or.inl ⟨by rfl,?_⟩) ?_
  rotate_left
  · (intro w hSw;(try dsimp only at hSw);go_simp;first|done|with_reducible rfl)
  simp only[Act.put]
 refine YI (j:=24) (by kernel_rfl) (by rfl) rfl (by decide) (fun K hK=> ?_)
 go_simp
 refine hK.out _ _ ⟨Zg (w:=W.drew) n3,Zg (w:=W.drew) n5,Zg (w:=W.drew) n7⟩ ?_;clear hK K hS;refine YI (j:=25) (by kernel_rfl) (by rfl) rfl (by decide) (fun K hK=> ?_);refine Zcb _ (.tmp 37) (.tmp 49) 144 rfl 53 i0 (.int .u64 0) 1 8 Tryz.underlying144 HI0.out.1 HI0.out.2.1 HI0.out.2.2.1 HI0.out.2.2.2 rfl (Nat.succ_pos 0) (.slice (some ⟨gf,0,none⟩) len1 c1) len1 xs rfl (HROW.out _ ((Za.refl _ _).drew.allocNew _)) ⟨W.heap.size,0,none⟩ 1 1 (Nat.succ_pos 0) [.int .u64 (x:Int)] rfl rfl (fun j u hj=>ZbY W.drew _ _ j u hj) (XC _) k1 k2 (fun v' w' hA hB=> ?_);obtain⟨p1,p2,l0,p3,p4⟩:=HAP.out _ _ _ ((Za.refl _ _).drew.allocNew _) hA hB;obtain⟨ao',cap',hv',_⟩:=hA.row.form;clear hA hB;subst hv';have hS:(fun w'=>w'.cell? ⟨b,3,none⟩=some (.slice (some ⟨g,0,none⟩) n cap)∧w'.cell? ⟨g,k*7+3,none⟩=some (.slice (some ⟨gf,0,none⟩) len1 c1)∧w'.cell? ⟨gf,m,none⟩=some (.int .u64 (x:Int))) w':=⟨p1,p2,l0⟩;refine hK.out _ _ hS ?_;clear hK K;simp only[Act.put];refine YI (j:=26) (by kernel_rfl) (by rfl) rfl (by decide) (fun K hK=> ?_)
 go_simp
 refine hK.out _ _ hS ?_;clear hK K;refine YI (j:=27) (by kernel_rfl) (by rfl) rfl (by decide) (fun K hK=> ?_)
 go_simp
 refine hK.out _ _ hS ?_;clear hK K;refine Zc6 (by kernel_rfl) (by rfl) rfl (by kernel_rfl) (fun K hK=> ?_)
 go_simp
 refine hK.out _ _ ?_;exact hfin _ _ _ _ _ _ _ _ _ _ _ _ _ _ _ _ _ _ _ _ _ _ _ _ _ _ _ _ _ p4.out
def ZiD (w:World)(b:Nat)(R:Zd)(k i:Int)(e:Ending)(w':World):Prop:=
 (Yh R k i≠0∧e=.returned (.int .i64 (Yh R k i))∧w=w')∨
 (∃(j m:Nat)(nd:Zi)(x:Nat),k=(j:Int)∧i=(m:Int)∧R.nodes[j]?=some nd∧nd.fls[m]?=some x∧Yh R k i=0∧((12≤nd.fls.length∧e=.returned (.int .i64 6)∧w=w')∨(nd.fls.length<12∧e=.returned (.int .i64 0)∧Zm w b R j {nd.p with fls:=nd.fls++[x]} w')))
theorem rcopy (w:World)(b:Nat)(R:Zd)(k i:Int)(h:Ref w b R)(hm:R.nodes.length≤3)(hl:∀nd∈R.nodes,nd.fls.length≤1000):
 Calls Tryz.prog 62 #[.pointer (some ⟨b,0,none⟩),.int .i64 k,.int .i64 i] w fun e w'=>ZiD w b R k i e w':=by
 have HLK:Hid (Calls Tryz.prog 113 #[.pointer (some ⟨b,0,none⟩),.int .i64 k,.int .i64 i] w fun e w'=>e=.returned (.int .i64 (Yh R k i))∧w=w'):=Ziu w b R k i h hm;by_cases hz:Yh R k i=0
 · obtain⟨j,m,nd,rfl,rfl,hnd,hm2⟩:=Za8 hz;obtain⟨hk,hnd'⟩:=List.getElem?_eq_some_iff.mp hnd;have hmem:=List.mem_of_getElem? hnd;obtain⟨g,cap,hv,ho,hgl⟩:=h.nodes.block (by omega);have c3:=h.c3;rw[hv]at c3;have hrf:=h.fls nd hmem;obtain⟨gf,cf,hvf,hof,hgfl⟩:=hrf.block (by omega);have a3:=h.nodes.cell ho (j*7+3) _ (by rw[Zy R.nodes j hk 3 (by omega)];rfl);rw[hnd',hvf]at a3;have f3:=h.nodes.free ho (j*7+3);have p0:=hrf.cell hof m _ (Zaj hm2);obtain⟨x,hx⟩:∃x,x=nd.fls[m]:=⟨_,rfl⟩;rw[←hx]at p0;have HX:Hid (R.nodes[j]?=some nd∧nd.fls[m]?=some x∧Yh R (j:Int) (m:Int)=0):=⟨hnd,by rw[hx];exact List.getElem?_eq_getElem hm2,hz⟩;have hgb:g≠b:=fun e=>h.nodes.ne_block h.blk (by decide) (by rw[ho,e]);have hbg:b≠g:=Ne.symm hgb;have hfl:=hl nd hmem;rw[hz]at HLK;have hj0:(0:Int)≤(j:Int):=by omega
   have hj1:(j:Int)<(R.nodes.length:Int):=by omega
   have hm0:(0:Int)≤(m:Int):=by omega
   have hm1:(m:Int)<(nd.fls.length:Int):=by omega
   by_cases h12:12≤nd.fls.length
   · have hd:(12:Int)≤(nd.fls.length:Int):=by omega
     have H12:=hid h12;clear h hl hnd hnd' hv ho hvf hz hm2 hx hrf hmem h12;go_enter Tryz.func62,Tryz.ntmps62
     go_wp2_with (go_at_call 113;refine HLK.out.mono ?_;rintro e w1 ⟨rfl,rfl⟩)
     go_ret;exact .inr ⟨j,m,nd,x,rfl,rfl,HX.out.1,HX.out.2.1,HX.out.2.2,.inl ⟨H12.out,rfl,rfl⟩⟩
   · have hd:(nd.fls.length:Int)<12:=by omega
     have H12:Hid (nd.fls.length<12):=by show _<_;omega
     have HROW:Hid (∀W2:World,Za (fun _=>False) w W2→Row W2 53 1 (.slice (some ⟨gf,0,none⟩) nd.fls.length cf) nd.fls.length (ZL nd.fls)):=fun W2 hk=>by
      have:=hrf.kept hk (fun _ _=>id);rw[hvf]at this;exact this
     have HAP:Hid (∀(W2 w':World)(v':Value),Za (fun _=>False) w W2→Zc W2 w' 53 1 (.slice (some ⟨gf,0,none⟩) nd.fls.length cf) v' nd.fls.length 1 (ZL nd.fls) [.int .u64 (x:Int)]→Row w' 53 1 (.slice (some ⟨gf,0,none⟩) nd.fls.length cf) nd.fls.length (ZL nd.fls)→w'.cell? ⟨b,3,none⟩=some (.slice (some ⟨g,0,none⟩) R.nodes.length cap)∧w'.cell? ⟨g,j*7+3,none⟩=some (.slice (some ⟨gf,0,none⟩) nd.fls.length cf)∧w'.cell? ⟨gf,m,none⟩=some (.int .u64 (x:Int))∧w'.frozen? ⟨g,j*7+3,none⟩=false∧Hid (Zm w b R j {nd.p with fls:=nd.fls++[x]} (w'.setCell ⟨g,j*7+3,none⟩ v'))):=by
      intro W2 w' v' hk hA hR;have hA2:Zc w w' 53 1 nd.fl v' nd.fls.length 1 (ZL nd.fls) [.int .u64 (x:Int)]:=by rw[hvf];exact Zic hk hA
      have hfg:¬nd.fl.ownBlock=some g:=fun e=>hrf.ne_row h.nodes (by decide) g e ho;have hfb:¬nd.fl.ownBlock=some b:=fun e=>hrf.ne_block h.blk (by decide) e;refine⟨hA2.kept.keep hfb c3,hA2.kept.keep hfg a3,hR.cell (by rw[←hvf];exact hof) m _ (by rw[Zaj hm2,←hx]),(h.nodes.kept hA2.kept fun q hq he=>hfg (by rw[ho]at hq;injection hq with hq;rw[hq];exact he)).free ho _,?_⟩;refine h.setFlB hnd ho (nd.fls++[x]) v' hA2.kept ?_ fun y hy=> ?_
      · rw[List.length_append,show ZL (nd.fls++[x])=ZL nd.fls++[.int .u64 (x:Int)] by simp[ZL]];exact hA2.row
      · rcases hA2.own with e|e
        · exact .inl (by rw[←e];exact hy)
        · exact .inr (e y hy)
     obtain⟨i0,hi,hz0,hz1,hz2⟩:=info_parts Tryz.infoStamp;have HI:Hid (Tryz.prog.info? 53=some i0∧i0.zero=some (.int .u64 0)∧i0.size=1∧i0.bytes=8):=⟨hi,hz0,hz1,hz2⟩;have b1:nd.fls.length+1≤maxLen:=by unfold maxLen;omega
     have b2:(nd.fls.length+1)*8≤140737488355328:=by omega
     clear h hl hnd hnd' hv ho hvf hz hm2 hx hrf hmem h12 hi hz0 hz1 hz2;go_enter Tryz.func62,Tryz.ntmps62
     go_wp2_with (go_at_call 113;refine HLK.out.mono ?_;rintro e w1 ⟨rfl,rfl⟩)
     refine copy6 (F:=fun wx=>Zm w b R j {nd.p with fls:=nd.fls++[x]} wx) (fun _ _ _ _ _ h=>h) hj0 hj1 hm0 hm1 c3 a3 p0 HI b1 b2 HROW HAP ?_;intros
     rename_i hF
     clear c3 a3 f3 p0;go_wp2;go_ret;exact .inr ⟨j,m,nd,x,rfl,rfl,HX.out.1,HX.out.2.1,HX.out.2.2,.inr ⟨H12.out,rfl,hF⟩⟩
 · have HZ:=hid hz;obtain⟨er,her⟩:∃er,er=Yh R k i:=⟨_,rfl⟩;have hb:((er:Int)==0)=false:=beq_eq_false_iff_ne.mpr (by rw[her];exact hz);have hb2:((er:Int) !=0)=true:=by simpa using hb
   have HE:=hid her;rw[←her]at HLK;clear h hl hz her;go_enter Tryz.func62,Tryz.ntmps62
   go_wp2_with (go_at_call 113;refine HLK.out.mono ?_;rintro e w1 ⟨rfl,rfl⟩)
   go_ret;exact .inl ⟨HZ.out,by rw[HE.out];rfl,rfl⟩
theorem ZcF (x:Nat):∀u∈[Value.int .u64 (x:Int)],u.oneCell'=true:=by
 intro u hu;simp at hu;subst hu;rfl
theorem Zh6 {Q:Exit→Act→World→Prop}{F:World→Prop}{W:World}{b g k x n cap len1 c1:Nat}{a1:Option Addr}{xs:List Value}{i0:TypeInfo}{u2 u3 u4 u5 u6 u7 u9 u10 u11 u12 u13 u14 u15 u16 u17 u18 u19 u20 u21 u22 u23 u24 u25 u26 u27 u28 u29 u30 u31 u32 u33 u34 u35 u36 u37 u38 u39 u40 u41 u42 u43 u44 u45 u46 u47 u48 u49 u50 u51 u52 u53 u54 u55 u56 u57 u58 u59 u60 u61 u62 u63 u64 u65 u66 u67 u68 u69 u70 u71 u72 u73 u74 u75 u76 u77 u78 u79 u80 u81 u82 u83 u84 u85 u86 u87 u88 u89 u90 u91 u92 u93 u94 u95 u96 u97 u98 u99 u100 u101 u102 u103 u104 u105 u106 u107 u108 u109 u110 u111 u112 u113 u114 u115 u116 u117 u118 u119 u120 u121 u122 u123 u124 u125 u126 u127 u128:Value}
 (hP:∀x (a:Act)(d:Nat) v w,Q (.panic x) (a.put (some d) v) w→Q (.panic x) a w) (hk0:(0:Int)≤(k:Int)) (hk1:(k:Int)<(n:Int)) (n3:W.cell? ⟨b,3,none⟩=some (.slice (some ⟨g,0,none⟩) n cap)) (n4:W.cell? ⟨g,k*7+4,none⟩=some (.slice a1 len1 c1))
 (HI0:Hid (Tryz.prog.info? 53=some i0∧i0.zero=some (.int .u64 0)∧i0.size=1∧i0.bytes=8)) (k1:len1+1≤maxLen) (k2:(len1+1)*8≤140737488355328) (HROW:Hid (∀W2:World,Za (fun _=>False) W W2→Row W2 53 1 (.slice a1 len1 c1) len1 xs))
 (HAP:Hid (∀(W2 w':World)(v':Value),Za (fun _=>False) W W2→Zc W2 w' 53 1 (.slice a1 len1 c1) v' len1 1 xs [.int .u64 (x:Int)]→w'.cell? ⟨b,3,none⟩=some (.slice (some ⟨g,0,none⟩) n cap)∧w'.cell? ⟨g,k*7+4,none⟩=some (.slice a1 len1 c1)∧w'.frozen? ⟨g,k*7+4,none⟩=false∧Hid (F (w'.setCell ⟨g,k*7+4,none⟩ v'))))
 (hfin:∀x111 x112 x113 x114 x115 x116 x117 x118 x119 x120 x121 x122 x123 x124 x125 x126 x127 x128 w'',F w''→Q .normal ⟨#[.pointer (some ⟨b,0,none⟩),.int .i64 (k:Int),u2,u3,u4,u5,u6,u7,.int .u64 (x:Int),u9,u10,u11,u12,u13,u14,u15,u16,u17,u18,u19,u20,u21,u22,u23,u24,u25,u26,u27,u28,u29,u30,u31,u32,u33,u34,u35,u36,u37,u38,u39,u40,u41,u42,u43,u44,u45,u46,u47,u48,u49,u50,u51,u52,u53,u54,u55,u56,u57,u58,u59,u60,u61,u62,u63,u64,u65,u66,u67,u68,u69,u70,u71,u72,u73,u74,u75,u76,u77,u78,u79,u80,u81,u82,u83,u84,u85,u86,u87,u88,u89,u90,u91,u92,u93,u94,u95,u96,u97,u98,u99,u100,u101,u102,u103,u104,u105,u106,u107,u108,u109,u110,x111,x112,x113,x114,x115,x116,x117,x118,x119,x120,x121,x122,x123,x124,x125,x126,x127,x128],[]⟩ w''):
 (Code.region 17 #[⟨some 111,.move (.tmp 0),42, "node.go:264",#[],none⟩,⟨some 112,.nilCheck (.tmp 111),0, "node.go:264",#[⟨0,.data⟩],none⟩,⟨some 113,.fieldAddr 84 (.tmp 112) 3,0, "node.go:264",#[⟨1,.data⟩],none⟩,⟨some 114,.load 82 (.tmp 113),82, "node.go:264",#[⟨2,.data⟩],none⟩,⟨some 115,.move (.tmp 1),3, "node.go:264",#[],none⟩,⟨some 116,.move (.tmp 0),42, "node.go:264",#[],none⟩,⟨some 117,.nilCheck (.tmp 116),0, "node.go:264",#[⟨5,.data⟩],none⟩,⟨some 118,.fieldAddr 84 (.tmp 117) 3,0, "node.go:264",#[⟨6,.data⟩],none⟩,⟨some 119,.load 82 (.tmp 118),82, "node.go:264",#[⟨7,.data⟩],none⟩,⟨some 120,.move (.tmp 1),3, "node.go:264",#[],none⟩,⟨some 121,.indexAddr 82 (.tmp 119) (.tmp 120),0, "node.go:264",#[⟨8,.data⟩,⟨9,.data⟩],none⟩,⟨some 122,.fieldAddr 146 (.tmp 121) 4,0, "node.go:264",#[⟨10,.data⟩],none⟩,⟨some 123,.load 144 (.tmp 122),144, "node.go:264",#[⟨11,.data⟩],none⟩,⟨some 124,.move (.tmp 8),53, "node.go:264",#[],none⟩,⟨some 125,Op.buildSlice 144 1 #[(0,.tmp 124)],144, "node.go:264",#[⟨13,.data⟩],none⟩,⟨some 126,Op.call {callee:=Callee.builtin Builtin.append,args:=#[.tmp 123,.tmp 125],argTypes:=#[144,144]},144, "node.go:264",#[⟨12,.data⟩,⟨14,.data⟩],none⟩,⟨some 127,.indexAddr 82 (.tmp 114) (.tmp 115),0, "node.go:264",#[⟨3,.data⟩,⟨4,.data⟩,⟨0,.phase⟩,⟨1,.phase⟩,⟨2,.phase⟩,⟨3,.phase⟩,⟨4,.phase⟩,⟨5,.phase⟩,⟨6,.phase⟩,⟨7,.phase⟩,⟨8,.phase⟩,⟨9,.phase⟩,⟨10,.phase⟩,⟨11,.phase⟩,⟨12,.phase⟩,⟨13,.phase⟩,⟨14,.phase⟩,⟨15,.phase⟩],none⟩,⟨some 128,.fieldAddr 146 (.tmp 127) 4,0, "node.go:264",#[⟨16,.data⟩,⟨0,.phase⟩,⟨1,.phase⟩,⟨2,.phase⟩,⟨3,.phase⟩,⟨4,.phase⟩,⟨5,.phase⟩,⟨6,.phase⟩,⟨7,.phase⟩,⟨8,.phase⟩,⟨9,.phase⟩,⟨10,.phase⟩,⟨11,.phase⟩,⟨12,.phase⟩,⟨13,.phase⟩,⟨14,.phase⟩,⟨15,.phase⟩],none⟩,⟨none,Op.store 144 (.tmp 128) (.tmp 126),0, "node.go:264",#[⟨17,.data⟩,⟨15,.data⟩,⟨15,.chain⟩,⟨0,.phase⟩,⟨1,.phase⟩,⟨2,.phase⟩,⟨3,.phase⟩,⟨4,.phase⟩,⟨5,.phase⟩,⟨6,.phase⟩,⟨7,.phase⟩,⟨8,.phase⟩,⟨9,.phase⟩,⟨10,.phase⟩,⟨11,.phase⟩,⟨12,.phase⟩,⟨13,.phase⟩,⟨14,.phase⟩,⟨15,.phase⟩],none⟩] true).wp Tryz.prog Q ⟨#[.pointer (some ⟨b,0,none⟩),.int .i64 (k:Int),u2,u3,u4,u5,u6,u7,.int .u64 (x:Int),u9,u10,u11,u12,u13,u14,u15,u16,u17,u18,u19,u20,u21,u22,u23,u24,u25,u26,u27,u28,u29,u30,u31,u32,u33,u34,u35,u36,u37,u38,u39,u40,u41,u42,u43,u44,u45,u46,u47,u48,u49,u50,u51,u52,u53,u54,u55,u56,u57,u58,u59,u60,u61,u62,u63,u64,u65,u66,u67,u68,u69,u70,u71,u72,u73,u74,u75,u76,u77,u78,u79,u80,u81,u82,u83,u84,u85,u86,u87,u88,u89,u90,u91,u92,u93,u94,u95,u96,u97,u98,u99,u100,u101,u102,u103,u104,u105,u106,u107,u108,u109,u110,u111,u112,u113,u114,u115,u116,u117,u118,u119,u120,u121,u122,u123,u124,u125,u126,u127,u128],[]⟩ W:=by
 refine Zbh 18 (fun w'=>w'.cell? ⟨b,3,none⟩=some (.slice (some ⟨g,0,none⟩) n cap)∧w'.cell? ⟨g,k*7+4,none⟩=some (.slice a1 len1 c1)) (by kernel_rfl) ?_;have hS:(fun w'=>w'.cell? ⟨b,3,none⟩=some (.slice (some ⟨g,0,none⟩) n cap)∧w'.cell? ⟨g,k*7+4,none⟩=some (.slice a1 len1 c1)) W.drew:=⟨n3,n4⟩;refine Zcv (i:=0) (v:= ?_) rfl (by kernel_rfl) (by kernel_rfl) (by kernel_rfl) (by kernel_rfl) (fun x a w h=>hP x a _ _ w h) hS (Or.inl ⟨by rfl,?_⟩) ?_
 rotate_left
 · (intro w hSw;(try dsimp only at hSw);go_simp;first|done|with_reducible rfl)
 simp only[Act.put]
 iterate 13
  refine ZcT (v:= ?_) rfl (by kernel_rfl) (by kernel_rfl) (by kernel_rfl) (by kernel_rfl) (fun x a w h=>hP x a _ _ w h) hS (Or.inl ⟨by rfl,?_⟩) ?_
  rotate_left
  · (intro w hSw;(try dsimp only at hSw);go_simp;first|done|with_reducible rfl)
  simp only[Act.put]
 refine YI (j:=14) (by kernel_rfl) (by rfl) rfl (by decide) (fun K hK=> ?_)
 go_simp
 refine hK.out _ _ ⟨Zg (w:=W.drew) n3,Zg (w:=W.drew) n4⟩ ?_;clear hK K hS;refine YI (j:=15) (by kernel_rfl) (by rfl) rfl (by decide) (fun K hK=> ?_);refine Yn _ (.tmp 123) (.tmp 125) 144 rfl 53 i0 (.int .u64 0) 1 8 Tryz.underlying144 HI0.out.1 HI0.out.2.1 HI0.out.2.2.1 HI0.out.2.2.2 rfl (Nat.succ_pos 0) (.slice a1 len1 c1) len1 xs rfl (HROW.out _ ((Za.refl _ _).drew.allocNew _)) ⟨W.heap.size,0,none⟩ 1 1 [.int .u64 (x:Int)] rfl rfl (fun j u hj=>ZbY W.drew _ _ j u hj) (ZcF x) k1 k2 (fun v' w' hA=> ?_);obtain⟨p1,p2,p3,p4⟩:=HAP.out _ _ _ ((Za.refl _ _).drew.allocNew _) hA;obtain⟨ao',cap',hv',_⟩:=hA.row.form;clear hA;subst hv';have hS:(fun w'=>w'.cell? ⟨b,3,none⟩=some (.slice (some ⟨g,0,none⟩) n cap)∧w'.cell? ⟨g,k*7+4,none⟩=some (.slice a1 len1 c1)) w':=⟨p1,p2⟩;refine hK.out _ _ hS ?_;clear hK K;simp only[Act.put];refine YI (j:=16) (by kernel_rfl) (by rfl) rfl (by decide) (fun K hK=> ?_)
 go_simp
 refine hK.out _ _ hS ?_;clear hK K;refine YI (j:=17) (by kernel_rfl) (by rfl) rfl (by decide) (fun K hK=> ?_)
 go_simp
 refine hK.out _ _ hS ?_;clear hK K;refine Zc6 (by kernel_rfl) (by rfl) rfl (by kernel_rfl) (fun K hK=> ?_)
 go_simp
 refine hK.out _ _ ?_;exact hfin _ _ _ _ _ _ _ _ _ _ _ _ _ _ _ _ _ _ _ p4.out
end Go.Proofs.YtpfcacedpkaihaaGreat
