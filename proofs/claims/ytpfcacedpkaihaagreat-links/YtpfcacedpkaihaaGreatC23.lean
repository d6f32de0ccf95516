import Derived.Deep.DeepCutAuto
import Derived.Test.YtpfcacedpkaihaaGreatC20
namespace Go.Proofs.YtpfcacedpkaihaaGreat
open Go.RowKit
set_option maxRecDepth 100000
set_option maxHeartbeats 16000000
def mq :ByteArray:=⟨#[40,109,105,110,101,41]⟩
def Vq (i:Nat):Array Value:=#[.string mq,.int .i32 0,.int .u64 0,.int .u64 (i:Int),.bool false,.int .u64 0]
theorem ZbO (w:World)(i:Nat)(hi:i≤4611686018427387904):
 Calls Tryz.prog 19 #[.int .i64 (i:Int)] w fun e w'=>e=.returned (.agg #[.string mq,.int .i32 0,.int .u64 0,.int .u64 (i:Int),.bool false,.int .u64 0])∧Za (fun _=>False) w w':=by
 go_enter Tryz.func19,Tryz.ntmps19;go_wp2;refine bodyPost_ret (v:=.agg #[.string mq,.int .i32 0,.int .u64 0,.int .u64 (i:Int),.bool false,.int .u64 0]) (by simp[results,Tryz.results19,go_sem,mq]) rfl ⟨rfl,Za.alloc _ _ _⟩
def Zd6 (i:Nat):Nat→List Value
 |0=>[]
 |k+1=>(Vq i).toList++Zd6 i k
def IsB (w0:World)(i k:Nat)(w:World)(x:Value):Prop:=∃gb,x=.slice (some ⟨gb,0,none⟩) k k∧w0.heap.size≤gb∧Blk w gb 55 (Zd6 i k).toArray
def IsA (w0:World)(lo:Option Addr)(m lc k:Nat)(w:World)(x:Value):Prop:=
 ∃g cap,x=.slice (some ⟨g,0,none⟩) (m+k) cap∧((lo=some ⟨g,0,none⟩∧m+k≤lc)∨(w0.heap.size≤g∧∃c,Blk w g 55 c∧(m+k)*6≤c.size))
def IsN (w0:World)(lo:Option Addr)(m lc:Nat)(w:World)(x:Value):Prop:=
 ∃N a1 a2 a3,x=.slice (some ⟨N,0,none⟩) 4 4∧w0.heap.size≤N∧Blk w N 51 #[.slice lo m lc,a1,a2,a3]∧IsA w0 lo m lc 1 w a1∧IsA w0 lo m lc 2 w a2∧IsA w0 lo m lc 3 w a3
def VE (w0:World)(lo:Option Addr)(m lc i:Nat):Nat→World→Value→Prop
 |0=>fun _ x=>x=.slice lo m lc
 |1=>fun _ x=>x=.slice lo m lc
 |2=>fun _ x=>x=.agg (Vq i)
 |3=>IsB w0 i 1
 |4=>IsA w0 lo m lc 1
 |5=>fun _ x=>x=.slice lo m lc
 |6=>fun _ x=>x=.agg (Vq i)
 |7=>fun _ x=>x=.agg (Vq i)
 |8=>IsB w0 i 2
 |9=>IsA w0 lo m lc 2
 |10=>fun _ x=>x=.slice lo m lc
 |11=>fun _ x=>x=.agg (Vq i)
 |12=>fun _ x=>x=.agg (Vq i)
 |13=>fun _ x=>x=.agg (Vq i)
 |14=>IsB w0 i 3
 |15=>IsA w0 lo m lc 3
 |_=>IsN w0 lo m lc
def Yk (i:Nat):Nat:=if i=17 then 5 else 14+i
structure SE (w0:World)(lo:Option Addr)(m lc i zb:Nat)(xs:List Value)(w:World):Prop where
 kept:Za (fun k=>(Value.slice lo m lc).ownBlock=some k) w0 w
 row:Row w 55 6 (.slice lo m lc) m xs
 z:Blk w zb 55 (Vq i)
theorem VE.mono {w0 w w':World}{lo:Option Addr}{m lc i:Nat}(hl:∀k,(Value.slice lo m lc).ownBlock=some k→k<w0.heap.size)(k:Za (fun k=>(Value.slice lo m lc).ownBlock=some k) w w'):∀j x,VE w0 lo m lc i j w x→VE w0 lo m lc i j w' x:=by
 have fb:∀q x,IsB w0 i q w x→IsB w0 i q w' x:=by
  rintro q x ⟨gb,h1,h2,h3⟩;exact⟨gb,h1,h2,h3.kept k fun h=>by have:=hl _ h;omega⟩
 have fa:∀q x,IsA w0 lo m lc q w x→IsA w0 lo m lc q w' x:=by
  rintro q x ⟨g,cap,h1,h2|⟨h2,c,h3,h4⟩⟩
  · exact⟨g,cap,h1,.inl h2⟩
  · exact⟨g,cap,h1,.inr ⟨h2,c,h3.kept k fun h=>by have:=hl _ h;omega,h4⟩⟩
 have fn:∀x,IsN w0 lo m lc w x→IsN w0 lo m lc w' x:=by
  rintro x ⟨N,a1,a2,a3,h1,h2,h3,h4,h5,h6⟩;exact⟨N,a1,a2,a3,h1,h2,h3.kept k fun h=>by have:=hl _ h;omega,fa _ _ h4,fa _ _ h5,fa _ _ h6⟩
 intro j x h
 match j,h with
 |0,h=>exact h
 |1,h=>exact h
 |2,h=>exact h
 |3,h=>exact fb _ _ h
 |4,h=>exact fa _ _ h
 |5,h=>exact h
 |6,h=>exact h
 |7,h=>exact h
 |8,h=>exact fb _ _ h
 |9,h=>exact fa _ _ h
 |10,h=>exact h
 |11,h=>exact h
 |12,h=>exact h
 |13,h=>exact h
 |14,h=>exact fb _ _ h
 |15,h=>exact fa _ _ h
 |_+16,h=>exact fn _ h
theorem SE.alloc {w0 w:World}{lo:Option Addr}{m lc i zb:Nat}{xs:List Value}(h:SE w0 lo m lc i zb xs w)(o:Obj):SE w0 lo m lc i zb xs (w.alloc o):=
 ⟨h.kept.trans (Za.alloc w o (fun _=>False)) (fun _=>id) (fun _ _=>False.elim),h.row.kept (Za.alloc w o (fun _=>False)) (fun _ _=>id),h.z.kept (Za.alloc w o (fun _=>False)) id⟩
theorem SE.app {w0 w w':World}{lo:Option Addr}{m lc i zb k:Nat}{xs:List Value}{v':Value}(h:SE w0 lo m lc i zb xs w)(hz:(Value.slice lo m lc).ownBlock≠some zb)(hk:Lies' w (.slice lo m lc) m k v' w')(hr:Row w' 55 6 (.slice lo m lc) m xs):
 SE w0 lo m lc i zb xs w'∧Za (fun k=>(Value.slice lo m lc).ownBlock=some k) w w'∧IsA w0 lo m lc k w' v':=by
 rcases hk with⟨g,cap,e1,e2,e3,hk⟩|⟨g,cap,c,e1,hg,hb,hc,hk⟩
 · injection e1 with q1 _ q2;subst q1 q2;have hk':Za (fun k=>(Value.slice (some ⟨g,0,none⟩) m lc).ownBlock=some k) w w':=hk.mono fun x hx=>by rw[hx];rfl
   exact⟨⟨h.kept.trans hk' (fun _=>id) (fun _ _=>id),hr,h.z.kept hk' hz⟩,hk',g,lc,e3,.inl ⟨rfl,e2⟩⟩
 · have hk':Za (fun k=>(Value.slice lo m lc).ownBlock=some k) w w':=hk.mono fun _=>False.elim;exact⟨⟨h.kept.trans hk' (fun _=>id) (fun _ _=>id),hr,h.z.kept hk' hz⟩,hk',g,cap,e1,.inr ⟨Nat.le_trans h.kept.size hg,c,hb,hc⟩⟩
def ZaR :Array Oper:=#[
 ⟨some 14,.move (.tmp 1),51, "book.go:41",#[],none⟩,
 ⟨some 15,.move (.tmp 1),51, "book.go:41",#[],none⟩,
 ⟨some 16,.load 55 (.tmp 4),55, "book.go:41",#[],none⟩,
 ⟨some 17,.buildSlice 51 1 #[(0,.tmp 16)],51, "book.go:41",#[⟨2,.data⟩],none⟩,
 ⟨some 18,.call {callee:=.builtin .append,args:=#[.tmp 15,.tmp 17],argTypes:=#[51,51]},51, "book.go:41",#[⟨1,.data⟩,⟨3,.data⟩],none⟩,
 ⟨some 19,.move (.tmp 1),51, "book.go:41",#[],none⟩,
 ⟨some 20,.load 55 (.tmp 4),55, "book.go:41",#[],none⟩,
 ⟨some 21,.load 55 (.tmp 4),55, "book.go:41",#[],none⟩,
 ⟨some 22,.buildSlice 51 2 #[(0,.tmp 20),(1,.tmp 21)],51, "book.go:41",#[⟨6,.data⟩,⟨7,.data⟩],none⟩,
 ⟨some 23,.call {callee:=.builtin .append,args:=#[.tmp 19,.tmp 22],argTypes:=#[51,51]},51, "book.go:41",#[⟨5,.data⟩,⟨8,.data⟩,⟨4,.chain⟩],none⟩,
 ⟨some 24,.move (.tmp 1),51, "book.go:41",#[],none⟩,
 ⟨some 25,.load 55 (.tmp 4),55, "book.go:41",#[],none⟩,
 ⟨some 26,.load 55 (.tmp 4),55, "book.go:41",#[],none⟩,
 ⟨some 27,.load 55 (.tmp 4),55, "book.go:41",#[],none⟩,
 ⟨some 28,.buildSlice 51 3 #[(0,.tmp 25),(1,.tmp 26),(2,.tmp 27)],51, "book.go:41",#[⟨11,.data⟩,⟨12,.data⟩,⟨13,.data⟩],none⟩,
 ⟨some 29,.call {callee:=.builtin .append,args:=#[.tmp 24,.tmp 28],argTypes:=#[51,51]},51, "book.go:41",#[⟨10,.data⟩,⟨14,.data⟩,⟨9,.chain⟩],none⟩,
 ⟨some 30,.buildSlice 49 4 #[(0,.tmp 14),(1,.tmp 18),(2,.tmp 23),(3,.tmp 29)],49, "book.go:41",#[⟨0,.data⟩,⟨4,.data⟩,⟨9,.data⟩,⟨15,.data⟩],none⟩,
 ⟨some 5,.assign (.tmp 30),49, "book.go:41",#[⟨16,.data⟩,⟨15,.chain⟩,⟨0,.phase⟩,⟨1,.phase⟩,⟨2,.phase⟩,⟨3,.phase⟩,⟨4,.phase⟩,⟨5,.phase⟩,⟨6,.phase⟩,⟨7,.phase⟩,⟨8,.phase⟩,⟨9,.phase⟩,⟨10,.phase⟩,⟨11,.phase⟩,⟨12,.phase⟩,⟨13,.phase⟩,⟨14,.phase⟩,⟨15,.phase⟩,⟨16,.phase⟩],none⟩]
theorem toQ {a:Act}{k:Nat}{v:Value}(h:a.tmps.getD k undef=v):a.tmps[k]?.getD undef=v:=by rw[←h,Array.getD_eq_getD_getElem?]
theorem inj (i:Nat)(hi:i<18):∀j,j<18→j≠i→Yk j≠Yk i:=by
 intro j hj hne;unfold Yk
 split<;>split<;>omega
theorem ZiO (i:Nat):∀u∈(Vq i).toList,u.oneCell'=true:=by
 intro u hu;simp[Vq]at hu;rcases hu with rfl|rfl|rfl|rfl|rfl|rfl<;>rfl
theorem Za2 (i k:Nat):∀u∈Zd6 i k,u.oneCell'=true:=by
 induction k with
 |zero=>intro u hu;cases hu
 |succ k ih=>
  intro u hu;rw[Zd6,List.mem_append]at hu;exact hu.elim (ZiO i u) (ih u)
theorem lt18 {i:Nat}(h:i<18):i=0∨i=1∨i=2∨i=3∨i=4∨i=5∨i=6∨i=7∨i=8∨i=9∨i=10∨i=11∨i=12∨i=13∨i=14∨i=15∨i=16∨i=17:=by omega
theorem YL {i on:Nat}{listed:Array Bool}(hj:i∈Region.ready .any ZaR listed)(h:(ZaR[i]?.map fun o=>o.after.any fun e=>e.on==on&&Region.binds .any e)=some true):listed.getD on false=true:=by
 obtain⟨_,o,ho,hdep⟩:=mem_ready.1 hj;rw[ho]at h;have h':(o.after.any fun e=>e.on==on&&Region.binds .any e)=true:=by simpa using h
 obtain⟨k,hk,he⟩:=Array.any_eq_true.mp h';simp at he;have:=hdep _ (Array.getElem_mem hk) he.2
 rwa [he.1]at this
theorem Zd8 {w0 w:World}{lo:Option Addr}{m lc i zb:Nat}{xs:List Value}{a0 a:Act}{listed:Array Bool}{Q:Exit→Act→World→Prop}(hlt:∀k,(Value.slice lo m lc).ownBlock=some k→k<w0.heap.size)(hz:(Value.slice lo m lc).ownBlock≠some zb)(hm:m≤1000000)
 (h1:a0.tmps.getD 1 undef=.slice lo m lc) (h4:a0.tmps.getD 4 undef=.pointer (some ⟨zb,0,none⟩)) (j:Nat)
 (hJ:RJ 18 63 Yk (fun k=>a0.tmps.getD k undef) (SE w0 lo m lc i zb xs) (VE w0 lo m lc i) listed a w) (hj:j∈Region.ready .any ZaR listed):
 wpOp Tryz.prog ZaR Q j (RJ 18 63 Yk (fun k=>a0.tmps.getD k undef) (SE w0 lo m lc i zb xs) (VE w0 lo m lc i) (listed.setIfInBounds j true)) a w:=by
 have l1:a.tmps.getD 1 undef=.slice lo m lc:=(hJ.old 1 (by intro q _;unfold Yk;split<;>omega)).trans h1;have l4:a.tmps.getD 4 undef=.pointer (some ⟨zb,0,none⟩):=(hJ.old 4 (by intro q _;unfold Yk;split<;>omega)).trans h4;obtain⟨_,o,ho,_⟩:=mem_ready.1 hj;have hlj:j<18:=(Array.getElem?_eq_some_iff.mp ho).1;clear ho;rcases lt18 hlj with rfl|rfl|rfl|rfl|rfl|rfl|rfl|rfl|rfl|rfl|rfl|rfl|rfl|rfl|rfl|rfl|rfl|rfl
 · refine ZA rfl rfl (Vm ?_);rw[l1];exact hJ.step 0 (by omega) _ (by simp[Yk]) (inj 0 (by omega)) (fun _ _ h=>h) hJ.s rfl
 · refine ZA rfl rfl (Vm ?_);rw[l1];exact hJ.step 1 (by omega) _ (by simp[Yk]) (inj 1 (by omega)) (fun _ _ h=>h) hJ.s rfl
 · refine ZA rfl rfl (Zad l4 hJ.s.z ?_);exact hJ.step 2 (by omega) _ (by simp[Yk]) (inj 2 (by omega)) (fun _ _ h=>h) hJ.s rfl
 · have d0:=YL (on:=2) hj (by kernel_rfl);have v0:VE w0 lo m lc i 2 w (a.tmps.getD 16 undef):=hJ.val 2 (by omega) d0;refine ZA rfl rfl (op_bs1 (toQ v0) ?_);exact hJ.step 3 (by omega) _ (by simp[Yk]) (inj 3 (by omega)) (VE.mono hlt (Za.alloc _ _ _)) (hJ.s.alloc _) ⟨_,rfl,hJ.s.kept.size,Blk.new _ _ _⟩
 · have d0:=YL (on:=1) hj (by kernel_rfl);have v0:VE w0 lo m lc i 1 w (a.tmps.getD 15 undef):=hJ.val 1 (by omega) d0;have d1:=YL (on:=3) hj (by kernel_rfl);have v1:VE w0 lo m lc i 3 w (a.tmps.getD 17 undef):=hJ.val 3 (by omega) d1;obtain⟨gb,e1,_,hb⟩:=v1;refine ZA rfl rfl (Zbg (m:=1) (by omega) v0 e1 hJ.s.row hb rfl (Za2 i 1) hm (by omega) fun v' w' h1 h2=> ?_);obtain⟨s1,s2,s3⟩:=hJ.s.app hz h1 h2;exact hJ.step 4 (by omega) v' (by simp[Yk]) (inj 4 (by omega)) (VE.mono hlt s2) s1 s3
 · refine ZA rfl rfl (Vm ?_);rw[l1];exact hJ.step 5 (by omega) _ (by simp[Yk]) (inj 5 (by omega)) (fun _ _ h=>h) hJ.s rfl
 · refine ZA rfl rfl (Zad l4 hJ.s.z ?_);exact hJ.step 6 (by omega) _ (by simp[Yk]) (inj 6 (by omega)) (fun _ _ h=>h) hJ.s rfl
 · refine ZA rfl rfl (Zad l4 hJ.s.z ?_);exact hJ.step 7 (by omega) _ (by simp[Yk]) (inj 7 (by omega)) (fun _ _ h=>h) hJ.s rfl
 · have d0:=YL (on:=6) hj (by kernel_rfl);have v0:VE w0 lo m lc i 6 w (a.tmps.getD 20 undef):=hJ.val 6 (by omega) d0;have d1:=YL (on:=7) hj (by kernel_rfl);have v1:VE w0 lo m lc i 7 w (a.tmps.getD 21 undef):=hJ.val 7 (by omega) d1;refine ZA rfl rfl (op_bs2 (toQ v0) (toQ v1) ?_);exact hJ.step 8 (by omega) _ (by simp[Yk]) (inj 8 (by omega)) (VE.mono hlt (Za.alloc _ _ _)) (hJ.s.alloc _) ⟨_,rfl,hJ.s.kept.size,Blk.new _ _ _⟩
 · have d0:=YL (on:=5) hj (by kernel_rfl);have v0:VE w0 lo m lc i 5 w (a.tmps.getD 19 undef):=hJ.val 5 (by omega) d0;have d1:=YL (on:=8) hj (by kernel_rfl);have v1:VE w0 lo m lc i 8 w (a.tmps.getD 22 undef):=hJ.val 8 (by omega) d1;obtain⟨gb,e1,_,hb⟩:=v1;refine ZA rfl rfl (Zbg (m:=2) (by omega) v0 e1 hJ.s.row hb rfl (Za2 i 2) hm (by omega) fun v' w' h1 h2=> ?_);obtain⟨s1,s2,s3⟩:=hJ.s.app hz h1 h2;exact hJ.step 9 (by omega) v' (by simp[Yk]) (inj 9 (by omega)) (VE.mono hlt s2) s1 s3
 · refine ZA rfl rfl (Vm ?_);rw[l1];exact hJ.step 10 (by omega) _ (by simp[Yk]) (inj 10 (by omega)) (fun _ _ h=>h) hJ.s rfl
 · refine ZA rfl rfl (Zad l4 hJ.s.z ?_);exact hJ.step 11 (by omega) _ (by simp[Yk]) (inj 11 (by omega)) (fun _ _ h=>h) hJ.s rfl
 · refine ZA rfl rfl (Zad l4 hJ.s.z ?_);exact hJ.step 12 (by omega) _ (by simp[Yk]) (inj 12 (by omega)) (fun _ _ h=>h) hJ.s rfl
 · refine ZA rfl rfl (Zad l4 hJ.s.z ?_);exact hJ.step 13 (by omega) _ (by simp[Yk]) (inj 13 (by omega)) (fun _ _ h=>h) hJ.s rfl
 · have d0:=YL (on:=11) hj (by kernel_rfl);have v0:VE w0 lo m lc i 11 w (a.tmps.getD 25 undef):=hJ.val 11 (by omega) d0;have d1:=YL (on:=12) hj (by kernel_rfl);have v1:VE w0 lo m lc i 12 w (a.tmps.getD 26 undef):=hJ.val 12 (by omega) d1;have d2:=YL (on:=13) hj (by kernel_rfl);have v2:VE w0 lo m lc i 13 w (a.tmps.getD 27 undef):=hJ.val 13 (by omega) d2;refine ZA rfl rfl (op_bs3 (toQ v0) (toQ v1) (toQ v2) ?_);exact hJ.step 14 (by omega) _ (by simp[Yk]) (inj 14 (by omega)) (VE.mono hlt (Za.alloc _ _ _)) (hJ.s.alloc _) ⟨_,rfl,hJ.s.kept.size,Blk.new _ _ _⟩
 · have d0:=YL (on:=10) hj (by kernel_rfl);have v0:VE w0 lo m lc i 10 w (a.tmps.getD 24 undef):=hJ.val 10 (by omega) d0;have d1:=YL (on:=14) hj (by kernel_rfl);have v1:VE w0 lo m lc i 14 w (a.tmps.getD 28 undef):=hJ.val 14 (by omega) d1;obtain⟨gb,e1,_,hb⟩:=v1;refine ZA rfl rfl (Zbg (m:=3) (by omega) v0 e1 hJ.s.row hb rfl (Za2 i 3) hm (by omega) fun v' w' h1 h2=> ?_);obtain⟨s1,s2,s3⟩:=hJ.s.app hz h1 h2;exact hJ.step 15 (by omega) v' (by simp[Yk]) (inj 15 (by omega)) (VE.mono hlt s2) s1 s3
 · have d0:=YL (on:=0) hj (by kernel_rfl);have v0:VE w0 lo m lc i 0 w (a.tmps.getD 14 undef):=hJ.val 0 (by omega) d0;have d1:=YL (on:=4) hj (by kernel_rfl);have v1:VE w0 lo m lc i 4 w (a.tmps.getD 18 undef):=hJ.val 4 (by omega) d1;have d2:=YL (on:=9) hj (by kernel_rfl);have v2:VE w0 lo m lc i 9 w (a.tmps.getD 23 undef):=hJ.val 9 (by omega) d2;have d3:=YL (on:=15) hj (by kernel_rfl);have v3:VE w0 lo m lc i 15 w (a.tmps.getD 29 undef):=hJ.val 15 (by omega) d3;obtain⟨g1,c1,e1,r1⟩:=v1;obtain⟨g2,c2,e2,r2⟩:=v2;obtain⟨g3,c3,e3,r3⟩:=v3;refine ZA rfl rfl (op_bs4 (toQ v0) (toQ e1) (toQ e2) (toQ e3) ?_);have mn:=VE.mono (i:=i) hlt (Za.alloc w (.cells #[.slice lo m lc,.slice (some ⟨g1,0,none⟩) (m+1) c1,.slice (some ⟨g2,0,none⟩) (m+2) c2,.slice (some ⟨g3,0,none⟩) (m+3) c3] 51) (fun k=>(Value.slice lo m lc).ownBlock=some k));exact hJ.step 16 (by omega) _ (by simp[Yk]) (inj 16 (by omega)) mn (hJ.s.alloc _) ⟨_,_,_,_,rfl,hJ.s.kept.size,Blk.new _ _ _,mn 4 _ ⟨g1,c1,rfl,r1⟩,mn 9 _ ⟨g2,c2,rfl,r2⟩,mn 15 _ ⟨g3,c3,rfl,r3⟩⟩
 · have d0:=YL (on:=16) hj (by kernel_rfl);have v0:VE w0 lo m lc i 16 w (a.tmps.getD 30 undef):=hJ.val 16 (by omega) d0;refine ZA rfl rfl (Zda ?_);exact hJ.step 17 (by omega) _ (by simp[Yk]) (inj 17 (by omega)) (fun _ _ h=>h) hJ.s v0
theorem Zr {l:List Value}{n:Nat}(h:l.length=n+1):∃x t,l=x::t∧t.length=n:=by
 match l,h with
 |x::t,h=>exact⟨x,t,rfl,by simpa using h⟩
theorem ZgA {cs:Array Value}(h:cs.size=63):∃x0 x1 x2 x3 x4 x5 x6 x7 x8 x9 x10 x11 x12 x13 x14 x15 x16 x17 x18 x19 x20 x21 x22 x23 x24 x25 x26 x27 x28 x29 x30 x31 x32 x33 x34 x35 x36 x37 x38 x39 x40 x41 x42 x43 x44 x45 x46 x47 x48 x49 x50 x51 x52 x53 x54 x55 x56 x57 x58 x59 x60 x61 x62,cs=#[x0,x1,x2,x3,x4,x5,x6,x7,x8,x9,x10,x11,x12,x13,x14,x15,x16,x17,x18,x19,x20,x21,x22,x23,x24,x25,x26,x27,x28,x29,x30,x31,x32,x33,x34,x35,x36,x37,x38,x39,x40,x41,x42,x43,x44,x45,x46,x47,x48,x49,x50,x51,x52,x53,x54,x55,x56,x57,x58,x59,x60,x61,x62]:=by
 rcases cs with⟨l0⟩;have h0:l0.length=63:=h;obtain⟨x0,l1,e0,h1⟩:=Zr h0;obtain⟨x1,l2,e1,h2⟩:=Zr h1;obtain⟨x2,l3,e2,h3⟩:=Zr h2;obtain⟨x3,l4,e3,h4⟩:=Zr h3;obtain⟨x4,l5,e4,h5⟩:=Zr h4;obtain⟨x5,l6,e5,h6⟩:=Zr h5;obtain⟨x6,l7,e6,h7⟩:=Zr h6;obtain⟨x7,l8,e7,h8⟩:=Zr h7;obtain⟨x8,l9,e8,h9⟩:=Zr h8;obtain⟨x9,l10,e9,h10⟩:=Zr h9;obtain⟨x10,l11,e10,h11⟩:=Zr h10;obtain⟨x11,l12,e11,h12⟩:=Zr h11;obtain⟨x12,l13,e12,h13⟩:=Zr h12;obtain⟨x13,l14,e13,h14⟩:=Zr h13;obtain⟨x14,l15,e14,h15⟩:=Zr h14;obtain⟨x15,l16,e15,h16⟩:=Zr h15;obtain⟨x16,l17,e16,h17⟩:=Zr h16;obtain⟨x17,l18,e17,h18⟩:=Zr h17;obtain⟨x18,l19,e18,h19⟩:=Zr h18;obtain⟨x19,l20,e19,h20⟩:=Zr h19;obtain⟨x20,l21,e20,h21⟩:=Zr h20;obtain⟨x21,l22,e21,h22⟩:=Zr h21;obtain⟨x22,l23,e22,h23⟩:=Zr h22;obtain⟨x23,l24,e23,h24⟩:=Zr h23;obtain⟨x24,l25,e24,h25⟩:=Zr h24;obtain⟨x25,l26,e25,h26⟩:=Zr h25;obtain⟨x26,l27,e26,h27⟩:=Zr h26;obtain⟨x27,l28,e27,h28⟩:=Zr h27;obtain⟨x28,l29,e28,h29⟩:=Zr h28;obtain⟨x29,l30,e29,h30⟩:=Zr h29;obtain⟨x30,l31,e30,h31⟩:=Zr h30;obtain⟨x31,l32,e31,h32⟩:=Zr h31;obtain⟨x32,l33,e32,h33⟩:=Zr h32;obtain⟨x33,l34,e33,h34⟩:=Zr h33;obtain⟨x34,l35,e34,h35⟩:=Zr h34;obtain⟨x35,l36,e35,h36⟩:=Zr h35;obtain⟨x36,l37,e36,h37⟩:=Zr h36;obtain⟨x37,l38,e37,h38⟩:=Zr h37;obtain⟨x38,l39,e38,h39⟩:=Zr h38;obtain⟨x39,l40,e39,h40⟩:=Zr h39;obtain⟨x40,l41,e40,h41⟩:=Zr h40;obtain⟨x41,l42,e41,h42⟩:=Zr h41;obtain⟨x42,l43,e42,h43⟩:=Zr h42;obtain⟨x43,l44,e43,h44⟩:=Zr h43;obtain⟨x44,l45,e44,h45⟩:=Zr h44;obtain⟨x45,l46,e45,h46⟩:=Zr h45;obtain⟨x46,l47,e46,h47⟩:=Zr h46;obtain⟨x47,l48,e47,h48⟩:=Zr h47;obtain⟨x48,l49,e48,h49⟩:=Zr h48;obtain⟨x49,l50,e49,h50⟩:=Zr h49;obtain⟨x50,l51,e50,h51⟩:=Zr h50;obtain⟨x51,l52,e51,h52⟩:=Zr h51;obtain⟨x52,l53,e52,h53⟩:=Zr h52;obtain⟨x53,l54,e53,h54⟩:=Zr h53;obtain⟨x54,l55,e54,h55⟩:=Zr h54;obtain⟨x55,l56,e55,h56⟩:=Zr h55;obtain⟨x56,l57,e56,h57⟩:=Zr h56;obtain⟨x57,l58,e57,h58⟩:=Zr h57;obtain⟨x58,l59,e58,h59⟩:=Zr h58;obtain⟨x59,l60,e59,h60⟩:=Zr h59;obtain⟨x60,l61,e60,h61⟩:=Zr h60;obtain⟨x61,l62,e61,h62⟩:=Zr h61;obtain⟨x62,l63,e62,h63⟩:=Zr h62;have en:l63=[]:=List.eq_nil_of_length_eq_zero h63;exact⟨x0,x1,x2,x3,x4,x5,x6,x7,x8,x9,x10,x11,x12,x13,x14,x15,x16,x17,x18,x19,x20,x21,x22,x23,x24,x25,x26,x27,x28,x29,x30,x31,x32,x33,x34,x35,x36,x37,x38,x39,x40,x41,x42,x43,x44,x45,x46,x47,x48,x49,x50,x51,x52,x53,x54,x55,x56,x57,x58,x59,x60,x61,x62,by rw[e0,e1,e2,e3,e4,e5,e6,e7,e8,e9,e10,e11,e12,e13,e14,e15,e16,e17,e18,e19,e20,e21,e22,e23,e24,e25,e26,e27,e28,e29,e30,e31,e32,e33,e34,e35,e36,e37,e38,e39,e40,e41,e42,e43,e44,e45,e46,e47,e48,e49,e50,e51,e52,e53,e54,e55,e56,e57,e58,e59,e60,e61,e62,en]⟩
theorem ZjK :∀(i:Nat)(o:Oper),ZaR[i]?=some o→∀e∈o.after,e.on<i:=by
 have key:((List.range 18).all fun i=>((ZaR[i]?.map fun o=>o.after.all fun e=>decide (e.on<i)).getD true))=true:=by kernel_rfl
 intro i o ho e he;have hi:i<18:=(Array.getElem?_eq_some_iff.mp ho).1;have h1:=List.all_eq_true.mp key i (List.mem_range.mpr hi);rw[ho]at h1;have h2:(o.after.all fun e=>decide (e.on<i))=true:=by simpa using h1
 obtain⟨k,hk,rfl⟩:=Array.getElem_of_mem he;have:=Array.all_eq_true.mp h2 k hk;simpa using this
theorem Zb8 {w0 w:World}{lo:Option Addr}{m lc i zb:Nat}{xs:List Value}{a0:Act}{Q:Exit→Act→World→Prop}(hlt:∀k,(Value.slice lo m lc).ownBlock=some k→k<w0.heap.size)(hz:(Value.slice lo m lc).ownBlock≠some zb)(hm:m≤1000000)
 (h0:a0.tmps.size=63) (hd:a0.defers=[]) (h1:a0.tmps.getD 1 undef=.slice lo m lc) (h4:a0.tmps.getD 4 undef=.pointer (some ⟨zb,0,none⟩)) (hS:SE w0 lo m lc i zb xs w)
 (hQ:∀(a:Act)(w':World),a.tmps.size=63→a.defers=[]→(∀k,(k<14∧k≠5)∨30<k→a.tmps.getD k undef=a0.tmps.getD k undef)→SE w0 lo m lc i zb xs w'→IsN w0 lo m lc w' (a.tmps.getD 5 undef)→Q .normal a w'):
 wpAny Tryz.prog .any ZaR Q ZaR.size (Array.replicate ZaR.size false) a0 w:=by
 refine Za7 (ops:=ZaR) (RJ 18 63 Yk (fun k=>a0.tmps.getD k undef) (SE w0 lo m lc i zb xs) (VE w0 lo m lc i)) (fun _ _ _ h=>h.size.trans rfl) (fun listed a w j hJ hj=>Zd8 hlt hz hm h1 h4 j hJ hj) (fun listed a w hJ hr=> ?_) _ _ _ _ ?_ ?_
 · have all:=Zck (ops:=ZaR) (by rw[hJ.size];rfl) ZjK hr;refine hQ a w hJ.tsz hJ.dfr (fun k hk=>hJ.old k fun q hq=> ?_) hJ.s (hJ.val 17 (by omega) (all 17 (by decide)));unfold Yk
   split<;>omega
 · refine⟨by simp[ZaR],h0,hd,fun k _=>rfl,hS,fun j hj hl=> ?_⟩;exfalso;have:ZaR.size=18:=rfl;rw[this]at hl;simp[Array.getD,hj]at hl
 · have:ZaR.size=18:=rfl;rw[this];simp
def Mk (i:Nat)(W:World)(g j:Nat):Prop:=∃c,Blk W g 55 c∧∀f,f<6→c[j*6+f]?=(Vq i)[f]?
structure Four (W:World)(zb m:Nat)(ad:Nat→Option Addr)(Own:Nat→Prop):Prop where
 room:∀k,k<4→0<m+k→∃g,ad k=some ⟨g,0,none⟩∧Own g∧g≠zb∧∃c,Blk W g 55 c∧(m+k)*6≤c.size
def Vs (m:Nat)(ad:Nat→Option Addr)(cp:Nat→Nat):Array Value:=#[.slice (ad 0) (m+0) (cp 0),.slice (ad 1) (m+1) (cp 1),.slice (ad 2) (m+2) (cp 2),.slice (ad 3) (m+3) (cp 3)]
theorem Zag (m:Nat)(ad:Nat→Option Addr)(cp:Nat→Nat)(k:Nat)(hk:k<4):(Vs m ad cp)[k]?=some (.slice (ad k) (m+k) (cp k)):=by
 have:k=0∨k=1∨k=2∨k=3:=by omega
 rcases this with rfl|rfl|rfl|rfl<;>rfl
def st6 (W:World)(g o:Nat)(z0 z1 z2 z3 z4 z5:Value):World:=(((((W.setCell ⟨g,o,none⟩ z0).setCell ⟨g,o+1,none⟩ z1).setCell ⟨g,o+2,none⟩ z2).setCell ⟨g,o+3,none⟩ z3).setCell ⟨g,o+4,none⟩ z4).setCell ⟨g,o+5,none⟩ z5
theorem ZaN (W:World)(g o:Nat)(z0 z1 z2 z3 z4 z5:Value):Za (fun k=>k=g) W (st6 W g o z0 z1 z2 z3 z4 z5):=by
 have st:∀(a:World)(f:Nat)(v:Value),Za (fun k=>k=g) W a→Za (fun k=>k=g) W (a.setCell ⟨g,f,none⟩ v):=fun a f v ha=>ha.trans (Za.setCell a _ v) (fun _=>id) (fun _ _ hk=>hk);exact st _ _ _ (st _ _ _ (st _ _ _ (st _ _ _ (st _ _ _ (st _ _ _ (Za.refl _ _))))))
theorem Zkk {W:World}{g:Nat}{T:TypeId}{c:Array Value}(h:Blk W g T c)(o:Nat)(z0 z1 z2 z3 z4 z5:Value):Blk (st6 W g o z0 z1 z2 z3 z4 z5) g T ((((((c.setIfInBounds o z0).setIfInBounds (o+1) z1).setIfInBounds (o+2) z2).setIfInBounds (o+3) z3).setIfInBounds (o+4) z4).setIfInBounds (o+5) z5):=
 (((((h.set o z0).set (o+1) z1).set (o+2) z2).set (o+3) z3).set (o+4) z4).set (o+5) z5
theorem Zjx (c:Array Value)(i:Nat)(h:(i+1)*6≤c.size)(z0 z1 z2 z3 z4 z5:Value)(j f:Nat)(hf:f<6):
 ((((((c.setIfInBounds (i*6) z0).setIfInBounds (i*6+1) z1).setIfInBounds (i*6+2) z2).setIfInBounds (i*6+3) z3).setIfInBounds (i*6+4) z4).setIfInBounds (i*6+5) z5)[j*6+f]?=if j=i then(#[z0,z1,z2,z3,z4,z5]:Array Value)[f]? else c[j*6+f]? :=by
 by_cases e:j=i
 · subst e;have hc:f=0∨f=1∨f=2∨f=3∨f=4∨f=5:=by omega
   rw[if_pos rfl];rcases hc with rfl|rfl|rfl|rfl|rfl|rfl<;>simp[Array.getElem?_setIfInBounds]<;>omega
 · rw[if_neg e];rw[Array.getElem?_setIfInBounds_ne (by omega),Array.getElem?_setIfInBounds_ne (by omega),Array.getElem?_setIfInBounds_ne (by omega),Array.getElem?_setIfInBounds_ne (by omega),Array.getElem?_setIfInBounds_ne (by omega),Array.getElem?_setIfInBounds_ne (by omega)]
theorem ZiE {i:Nat}{W:World}{g j:Nat}{c:Array Value}(hb:Blk W g 55 c)(hs:(j+1)*6≤c.size)(W':World)(hW:W'=st6 W g (j*6) (.string mq) (.int .i32 0) (.int .u64 0) (.int .u64 (i:Int)) (.bool false) (.int .u64 0)):
 Za (fun k=>k=g) W W'∧Mk i W' g j∧(∀g' j',Mk i W g' j'→Mk i W' g' j')∧∃c',Blk W' g 55 c'∧c'.size=c.size:=by
 subst hW;have k:=ZaN W g (j*6) (.string mq) (.int .i32 0) (.int .u64 0) (.int .u64 (i:Int)) (.bool false) (.int .u64 0);have b:=Zkk hb (j*6) (.string mq) (.int .i32 0) (.int .u64 0) (.int .u64 (i:Int)) (.bool false) (.int .u64 0);refine⟨k,⟨_,b,fun f hf=>by rw[Zjx c j hs _ _ _ _ _ _ j f hf,if_pos rfl];rfl⟩,?_,_,b,by simp⟩;rintro g' j' ⟨c',hb',hc'⟩;by_cases e:g'=g
 · subst e;obtain⟨_,rfl⟩:=hb.type hb';refine⟨_,b,fun f hf=> ?_⟩;rw[Zjx c j hs _ _ _ _ _ _ j' f hf]
   split
   · rfl
   · exact hc' f hf
 · exact⟨c',hb'.kept k e,hc'⟩
theorem Mk.same {i:Nat}{W W':World}{g j:Nat}(h:Mk i W g j)(hs:W'.heap[g]?=W.heap[g]?):Mk i W' g j:=by
 obtain⟨c,hb,hc⟩:=h;exact⟨c,hb.same hs,hc⟩
theorem Four.keep {W W':World}{zb m:Nat}{ad:Nat→Option Addr}{Own:Nat→Prop}(h:Four W zb m ad Own)(hk:∀g c,Blk W g 55 c→∃c',Blk W' g 55 c'∧c.size≤c'.size):Four W' zb m ad Own:=by
 refine⟨fun k hk4 h0=> ?_⟩;obtain⟨g,h1,h2,h3,c,hb,hc⟩:=h.room k hk4 h0;obtain⟨c',hb',hc'⟩:=hk g c hb;exact⟨g,h1,h2,h3,c',hb',by omega⟩
end Go.Proofs.YtpfcacedpkaihaaGreat
