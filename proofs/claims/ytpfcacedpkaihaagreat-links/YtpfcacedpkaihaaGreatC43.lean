import Derived.Test.YtpfcacedpkaihaaGreatC42
import Derived.Test.YtpfcacedpkaihaaGreatC39
namespace Go.Proofs.YtpfcacedpkaihaaGreat
open Go.RowKit
set_option maxRecDepth 100000
set_option maxHeartbeats 16000000
def Vu :Array Oper:=#[
 ⟨some 14,.move (.tmp 1),60, "book.go:53",#[],none⟩,
 ⟨some 15,.move (.tmp 1),60, "book.go:53",#[],none⟩,
 ⟨some 16,.load 62 (.tmp 4),62, "book.go:53",#[],none⟩,
 ⟨some 17,.buildSlice 60 1 #[(0,.tmp 16)],60, "book.go:53",#[⟨2,.data⟩],none⟩,
 ⟨some 18,.call {callee:=.builtin .append,args:=#[.tmp 15,.tmp 17],argTypes:=#[60,60]},60, "book.go:53",#[⟨1,.data⟩,⟨3,.data⟩],none⟩,
 ⟨some 19,.move (.tmp 1),60, "book.go:53",#[],none⟩,
 ⟨some 20,.load 62 (.tmp 4),62, "book.go:53",#[],none⟩,
 ⟨some 21,.load 62 (.tmp 4),62, "book.go:53",#[],none⟩,
 ⟨some 22,.buildSlice 60 2 #[(0,.tmp 20),(1,.tmp 21)],60, "book.go:53",#[⟨6,.data⟩,⟨7,.data⟩],none⟩,
 ⟨some 23,.call {callee:=.builtin .append,args:=#[.tmp 19,.tmp 22],argTypes:=#[60,60]},60, "book.go:53",#[⟨5,.data⟩,⟨8,.data⟩,⟨4,.chain⟩],none⟩,
 ⟨some 24,.move (.tmp 1),60, "book.go:53",#[],none⟩,
 ⟨some 25,.load 62 (.tmp 4),62, "book.go:53",#[],none⟩,
 ⟨some 26,.load 62 (.tmp 4),62, "book.go:53",#[],none⟩,
 ⟨some 27,.load 62 (.tmp 4),62, "book.go:53",#[],none⟩,
 ⟨some 28,.buildSlice 60 3 #[(0,.tmp 25),(1,.tmp 26),(2,.tmp 27)],60, "book.go:53",#[⟨11,.data⟩,⟨12,.data⟩,⟨13,.data⟩],none⟩,
 ⟨some 29,.call {callee:=.builtin .append,args:=#[.tmp 24,.tmp 28],argTypes:=#[60,60]},60, "book.go:53",#[⟨10,.data⟩,⟨14,.data⟩,⟨9,.chain⟩],none⟩,
 ⟨some 30,.buildSlice 58 4 #[(0,.tmp 14),(1,.tmp 18),(2,.tmp 23),(3,.tmp 29)],58, "book.go:53",#[⟨0,.data⟩,⟨4,.data⟩,⟨9,.data⟩,⟨15,.data⟩],none⟩,
 ⟨some 5,.assign (.tmp 30),58, "book.go:53",#[⟨16,.data⟩,⟨15,.chain⟩,⟨0,.phase⟩,⟨1,.phase⟩,⟨2,.phase⟩,⟨3,.phase⟩,⟨4,.phase⟩,⟨5,.phase⟩,⟨6,.phase⟩,⟨7,.phase⟩,⟨8,.phase⟩,⟨9,.phase⟩,⟨10,.phase⟩,⟨11,.phase⟩,⟨12,.phase⟩,⟨13,.phase⟩,⟨14,.phase⟩,⟨15,.phase⟩,⟨16,.phase⟩],none⟩]
theorem Zhg (i:Nat):∀u∈(XW i).toList,u.oneCell'=true:=by
 intro u hu;simp[XW]at hu;rcases hu with rfl|rfl<;>rfl
theorem ZaG (i k:Nat):∀u∈ZbK i k,u.oneCell'=true:=by
 induction k with
 |zero=>intro u hu;cases hu
 |succ k ih=>
  intro u hu;rw[ZbK,List.mem_append]at hu;exact hu.elim (Zhg i u) (ih u)
theorem Yr {i on:Nat}{listed:Array Bool}(hj:i∈Region.ready .any Vu listed)(h:(Vu[i]?.map fun o=>o.after.any fun e=>e.on==on&&Region.binds .any e)=some true):listed.getD on false=true:=by
 obtain⟨_,o,ho,hdep⟩:=mem_ready.1 hj;rw[ho]at h;have h':(o.after.any fun e=>e.on==on&&Region.binds .any e)=true:=by simpa using h
 obtain⟨k,hk,he⟩:=Array.any_eq_true.mp h';simp at he;have:=hdep _ (Array.getElem_mem hk) he.2
 rwa [he.1]at this
theorem ZcG {w0 w:World}{lo:Option Addr}{m lc i zb:Nat}{xs:List Value}{a0 a:Act}{listed:Array Bool}{Q:Exit→Act→World→Prop}(hlt:∀k,(Value.slice lo m lc).ownBlock=some k→k<w0.heap.size)(hz:(Value.slice lo m lc).ownBlock≠some zb)(hm:m≤1000000)
 (h1:a0.tmps.getD 1 undef=.slice lo m lc) (h4:a0.tmps.getD 4 undef=.pointer (some ⟨zb,0,none⟩)) (j:Nat)
 (hJ:RJ 18 63 Yk (fun k=>a0.tmps.getD k undef) (SEM w0 lo m lc i zb xs) (VEM w0 lo m lc i) listed a w) (hj:j∈Region.ready .any Vu listed):
 wpOp Tryz.prog Vu Q j (RJ 18 63 Yk (fun k=>a0.tmps.getD k undef) (SEM w0 lo m lc i zb xs) (VEM w0 lo m lc i) (listed.setIfInBounds j true)) a w:=by
 have l1:a.tmps.getD 1 undef=.slice lo m lc:=(hJ.old 1 (by intro q _;unfold Yk;split<;>omega)).trans h1;have l4:a.tmps.getD 4 undef=.pointer (some ⟨zb,0,none⟩):=(hJ.old 4 (by intro q _;unfold Yk;split<;>omega)).trans h4;obtain⟨_,o,ho,_⟩:=mem_ready.1 hj;have hlj:j<18:=(Array.getElem?_eq_some_iff.mp ho).1;clear ho;rcases lt18 hlj with rfl|rfl|rfl|rfl|rfl|rfl|rfl|rfl|rfl|rfl|rfl|rfl|rfl|rfl|rfl|rfl|rfl|rfl
 · refine ZA rfl rfl (Vm ?_);rw[l1];exact hJ.step 0 (by omega) _ (by simp[Yk]) (inj 0 (by omega)) (fun _ _ h=>h) hJ.s rfl
 · refine ZA rfl rfl (Vm ?_);rw[l1];exact hJ.step 1 (by omega) _ (by simp[Yk]) (inj 1 (by omega)) (fun _ _ h=>h) hJ.s rfl
 · refine ZA rfl rfl (VI l4 hJ.s.z ?_);exact hJ.step 2 (by omega) _ (by simp[Yk]) (inj 2 (by omega)) (fun _ _ h=>h) hJ.s rfl
 · have d0:=Yr (on:=2) hj (by kernel_rfl);have v0:VEM w0 lo m lc i 2 w (a.tmps.getD 16 undef):=hJ.val 2 (by omega) d0;refine ZA rfl rfl (ZjS (toQ v0) ?_);exact hJ.step 3 (by omega) _ (by simp[Yk]) (inj 3 (by omega)) (VEM.mono hlt (Za.alloc _ _ _)) (hJ.s.alloc _) ⟨_,rfl,hJ.s.kept.size,Blk.new _ _ _⟩
 · have d0:=Yr (on:=1) hj (by kernel_rfl);have v0:VEM w0 lo m lc i 1 w (a.tmps.getD 15 undef):=hJ.val 1 (by omega) d0;have d1:=Yr (on:=3) hj (by kernel_rfl);have v1:VEM w0 lo m lc i 3 w (a.tmps.getD 17 undef):=hJ.val 3 (by omega) d1;obtain⟨gb,e1,_,hb⟩:=v1;refine ZA rfl rfl (ZaA (m:=1) (by omega) v0 e1 hJ.s.row hb rfl (ZaG i 1) hm (by omega) fun v' w' h1 h2=> ?_);obtain⟨s1,s2,s3⟩:=hJ.s.app hz h1 h2;exact hJ.step 4 (by omega) v' (by simp[Yk]) (inj 4 (by omega)) (VEM.mono hlt s2) s1 s3
 · refine ZA rfl rfl (Vm ?_);rw[l1];exact hJ.step 5 (by omega) _ (by simp[Yk]) (inj 5 (by omega)) (fun _ _ h=>h) hJ.s rfl
 · refine ZA rfl rfl (VI l4 hJ.s.z ?_);exact hJ.step 6 (by omega) _ (by simp[Yk]) (inj 6 (by omega)) (fun _ _ h=>h) hJ.s rfl
 · refine ZA rfl rfl (VI l4 hJ.s.z ?_);exact hJ.step 7 (by omega) _ (by simp[Yk]) (inj 7 (by omega)) (fun _ _ h=>h) hJ.s rfl
 · have d0:=Yr (on:=6) hj (by kernel_rfl);have v0:VEM w0 lo m lc i 6 w (a.tmps.getD 20 undef):=hJ.val 6 (by omega) d0;have d1:=Yr (on:=7) hj (by kernel_rfl);have v1:VEM w0 lo m lc i 7 w (a.tmps.getD 21 undef):=hJ.val 7 (by omega) d1;refine ZA rfl rfl (ZjI (toQ v0) (toQ v1) ?_);exact hJ.step 8 (by omega) _ (by simp[Yk]) (inj 8 (by omega)) (VEM.mono hlt (Za.alloc _ _ _)) (hJ.s.alloc _) ⟨_,rfl,hJ.s.kept.size,Blk.new _ _ _⟩
 · have d0:=Yr (on:=5) hj (by kernel_rfl);have v0:VEM w0 lo m lc i 5 w (a.tmps.getD 19 undef):=hJ.val 5 (by omega) d0;have d1:=Yr (on:=8) hj (by kernel_rfl);have v1:VEM w0 lo m lc i 8 w (a.tmps.getD 22 undef):=hJ.val 8 (by omega) d1;obtain⟨gb,e1,_,hb⟩:=v1;refine ZA rfl rfl (ZaA (m:=2) (by omega) v0 e1 hJ.s.row hb rfl (ZaG i 2) hm (by omega) fun v' w' h1 h2=> ?_);obtain⟨s1,s2,s3⟩:=hJ.s.app hz h1 h2;exact hJ.step 9 (by omega) v' (by simp[Yk]) (inj 9 (by omega)) (VEM.mono hlt s2) s1 s3
 · refine ZA rfl rfl (Vm ?_);rw[l1];exact hJ.step 10 (by omega) _ (by simp[Yk]) (inj 10 (by omega)) (fun _ _ h=>h) hJ.s rfl
 · refine ZA rfl rfl (VI l4 hJ.s.z ?_);exact hJ.step 11 (by omega) _ (by simp[Yk]) (inj 11 (by omega)) (fun _ _ h=>h) hJ.s rfl
 · refine ZA rfl rfl (VI l4 hJ.s.z ?_);exact hJ.step 12 (by omega) _ (by simp[Yk]) (inj 12 (by omega)) (fun _ _ h=>h) hJ.s rfl
 · refine ZA rfl rfl (VI l4 hJ.s.z ?_);exact hJ.step 13 (by omega) _ (by simp[Yk]) (inj 13 (by omega)) (fun _ _ h=>h) hJ.s rfl
 · have d0:=Yr (on:=11) hj (by kernel_rfl);have v0:VEM w0 lo m lc i 11 w (a.tmps.getD 25 undef):=hJ.val 11 (by omega) d0;have d1:=Yr (on:=12) hj (by kernel_rfl);have v1:VEM w0 lo m lc i 12 w (a.tmps.getD 26 undef):=hJ.val 12 (by omega) d1;have d2:=Yr (on:=13) hj (by kernel_rfl);have v2:VEM w0 lo m lc i 13 w (a.tmps.getD 27 undef):=hJ.val 13 (by omega) d2;refine ZA rfl rfl (ZjX (toQ v0) (toQ v1) (toQ v2) ?_);exact hJ.step 14 (by omega) _ (by simp[Yk]) (inj 14 (by omega)) (VEM.mono hlt (Za.alloc _ _ _)) (hJ.s.alloc _) ⟨_,rfl,hJ.s.kept.size,Blk.new _ _ _⟩
 · have d0:=Yr (on:=10) hj (by kernel_rfl);have v0:VEM w0 lo m lc i 10 w (a.tmps.getD 24 undef):=hJ.val 10 (by omega) d0;have d1:=Yr (on:=14) hj (by kernel_rfl);have v1:VEM w0 lo m lc i 14 w (a.tmps.getD 28 undef):=hJ.val 14 (by omega) d1;obtain⟨gb,e1,_,hb⟩:=v1;refine ZA rfl rfl (ZaA (m:=3) (by omega) v0 e1 hJ.s.row hb rfl (ZaG i 3) hm (by omega) fun v' w' h1 h2=> ?_);obtain⟨s1,s2,s3⟩:=hJ.s.app hz h1 h2;exact hJ.step 15 (by omega) v' (by simp[Yk]) (inj 15 (by omega)) (VEM.mono hlt s2) s1 s3
 · have d0:=Yr (on:=0) hj (by kernel_rfl);have v0:VEM w0 lo m lc i 0 w (a.tmps.getD 14 undef):=hJ.val 0 (by omega) d0;have d1:=Yr (on:=4) hj (by kernel_rfl);have v1:VEM w0 lo m lc i 4 w (a.tmps.getD 18 undef):=hJ.val 4 (by omega) d1;have d2:=Yr (on:=9) hj (by kernel_rfl);have v2:VEM w0 lo m lc i 9 w (a.tmps.getD 23 undef):=hJ.val 9 (by omega) d2;have d3:=Yr (on:=15) hj (by kernel_rfl);have v3:VEM w0 lo m lc i 15 w (a.tmps.getD 29 undef):=hJ.val 15 (by omega) d3;obtain⟨g1,c1,e1,r1⟩:=v1;obtain⟨g2,c2,e2,r2⟩:=v2;obtain⟨g3,c3,e3,r3⟩:=v3;refine ZA rfl rfl (Zkh (toQ v0) (toQ e1) (toQ e2) (toQ e3) ?_);have mn:=VEM.mono (i:=i) hlt (Za.alloc w (.cells #[.slice lo m lc,.slice (some ⟨g1,0,none⟩) (m+1) c1,.slice (some ⟨g2,0,none⟩) (m+2) c2,.slice (some ⟨g3,0,none⟩) (m+3) c3] 60) (fun k=>(Value.slice lo m lc).ownBlock=some k));exact hJ.step 16 (by omega) _ (by simp[Yk]) (inj 16 (by omega)) mn (hJ.s.alloc _) ⟨_,_,_,_,rfl,hJ.s.kept.size,Blk.new _ _ _,mn 4 _ ⟨g1,c1,rfl,r1⟩,mn 9 _ ⟨g2,c2,rfl,r2⟩,mn 15 _ ⟨g3,c3,rfl,r3⟩⟩
 · have d0:=Yr (on:=16) hj (by kernel_rfl);have v0:VEM w0 lo m lc i 16 w (a.tmps.getD 30 undef):=hJ.val 16 (by omega) d0;refine ZA rfl rfl (Zda ?_);exact hJ.step 17 (by omega) _ (by simp[Yk]) (inj 17 (by omega)) (fun _ _ h=>h) hJ.s v0
theorem Ziw :∀(i:Nat)(o:Oper),Vu[i]?=some o→∀e∈o.after,e.on<i:=by
 have key:((List.range 18).all fun i=>((Vu[i]?.map fun o=>o.after.all fun e=>decide (e.on<i)).getD true))=true:=by kernel_rfl
 intro i o ho e he;have hi:i<18:=(Array.getElem?_eq_some_iff.mp ho).1;have h1:=List.all_eq_true.mp key i (List.mem_range.mpr hi);rw[ho]at h1;have h2:(o.after.all fun e=>decide (e.on<i))=true:=by simpa using h1
 obtain⟨k,hk,rfl⟩:=Array.getElem_of_mem he;have:=Array.all_eq_true.mp h2 k hk;simpa using this
theorem ZbG {w0 w:World}{lo:Option Addr}{m lc i zb:Nat}{xs:List Value}{a0:Act}{Q:Exit→Act→World→Prop}(hlt:∀k,(Value.slice lo m lc).ownBlock=some k→k<w0.heap.size)(hz:(Value.slice lo m lc).ownBlock≠some zb)(hm:m≤1000000)
 (h0:a0.tmps.size=63) (hd:a0.defers=[]) (h1:a0.tmps.getD 1 undef=.slice lo m lc) (h4:a0.tmps.getD 4 undef=.pointer (some ⟨zb,0,none⟩)) (hS:SEM w0 lo m lc i zb xs w)
 (hQ:∀(a:Act)(w':World),a.tmps.size=63→a.defers=[]→(∀k,(k<14∧k≠5)∨30<k→a.tmps.getD k undef=a0.tmps.getD k undef)→SEM w0 lo m lc i zb xs w'→ZfX w0 lo m lc w' (a.tmps.getD 5 undef)→Q .normal a w'):
 wpAny Tryz.prog .any Vu Q Vu.size (Array.replicate Vu.size false) a0 w:=by
 refine Za7 (ops:=Vu) (RJ 18 63 Yk (fun k=>a0.tmps.getD k undef) (SEM w0 lo m lc i zb xs) (VEM w0 lo m lc i)) (fun _ _ _ h=>h.size.trans rfl) (fun listed a w j hJ hj=>ZcG hlt hz hm h1 h4 j hJ hj) (fun listed a w hJ hr=> ?_) _ _ _ _ ?_ ?_
 · have all:=Zck (ops:=Vu) (by rw[hJ.size];rfl) Ziw hr;refine hQ a w hJ.tsz hJ.dfr (fun k hk=>hJ.old k fun q hq=> ?_) hJ.s (hJ.val 17 (by omega) (all 17 (by decide)));unfold Yk
   split<;>omega
 · refine⟨by simp[Vu],h0,hd,fun k _=>rfl,hS,fun j hj hl=> ?_⟩;exfalso;have:Vu.size=18:=rfl;rw[this]at hl;simp[Array.getD,hj]at hl
 · have:Vu.size=18:=rfl;rw[this];simp
def MkM (i:Nat)(W:World)(g j:Nat):Prop:=∃c,Blk W g 62 c∧∀f,f<2→c[j*2+f]?=(XW i)[f]?
structure Zfm (W:World)(zb m:Nat)(ad:Nat→Option Addr)(Own:Nat→Prop):Prop where
 room:∀k,k<4→0<m+k→∃g,ad k=some ⟨g,0,none⟩∧Own g∧g≠zb∧∃c,Blk W g 62 c∧(m+k)*2≤c.size
def Zgs (W:World)(g o:Nat)(z0 z1:Value):World:=(W.setCell ⟨g,o,none⟩ z0).setCell ⟨g,o+1,none⟩ z1
theorem Zaf (W:World)(g o:Nat)(z0 z1:Value):Za (fun k=>k=g) W (Zgs W g o z0 z1):=by
 have st:∀(a:World)(f:Nat)(v:Value),Za (fun k=>k=g) W a→Za (fun k=>k=g) W (a.setCell ⟨g,f,none⟩ v):=fun a f v ha=>ha.trans (Za.setCell a _ v) (fun _=>id) (fun _ _ hk=>hk);exact st _ _ _ (st _ _ _ (Za.refl _ _))
theorem Zi3 {W:World}{g:Nat}{T:TypeId}{c:Array Value}(h:Blk W g T c)(o:Nat)(z0 z1:Value):Blk (Zgs W g o z0 z1) g T ((c.setIfInBounds o z0).setIfInBounds (o+1) z1):=
 (h.set o z0).set (o+1) z1
theorem ZgW (c:Array Value)(i:Nat)(h:(i+1)*2≤c.size)(z0 z1:Value)(j f:Nat)(hf:f<2):
 ((c.setIfInBounds (i*2) z0).setIfInBounds (i*2+1) z1)[j*2+f]?=if j=i then(#[z0,z1]:Array Value)[f]? else c[j*2+f]? :=by
 by_cases e:j=i
 · subst e;have hc:f=0∨f=1:=by omega
   rw[if_pos rfl];rcases hc with rfl|rfl<;>simp[Array.getElem?_setIfInBounds]<;>omega
 · rw[if_neg e];rw[Array.getElem?_setIfInBounds_ne (by omega),Array.getElem?_setIfInBounds_ne (by omega)]
theorem Zha {i:Nat}{W:World}{g j:Nat}{c:Array Value}(hb:Blk W g 62 c)(hs:(j+1)*2≤c.size)(W':World)(hW:W'=Zgs W g (j*2) (.int .u8 ((i%256:Nat):Int)) (.int .u8 ((i/256%256:Nat):Int))):
 Za (fun k=>k=g) W W'∧MkM i W' g j∧(∀g' j',MkM i W g' j'→MkM i W' g' j')∧∃c',Blk W' g 62 c'∧c'.size=c.size:=by
 subst hW;have k:=Zaf W g (j*2) (.int .u8 ((i%256:Nat):Int)) (.int .u8 ((i/256%256:Nat):Int));have b:=Zi3 hb (j*2) (.int .u8 ((i%256:Nat):Int)) (.int .u8 ((i/256%256:Nat):Int));refine⟨k,⟨_,b,fun f hf=>by rw[ZgW c j hs _ _ j f hf,if_pos rfl];rfl⟩,?_,_,b,by simp⟩;rintro g' j' ⟨c',hb',hc'⟩;by_cases e:g'=g
 · subst e;obtain⟨_,rfl⟩:=hb.type hb';refine⟨_,b,fun f hf=> ?_⟩;rw[ZgW c j hs _ _ j' f hf]
   split
   · rfl
   · exact hc' f hf
 · exact⟨c',hb'.kept k e,hc'⟩
theorem MkM.same {i:Nat}{W W':World}{g j:Nat}(h:MkM i W g j)(hs:W'.heap[g]?=W.heap[g]?):MkM i W' g j:=by
 obtain⟨c,hb,hc⟩:=h;exact⟨c,hb.same hs,hc⟩
theorem Zfm.keep {W W':World}{zb m:Nat}{ad:Nat→Option Addr}{Own:Nat→Prop}(h:Zfm W zb m ad Own)(hk:∀g c,Blk W g 62 c→∃c',Blk W' g 62 c'∧c.size≤c'.size):Zfm W' zb m ad Own:=by
 refine⟨fun k hk4 h0=> ?_⟩;obtain⟨g,h1,h2,h3,c,hb,hc⟩:=h.room k hk4 h0;obtain⟨c',hb',hc'⟩:=hk g c hb;exact⟨g,h1,h2,h3,c',hb',by omega⟩
theorem Tryz.infoLetters :(Tryz.prog.info? 58).map (fun i=>(i.zero,i.size,i.bytes))=some (some (.slice none 0 0),1,24):=by kernel_rfl
theorem ZiR {w0 w:World}{lo:Option Addr}{m lc i zb:Nat}{xs:List Value}{x:Value}(hS:SEM w0 lo m lc i zb xs w)(hN:ZfX w0 lo m lc w x)(hz:(Value.slice lo m lc).ownBlock≠some zb)(hzb:zb<w0.heap.size):
 ∃(N:Nat)(ad:Nat→Option Addr)(cp:Nat→Nat),x=.slice (some ⟨N,0,none⟩) 4 4∧w0.heap.size≤N∧Blk w N 60 (Vs m ad cp)∧Zfm w zb m ad (V7 (.slice lo m lc) w0.heap.size)∧ad 0=lo:=by
 obtain⟨N,a1,a2,a3,e,hNs,hb,⟨g1,c1,e1,r1⟩,⟨g2,c2,e2,r2⟩,⟨g3,c3,e3,r3⟩⟩:=hN;subst e1 e2 e3;refine⟨N,fun k=>if k=0 then lo else if k=1 then some ⟨g1,0,none⟩else if k=2 then some ⟨g2,0,none⟩else some ⟨g3,0,none⟩,fun k=>if k=0 then lc else if k=1 then c1 else if k=2 then c2 else c3,e,hNs,hb,⟨fun k hk h0=> ?_⟩,rfl⟩;have lrow:∀g q,lo=some ⟨g,0,none⟩→q≤lc→V7 (.slice lo m lc) w0.heap.size g∧g≠zb∧∃c,Blk w g 62 c∧q*2≤c.size:=by
  intro g q hg hq;subst hg;refine⟨.inl rfl,fun e=>hz (by rw[←e];rfl),?_⟩;rcases hS.row.shape with⟨e,_⟩|⟨g',cap,cur,e,hb',_,_,hs,_⟩
  · cases e
  · injection e with q1 _ q2;injection q1 with q1;injection q1 with q1 _ _;subst q1 q2;exact⟨cur,hb',by rw[hs];exact Nat.mul_le_mul_right _ hq⟩
 have use:∀q g,((lo=some ⟨g,0,none⟩∧m+q≤lc)∨(w0.heap.size≤g∧∃c,Blk w g 62 c∧(m+q)*2≤c.size))→V7 (.slice lo m lc) w0.heap.size g∧g≠zb∧∃c,Blk w g 62 c∧(m+q)*2≤c.size:=by
  rintro q g (⟨h1,h2⟩|⟨h1,h2⟩)
  · exact lrow g (m+q) h1 h2
  · exact⟨.inr h1,by omega,h2⟩
 have hk4:k=0∨k=1∨k=2∨k=3:=by omega
 rcases hk4 with rfl|rfl|rfl|rfl
 · obtain⟨g,cap,hv,_,_⟩:=hS.row.block (by omega);injection hv with q1 _ q2;have hml:m≤lc:=by
    rcases hS.row.shape with⟨_,h,_⟩|⟨_,cap',_,e',_,hc,_⟩
    · omega
    · injection e' with _ _ q3;omega
   exact⟨g,q1,lrow g (m+0) q1 hml⟩
 · exact⟨g1,rfl,use 1 g1 r1⟩
 · exact⟨g2,rfl,use 2 g2 r2⟩
 · exact⟨g3,rfl,use 3 g3 r3⟩
structure VD (B:Nat)(w0 wr:World)(lV:Value)(N zb m bn:Nat)(ad:Nat→Option Addr)(cp:Nat→Nat)(q j:Nat):Prop where
 kept:Za (ZeA ad m) w0 wr
 four:Zfm wr zb m ad (V7 lV B)
 own:∀b,ZeA ad m b→V7 lV B b∧b≠zb∧b≠N
 nb:Blk wr N 60 (Vs m ad cp)
 z:Blk wr zb 62 (XW bn)
 done:∀k,k<4→∀t,t<m+k→(k<q∨(k=q∧t<j))→∃g,ad k=some ⟨g,0,none⟩∧MkM bn wr g t
theorem VD.next {B:Nat}{w0 wr W':World}{lV:Value}{N zb m bn:Nat}{ad:Nat→Option Addr}{cp:Nat→Nat}{q j g:Nat}{c:Array Value}(h:VD B w0 wr lV N zb m bn ad cp q j)(hq:q<4)(hj:j<m+q)(hg:ad q=some ⟨g,0,none⟩)(hb:Blk wr g 62 c)(hs:(m+q)*2≤c.size)
 (hW:W'.heap=(Zgs wr g (j*2) (.int .u8 ((bn%256:Nat):Int)) (.int .u8 ((bn/256%256:Nat):Int))).heap) (h1:W'.os=wr.os) (h2:W'.tape=wr.tape) (h3:W'.output=wr.output):VD B w0 W' lV N zb m bn ad cp q (j+1):=by
 have hs':(j+1)*2≤c.size:=Nat.le_trans (Nat.mul_le_mul_right 2 hj) hs;obtain⟨k0,m1,m2,c',b',e'⟩:=Zha (i:=bn) hb hs' _ rfl;have kk:Za (fun k=>k=g) wr W':=⟨h1,h2,h3,by rw[hW];exact k0.size,fun i hi hn=>by rw[hW];exact k0.block i hi hn⟩;have ho:ZeA ad m g:=⟨q,hq,by omega,hg⟩;obtain⟨_,o2,o3⟩:=h.own g ho;refine⟨h.kept.trans kk (fun _=>id) (fun b _ e=>e▸ho),h.four.keep fun g' d hd=> ?_,h.own,h.nb.kept kk fun e=>o3 e.symm,h.z.kept kk fun e=>o2 e.symm,fun k hk t ht hd=> ?_⟩
 · by_cases e:g'=g
   · subst e;obtain⟨_,rfl⟩:=hb.type hd;exact⟨c',b'.same (by rw[hW]),by omega⟩
   · exact⟨d,hd.kept kk e,Nat.le_refl _⟩
 · by_cases e:k=q∧t=j
   · obtain⟨rfl,rfl⟩:=e;exact⟨g,hg,m1.same (by rw[hW])⟩
   · obtain⟨g',e1,e2⟩:=h.done k hk t ht (by omega);exact⟨g',e1,(m2 g' t e2).same (by rw[hW])⟩
theorem VD.step {B:Nat}{w0 wr:World}{lV:Value}{N zb m bn:Nat}{ad:Nat→Option Addr}{cp:Nat→Nat}{q j g:Nat}{c:Array Value}(h:VD B w0 wr lV N zb m bn ad cp q j)(hq:q<4)(hj:j<m+q)(hg:ad q=some ⟨g,0,none⟩)(hb:Blk wr g 62 c)(hs:(m+q)*2≤c.size):
 VD B w0 (Zgs wr g (j*2) (.int .u8 ((bn%256:Nat):Int)) (.int .u8 ((bn/256%256:Nat):Int))).drew lV N zb m bn ad cp q (j+1):=
 h.next (W':=(Zgs wr g (j*2) (.int .u8 ((bn%256:Nat):Int)) (.int .u8 ((bn/256%256:Nat):Int))).drew) hq hj hg hb hs (Zdn _) ((ZgF _).trans (Zaf ..).os) ((Zdm _).trans (Zaf ..).tape) ((Ze1 _).trans (Zaf ..).output)
theorem VD.turn {B:Nat}{w0 wr:World}{lV:Value}{N zb m bn:Nat}{ad:Nat→Option Addr}{cp:Nat→Nat}{q:Nat}(h:VD B w0 wr lV N zb m bn ad cp q (m+q)):VD B w0 wr lV N zb m bn ad cp (q+1) 0:=by
 refine⟨h.kept,h.four,h.own,h.nb,h.z,fun k hk t ht hd=>h.done k hk t ht ?_⟩;rcases hd with hd|hd
 · by_cases e:k=q
   · subst e;exact .inr ⟨rfl,ht⟩
   · exact .inl (by omega)
 · omega
theorem ZhW (w:World)(pb:Nat)(vps b0 bv b2:Value)(commits most:Int)(bn:Nat)(vals:List Value)(lo:Option Addr)(m lc:Nat)(xs:List Value)(hblk:Blk w pb 34 (ZM vps b0 bv b2 commits most))(hbv:Row w 58 1 bv bn vals)(hbn:(bn+1)*24≤140737488355328)(hl:Row w 62 2 (.slice lo m lc) m xs)(hm:m≤1000000):
 Calls Tryz.prog 56 #[.pointer (some ⟨pb,1,none⟩),.slice lo m lc] w fun e w'=>e=.returned (.tuple #[])∧∃v,YM shM (fun v=>ZM vps b0 v b2 commits most) w pb bv bn vals (.slice lo m lc) m v w':=by
 obtain⟨A,hA⟩:∃A:Int,A=((bn%256:Nat):Int):=⟨_,rfl⟩;obtain⟨B,hB⟩:∃B:Int,B=((bn/256%256:Nat):Int):=⟨_,rfl⟩;have HAB:Hid (A=((bn%256:Nat):Int)∧B=((bn/256%256:Nat):Int)):=⟨hA,hB⟩;clear hA hB;obtain⟨ba,bc,hbf,_⟩:=hbv.form;subst hbf;have hb:w.cell? ⟨pb,2,none⟩=some (.slice ba bn bc):=hblk.cell 2;have HB:=hid hblk;have HBV:=hid hbv;have HNB:Hid (∀k,(Value.slice lo m lc).ownBlock=some k→k≠pb∧(Value.slice ba bn bc).ownBlock≠some k):=fun k hk=>⟨fun e=>hl.ne_block hblk (by decide) (by rw[←e];exact hk),fun e=>hl.ne_row hbv (by decide) k hk e⟩;have hpl:=hblk.lt;clear hblk hbv;have H0:Hid (∀W,Calls Tryz.prog 21 #[.int .i64 (bn:Int)] W fun e w'=>e=.returned (.agg #[.int .u8 A,.int .u8 B])∧Za (fun _=>False) W w'):=fun W=>by rw[HAB.out.1,HAB.out.2];exact ZaQ W bn (by omega)
 have HL:=hid hl;clear hl;go_enter Tryz.func56,Tryz.ntmps56
 go_wp2_with (go_at_call 21;refine(H0.out _).mono ?_;rintro e w1 ⟨rfl,hk1⟩)
 obtain⟨W,hW⟩:∃W,W=w1.alloc (.cells #[.int .u8 A,.int .u8 B] 62):=⟨_,rfl⟩;have kW:Za (fun _=>False) w W:=by rw[hW];exact hk1.allocNew _
 have zW:Blk W w1.heap.size 62 (XW bn):=by rw[hW,show XW bn=#[.int .u8 A,.int .u8 B] by rw[HAB.out.1,HAB.out.2];rfl];exact Blk.new _ _ _
 have hzb:w1.heap.size<W.heap.size:=by rw[hW];simp
 have hws:=hk1.size;rw[←hW];have HKW:=hid kW;have HZW:=hid zW;have hlt:∀k,(Value.slice lo m lc).ownBlock=some k→k<w.heap.size:=HL.out.lt;have HLT:=hid hlt;clear hW kW zW hk1 hlt;generalize w1.heap.size=zb at*
 have HSE:Hid (SEM W lo m lc bn zb xs W):=⟨Za.refl _ _,HL.out.kept HKW.out (fun _ _=>id),HZW.out⟩;have HNZ:Hid ((Value.slice lo m lc).ownBlock≠some zb):=fun e=>by have:=HLT.out _ e;omega
 go_cut [5] (fun v wx=>Hid (SEM W lo m lc bn zb xs wx∧ZfX W lo m lc wx v))
 case first=>
  refine wp_region_any (by kernel_rfl) ?_;refine ZbG (w0:=W) (lo:=lo) (m:=m) (lc:=lc) (i:=bn) (zb:=zb) (xs:=xs) (fun k hk=>Nat.lt_of_lt_of_le (HLT.out k hk) HKW.out.size) HNZ.out hm rfl rfl rfl rfl ⟨HSE.out.kept.drewN 1,HSE.out.row.same (fun _ _=>rfl),HSE.out.z.same rfl⟩ fun a w' s1 s2 s3 s4 s5=> ?_;obtain⟨tm,df⟩:=a
  try dsimp only at s1 s2 s3 s5
  subst s2;obtain⟨x0,x1,x2,x3,x4,x5,x6,x7,x8,x9,x10,x11,x12,x13,x14,x15,x16,x17,x18,x19,x20,x21,x22,x23,x24,x25,x26,x27,x28,x29,x30,x31,x32,x33,x34,x35,x36,x37,x38,x39,x40,x41,x42,x43,x44,x45,x46,x47,x48,x49,x50,x51,x52,x53,x54,x55,x56,x57,x58,x59,x60,x61,x62,hx⟩:=ZgA s1;subst hx;clear s1;have e0:x0=_:=s3 0 (by omega)
  try dsimp at e0
  subst e0;have e1:x1=_:=s3 1 (by omega)
  try dsimp at e1
  subst e1;have e2:x2=_:=s3 2 (by omega)
  try dsimp at e2
  subst e2;have e3:x3=_:=s3 3 (by omega)
  try dsimp at e3
  subst e3;have e4:x4=_:=s3 4 (by omega)
  try dsimp at e4
  subst e4;have e6:x6=_:=s3 6 (by omega)
  try dsimp at e6
  subst e6;have e7:x7=_:=s3 7 (by omega)
  try dsimp at e7
  subst e7;have e8:x8=_:=s3 8 (by omega)
  try dsimp at e8
  subst e8;have e9:x9=_:=s3 9 (by omega)
  try dsimp at e9
  subst e9;have e10:x10=_:=s3 10 (by omega)
  try dsimp at e10
  subst e10;have e11:x11=_:=s3 11 (by omega)
  try dsimp at e11
  subst e11;have e12:x12=_:=s3 12 (by omega)
  try dsimp at e12
  subst e12;have e13:x13=_:=s3 13 (by omega)
  try dsimp at e13
  subst e13;have e31:x31=_:=s3 31 (by omega)
  try dsimp at e31
  subst e31;have e32:x32=_:=s3 32 (by omega)
  try dsimp at e32
  subst e32;have e33:x33=_:=s3 33 (by omega)
  try dsimp at e33
  subst e33;have e34:x34=_:=s3 34 (by omega)
  try dsimp at e34
  subst e34;have e35:x35=_:=s3 35 (by omega)
  try dsimp at e35
  subst e35;have e36:x36=_:=s3 36 (by omega)
  try dsimp at e36
  subst e36;have e37:x37=_:=s3 37 (by omega)
  try dsimp at e37
  subst e37;have e38:x38=_:=s3 38 (by omega)
  try dsimp at e38
  subst e38;have e39:x39=_:=s3 39 (by omega)
  try dsimp at e39
  subst e39;have e40:x40=_:=s3 40 (by omega)
  try dsimp at e40
  subst e40;have e41:x41=_:=s3 41 (by omega)
  try dsimp at e41
  subst e41;have e42:x42=_:=s3 42 (by omega)
  try dsimp at e42
  subst e42;have e43:x43=_:=s3 43 (by omega)
  try dsimp at e43
  subst e43;have e44:x44=_:=s3 44 (by omega)
  try dsimp at e44
  subst e44;have e45:x45=_:=s3 45 (by omega)
  try dsimp at e45
  subst e45;have e46:x46=_:=s3 46 (by omega)
  try dsimp at e46
  subst e46;have e47:x47=_:=s3 47 (by omega)
  try dsimp at e47
  subst e47;have e48:x48=_:=s3 48 (by omega)
  try dsimp at e48
  subst e48;have e49:x49=_:=s3 49 (by omega)
  try dsimp at e49
  subst e49;have e50:x50=_:=s3 50 (by omega)
  try dsimp at e50
  subst e50;have e51:x51=_:=s3 51 (by omega)
  try dsimp at e51
  subst e51;have e52:x52=_:=s3 52 (by omega)
  try dsimp at e52
  subst e52;have e53:x53=_:=s3 53 (by omega)
  try dsimp at e53
  subst e53;have e54:x54=_:=s3 54 (by omega)
  try dsimp at e54
  subst e54;have e55:x55=_:=s3 55 (by omega)
  try dsimp at e55
  subst e55;have e56:x56=_:=s3 56 (by omega)
  try dsimp at e56
  subst e56;have e57:x57=_:=s3 57 (by omega)
  try dsimp at e57
  subst e57;have e58:x58=_:=s3 58 (by omega)
  try dsimp at e58
  subst e58;have e59:x59=_:=s3 59 (by omega)
  try dsimp at e59
  subst e59;have e60:x60=_:=s3 60 (by omega)
  try dsimp at e60
  subst e60;have e61:x61=_:=s3 61 (by omega)
  try dsimp at e61
  subst e61;have e62:x62=_:=s3 62 (by omega)
  try dsimp at e62
  subst e62;have HS5:Hid (SEM W lo m lc bn zb xs w'∧ZfX W lo m lc w' x5):=⟨s4,s5⟩;clear s3 s4 s5;go_wp2
  go_meet
  case rel=>exact HS5
 case rest=>
  obtain⟨hS,hN⟩:=hcut.out;obtain⟨N,ad,cp,e5,hNs,hNb,hF,_⟩:=ZiR hS hN HNZ.out hzb;subst e5;have hown:∀b,ZeA ad m b→V7 (.slice lo m lc) W.heap.size b∧b≠zb∧b≠N:=by
   rintro b ⟨k,hk,h0,e⟩;obtain⟨g,h1,h2,h3,c,h4,_⟩:=hF.room k hk h0;rw[e]at h1;injection h1 with h1;injection h1 with h1 _ _;subst h1;refine⟨h2,h3,fun e=> ?_⟩;subst e;exact absurd (h4.type hNb).1 (by decide)
  have HOV:Hid (VD W.heap.size wc wc (.slice lo m lc) N zb m bn ad cp 0 0):=⟨Za.refl _ _,hF,hown,hNb,hS.z,fun k _ t _ hd=>by omega⟩;have HSC:=hid hS;clear hS hN hNb hF hown hcut;go_wp2
  go_loopw [6] (fun k wr=>∃q:Nat,q≤4∧k=.int .i64 q∧Hid (VD W.heap.size wc wr (.slice lo m lc) N zb m bn ad cp q 0)) (fun k _=>4-(intOf k).toNat)
  case atStart=>exact⟨0,by omega,rfl,HOV⟩
  case round=>
   obtain⟨q,hq,rfl,HO⟩:=hrel;by_cases hq4:q<4
   · have hq0:(0:Int)≤(q:Int):=by omega
     have hq1:(q:Int)<4:=by omega
     go_wp2
     go_loopw [7] (fun j wy=>∃t:Nat,t≤m+q∧j=.int .i64 t∧Hid (VD W.heap.size wc wy (.slice lo m lc) N zb m bn ad cp q t)) (fun j _=>m+q-(intOf j).toNat)
     case atStart=>exact⟨0,Nat.zero_le _,rfl,HO⟩
     case round=>
      obtain⟨t,ht,rfl,HO2⟩:=hrel;have nq:wr.cell? ⟨N,q,none⟩=some (.slice (ad q) (m+q) (cp q)):=by rw[HO2.out.nb.cell];exact Zag m ad cp q hq4
      by_cases htm:t<m+q
      · obtain⟨g,hg,_,hgz,c,hbc,hcs⟩:=HO2.out.four.room q hq4 (by omega);have hcs':(t+1)*2≤c.size:=Nat.le_trans (Nat.mul_le_mul_right 2 htm) hcs;have c0:wr.cell? ⟨g,t*2,none⟩=some c[t*2]:=by rw[hbc.cell];exact Array.getElem?_eq_getElem (by omega)
        have c1:wr.cell? ⟨g,t*2+1,none⟩=some c[t*2+1]:=by rw[hbc.cell];exact Array.getElem?_eq_getElem (by omega)
        generalize c[t*2]=y0 at c0;generalize c[t*2+1]=y1 at c1;have f0:=hbc.free (t*2);have f1:=hbc.free (t*2+1);have z0:wr.cell? ⟨zb,0,none⟩=some (.int .u8 A):=by rw[HAB.out.1];exact HO2.out.z.cell 0
        have z1:wr.cell? ⟨zb,1,none⟩=some (.int .u8 B):=by rw[HAB.out.2];exact HO2.out.z.cell 1
        have HNX:Hid (VD W.heap.size wc (Zgs wr g (t*2) (.int .u8 A) (.int .u8 B)).drew (.slice lo m lc) N zb m bn ad cp q (t+1)):=by rw[HAB.out.1,HAB.out.2];exact HO2.out.step hq4 htm hg hbc hcs
        rw[hg]at nq;have ht0:(0:Int)≤(t:Int):=by omega
        have ht1:(t:Int)<((m+q:Nat):Int):=by omega
        have hgN:g≠N:=(HO2.out.own g ⟨q,hq4,by omega,hg⟩).2.2;have hNg:N≠g:=Ne.symm hgN;have hzg:zb≠g:=Ne.symm hgz;clear hbc hcs hcs' hg
        go_wp2_with fail
        go_region_held3 (fun w'=>w'.cell? ⟨N,q,none⟩=some (.slice (some ⟨g,0,none⟩) (m+q) (cp q))∧w'.cell? ⟨zb,0,none⟩=some (.int .u8 A)∧w'.cell? ⟨zb,1,none⟩=some (.int .u8 B)) (go_keep) (fail)
        all_goals
         go_wp2
         go_roundw
         case rel=>exact⟨t+1,by omega,by go_num,HNX⟩
         case measure=>simp[intOf];omega
      · have htt:t=m+q:=by omega
        subst htt;go_wp2
        go_roundw
        case rel=>exact⟨q+1,by omega,by go_num,HO2.out.turn⟩
        case measure=>simp[intOf];omega
   · have hqq:q=4:=by omega
     subst hqq;have hkw:Za (fun k=>(Value.slice lo m lc).ownBlock=some k) w wr:=by
      have k1:Za (fun k=>(Value.slice lo m lc).ownBlock=some k) w wc:=HKW.out.trans HSC.out.kept (fun _=>False.elim) (fun _ _=>id);refine k1.trans HO.out.kept (fun _=>id) (fun k hk hf=> ?_);rcases(HO.out.own k hf).1 with h1|h1
      · exact h1
      · have:=HKW.out.size;omega
     have hBr:Blk wr pb 34 (ZM vps b0 (.slice ba bn bc) b2 commits most):=HB.out.kept hkw fun e=>(HNB.out _ e).1 rfl;have hVr:Row wr 58 1 (.slice ba bn bc) bn vals:=HBV.out.kept hkw fun j hj e=>(HNB.out _ e).2 hj;have HKR:=hid hkw;have HBR:=hid hBr;have HVR:=hid hVr;have cb:wr.cell? ⟨pb,2,none⟩=some (.slice ba bn bc):=hBr.cell 2;have hpr:=hBr.lt;obtain⟨i0,hi,hz0,hz1,hz2⟩:=info_parts Tryz.infoLetters;have HI:Hid (Tryz.prog.info? 58=some i0∧i0.zero=some (.slice none 0 0)∧i0.size=1∧i0.bytes=24):=⟨hi,hz0,hz1,hz2⟩;have HROW:Hid (∀o,Row (wr.alloc o) 58 1 (.slice ba bn bc) bn vals):=fun o=>hVr.kept (Za.alloc wr o (fun _=>False)) (fun _ _=>id);have HFIN:Hid (∀(o:Obj)(w3:World)(v:Value),Zc (wr.alloc o) w3 58 1 (.slice ba bn bc) v bn 1 vals [.slice (some ⟨N,0,none⟩) 4 4]→w3.cell? ⟨pb,2,none⟩=some (.slice ba bn bc)∧w3.frozen? ⟨pb,2,none⟩=false∧YM shM (fun v=>ZM vps b0 v b2 commits most) w pb (.slice ba bn bc) bn vals (.slice lo m lc) m v (w3.setCell ⟨pb,2,none⟩ v)):=by
      intro o w3 v hA;have hA:=hA.of_alloc;have b3:Blk w3 pb 34 (ZM vps b0 (.slice ba bn bc) b2 commits most):=hBr.kept hA.kept fun e=>hVr.ne_block hBr (by decide) e;have n3:Blk w3 N 60 (Vs m ad cp):=HO.out.nb.kept hA.kept fun e=>hVr.ne_block HO.out.nb (by decide) e;have kS:=Za.setCell w3 ⟨pb,2,none⟩ v;have hsz:=HKW.out.size;refine⟨b3.cell 2,b3.free 2,N,ad,cp,n3.kept kS (fun e=> ?_),by omega,fun k hk t ht=> ?_,hA.row.kept kS (fun j hj e=> ?_),b3.set 2 v,(hkw.trans hA.kept (H:=fun k=>k=pb∨(Value.slice ba bn bc).ownBlock=some k∨(Value.slice lo m lc).ownBlock=some k) (fun _ h=>.inr (.inr h)) (fun _ _ h=>.inr (.inl h))).trans kS (fun _=>id) (fun _ _ h=>.inl h),fun k hk=> ?_⟩
      · simp at e;subst e;omega
      · obtain⟨g,e1,c,hbg,hcg⟩:=HO.out.done k hk t ht (.inl hk);obtain⟨o1,_,_⟩:=HO.out.own g ⟨k,hk,by omega,e1⟩;refine⟨g,e1,o1.imp id (fun h=>by omega),c,(hbg.kept hA.kept fun e=>hVr.ne_block hbg (by decide) e).kept kS (fun e=> ?_),hcg⟩;simp at e;subst e;exact absurd (hBr.type hbg).1 (by decide)
      · simp at e;subst e;exact Row.ne_block hA.row b3 (by decide) hj
      · rcases hA.own with h1|h1
        · left;rw[←h1];exact hk
        · right;have:=h1 k hk;have:=hkw.size;omega
     have bb1:bn+1≤maxLen:=by unfold maxLen;omega
     clear hi hz0 hz1 hz2 hkw hBr hVr
     go_wp2_with (at_builtin;go_must (refine Zf _ rfl (.tmp 57) (.tmp 59) 29 rfl 58 i0 (.slice none 0 0) 1 24 Tryz.underlying29 HI.out.1 HI.out.2.1 HI.out.2.2.1 HI.out.2.2.2 rfl (by decide) (.slice ba bn bc) bn vals rfl (HROW.out _) ⟨wr.heap.size,0,none⟩ 1 1 [.slice (some ⟨N,0,none⟩) 4 4] rfl rfl (cell_one_new wr _ _) (Vy _ _ _) bb1 hbn ?_);intro v' w3 hA;obtain⟨r0,r1,r2⟩:=HFIN.out _ _ _ hA;have HDONE:Hid (YM shM (fun v=>ZM vps b0 v b2 commits most) w pb (.slice ba bn bc) bn vals (.slice lo m lc) m v' (w3.setCell ⟨pb,2,none⟩ v')):=r2;clear r2;obtain⟨ao',cap',hv',_⟩:=hA.row.form;clear hA;subst hv')
     go_end0
     exact⟨rfl,_,HDONE.out⟩
def ZjA (w:World)(e size:Nat)(v:Value)(n m:Nat)(xs news:List Value)(v':Value)(w':World):Prop:=
 (∃g cap,v=.slice (some ⟨g,0,none⟩) n cap∧n+m≤cap∧v'=.slice (some ⟨g,0,none⟩) (n+m) cap∧Row w' e size v n xs∧Za (fun k=>k=g) w w')∨
 (∃g cap,v'=.slice (some ⟨g,0,none⟩) (n+m) cap∧w.heap.size≤g∧Row w' e size v' (n+m) (xs++news)∧Za (fun _=>False) w w')
theorem Y7 {P:Program}(w:World){ops:Array Oper}{rest:List Oper}{o:Oper}{a:Act}{Q:Exit→Act→World→Prop}(hgd:o.guard=none)(s x:Operand)(t:TypeId)
 (ho:o.op=.call {callee:=.builtin .append,args:=#[s,x],argTypes:=#[t,t]})
 (e:TypeId) (i:TypeInfo) (z:Value) (size bytes:Nat) (ht:P.underlying t=some (.slice e)) (hi:P.info? e=some i) (hz:i.zero=some z)
 (hsize:i.size=size) (hby:i.bytes=bytes) (hzs:z.cells.size=size) (hsz:0<size)
 (v:Value) (n:Nat) (xs:List Value) (hs:a.eval s=v) (hown:Row w e size v n xs)
 (ad:Addr) (m c:Nat) (hm0:0<m) (news:List Value) (hx:a.eval x=.slice (some ad) m c) (hl:news.length=m*size) (hnews:∀j u,news[j]?=some u→w.cell? (ad.add j)=some u) (h1:∀u∈news,u.oneCell'=true)
 (h63:n+m≤maxLen) (hbytes:(n+m)*bytes≤140737488355328)
 (h:∀v' w',ZjA w e size v n m xs news v' w'→wpList P ops Q rest (a.put o.dst v') w'):wpList P ops Q (o::rest) a w:=
 wpList_plain hgd fun _ hK=>Vd w s x t ho e i z size bytes ht hi hz hsize hby hzs hsz v n xs hs hown ad m c hm0 news hx hl hnews h1 h63 hbytes fun v' w' h2=>hK _ _ (h v' w' h2)
theorem ZbZ (w:World)(l:List Value)(t:TypeId):∀j u,l[j]?=some u→(w.alloc (.cells l.toArray t)).cell? ((⟨w.heap.size,0,none⟩:Addr).add j)=some u:=by
 intro j u hj;have e':(⟨w.heap.size,0,none⟩:Addr).add j=⟨w.heap.size,j,none⟩:=by cases j<;>simp[Addr.add]
 rw[e',World.cell?_alloc_at _ _ _ _ rfl];simpa using hj
theorem ZdE {l:List Value}{z:Int}(h:∀u∈l,u=.int .u8 z):∀u∈l,u.oneCell'=true:=fun u hu=>by rw[h u hu];rfl
structure SB (w0:World)(lo:Option Addr)(m lc:Nat)(xs:List Value)(w:World):Prop where
 kept:Za (fun k=>(Value.slice lo m lc).ownBlock=some k) w0 w
 row:Row w 5 1 (.slice lo m lc) m xs
def InA (w0:World)(lo:Option Addr)(m lc k g:Nat)(w:World):Prop:=(lo=some ⟨g,0,none⟩∧m+k≤lc)∨(w0.heap.size≤g∧∃c,Blk w g 5 c∧m+k≤c.size)
theorem InA.mono {w0 w w':World}{lo:Option Addr}{m lc k g:Nat}(hl:∀k,(Value.slice lo m lc).ownBlock=some k→k<w0.heap.size)(hk:Za (fun k=>(Value.slice lo m lc).ownBlock=some k) w w')(h:InA w0 lo m lc k g w):InA w0 lo m lc k g w':=by
 rcases h with h|⟨h2,c,h3,h4⟩
 · exact .inl h
 · exact .inr ⟨h2,c,h3.kept hk fun h=>by have:=hl _ h;omega,h4⟩
theorem SB.alloc {w0 w:World}{lo:Option Addr}{m lc:Nat}{xs:List Value}(h:SB w0 lo m lc xs w)(o:Obj):SB w0 lo m lc xs (w.alloc o):=
 ⟨h.kept.trans (Za.alloc w o (fun _=>False)) (fun _=>id) (fun _ _=>False.elim),h.row.kept (Za.alloc w o (fun _=>False)) (fun _ _=>id)⟩
theorem SB.app {w0 W w':World}{lo:Option Addr}{m lc k:Nat}{xs news:List Value}{v':Value}{o:Obj}(h0:SB w0 lo m lc xs W)(hk0:0<k)(hp:ZjA (W.alloc o) 5 1 (.slice lo m lc) m k xs news v' w'):
 ∃g cap,v'=.slice (some ⟨g,0,none⟩) (m+k) cap∧SB w0 lo m lc xs w'∧Za (fun k=>(Value.slice lo m lc).ownBlock=some k) W w'∧InA w0 lo m lc k g w':=by
 have h:=h0.alloc o;have ka:=Za.alloc W o (fun k=>(Value.slice lo m lc).ownBlock=some k);rcases hp with⟨g,cap,e1,e2,e3,hR,hk⟩|⟨g,cap,e1,hg,hR,hk⟩
 · injection e1 with q1 _ q2;subst q1 q2;have hk':Za (fun k=>(Value.slice (some ⟨g,0,none⟩) m lc).ownBlock=some k) (W.alloc o) w':=hk.mono fun x hx=>by rw[hx];rfl
   exact⟨g,lc,e3,⟨h.kept.trans hk' (fun _=>id) (fun _ _=>id),hR⟩,ka.trans hk' (fun _=>id) (fun _ _=>id),.inl ⟨rfl,e2⟩⟩
 · have hk':Za (fun k=>(Value.slice lo m lc).ownBlock=some k) (W.alloc o) w':=hk.mono fun _=>False.elim;refine⟨g,cap,e1,⟨h.kept.trans hk' (fun _=>id) (fun _ _=>id),h.row.kept hk (fun _ _=>id)⟩,ka.trans hk' (fun _=>id) (fun _ _=>id),.inr ⟨Nat.le_trans h.kept.size hg,?_⟩⟩;rcases hR.shape with⟨_,hn0,_⟩|⟨g2,cap2,cur2,hv2,hb2,hc2,_,hs2,_⟩
   · omega
   · rw[e1]at hv2;injection hv2 with q1 _ q2;injection q1 with q1;injection q1 with q1 _ _;subst q1 q2;exact⟨cur2,hb2,by rw[hs2,Nat.mul_one];exact hc2⟩
theorem ZjL {w0 w3:World}{lo:Option Addr}{m lc g1 g2 g3 c1 c2 c3:Nat}{xs:List Value}(hS:SB w0 lo m lc xs w3)(h1:InA w0 lo m lc 1 g1 w3)(h2:InA w0 lo m lc 2 g2 w3)(h3:InA w0 lo m lc 3 g3 w3)(hm:m≤1000):
 ∃(ad:Nat→Option Addr)(cp:Nat→Nat),V6 (w3.alloc (.cells #[.slice lo m lc,.slice (some ⟨g1,0,none⟩) (m+1) c1,.slice (some ⟨g2,0,none⟩) (m+2) c2,.slice (some ⟨g3,0,none⟩) (m+3) c3] 100)) ⟨w3.heap.size,m,ad,cp⟩∧∀b,YF ⟨w3.heap.size,m,ad,cp⟩ b→V7 (.slice lo m lc) w0.heap.size b:=by
 have lrow:∀g q,lo=some ⟨g,0,none⟩→q≤lc→V7 (.slice lo m lc) w0.heap.size g∧∃c,Blk w3 g 5 c∧q≤c.size:=by
  intro g q hg hq;subst hg;refine⟨.inl rfl,?_⟩;rcases hS.row.shape with⟨e,_⟩|⟨g',cap,cur,e,hb',_,_,hs,_⟩
  · cases e
  · injection e with q1 _ q2;injection q1 with q1;injection q1 with q1 _ _;subst q1 q2;exact⟨cur,hb',by rw[hs,Nat.mul_one];exact hq⟩
 have use:∀q g,InA w0 lo m lc q g w3→V7 (.slice lo m lc) w0.heap.size g∧∃c,Blk w3 g 5 c∧m+q≤c.size:=by
  rintro q g (⟨h1,h2⟩|⟨h1,h2⟩)
  · exact lrow g (m+q) h1 h2
  · exact⟨.inr h1,h2⟩
 have all:∀k,k<4→0<m+k→∃g,(if k=0 then lo else if k=1 then some ⟨g1,0,none⟩else if k=2 then some ⟨g2,0,none⟩else some ⟨g3,0,none⟩)=some (⟨g,0,none⟩:Addr)∧V7 (.slice lo m lc) w0.heap.size g∧∃c,Blk w3 g 5 c∧m+k≤c.size:=by
  intro k hk h0;have hk4:k=0∨k=1∨k=2∨k=3:=by omega
  rcases hk4 with rfl|rfl|rfl|rfl
  · obtain⟨g,cap,hv,_,_⟩:=hS.row.block (by omega);injection hv with q1 _ q2;have hml:m≤lc:=by
     rcases hS.row.shape with⟨_,h,_⟩|⟨_,cap',_,e',_,hc,_⟩
     · omega
     · injection e' with _ _ q3;omega
    exact⟨g,q1,lrow g (m+0) q1 hml⟩
  · exact⟨g1,rfl,use 1 g1 h1⟩
  · exact⟨g2,rfl,use 2 g2 h2⟩
  · exact⟨g3,rfl,use 3 g3 h3⟩
 refine⟨fun k=>if k=0 then lo else if k=1 then some ⟨g1,0,none⟩else if k=2 then some ⟨g2,0,none⟩else some ⟨g3,0,none⟩,fun k=>if k=0 then lc else if k=1 then c1 else if k=2 then c2 else c3,⟨Blk.new _ _ _,fun k hk h0=> ?_,hm⟩,?_⟩
 · obtain⟨g,e1,_,c,hb,hc⟩:=all k hk h0;exact⟨g,e1,c,hb.kept (Za.alloc _ _ (fun _=>False)) id,hc⟩
 · rintro b ⟨k,hk,h0,e1⟩;obtain⟨g,e2,ho,_⟩:=all k hk h0;have e1':(if k=0 then lo else if k=1 then some ⟨g1,0,none⟩else if k=2 then some ⟨g2,0,none⟩else some ⟨g3,0,none⟩)=some (⟨b,0,none⟩:Addr):=e1;rw[e1']at e2;injection e2 with e2;injection e2 with e2 _ _;subst e2;exact ho
theorem Tryz.infoCards :(Tryz.prog.info? 114).map (fun i=>(i.zero,i.size,i.bytes))=some (some (.slice none 0 0),1,24):=by kernel_rfl
theorem lbytes (w:World)(pb:Nat)(vps b0 b1 bv:Value)(commits most:Int)(bn:Nat)(vals:List Value)(lo:Option Addr)(m lc:Nat)(xs:List Value)(hblk:Blk w pb 34 (ZM vps b0 b1 bv commits most))(hbv:Row w 114 1 bv bn vals)(hbn:(bn+1)*24≤140737488355328)(hl:Row w 5 1 (.slice lo m lc) m xs)(hm:m≤1000):
 Calls Tryz.prog 52 #[.pointer (some ⟨pb,1,none⟩),.slice lo m lc] w fun e w'=>e=.returned (.tuple #[])∧∃v,YM shC (fun v=>ZM vps b0 b1 v commits most) w pb bv bn vals (.slice lo m lc) m v w':=by
 obtain⟨ba,bc,hbf,_⟩:=hbv.form;subst hbf;have c3:w.cell? ⟨pb,3,none⟩=some (.slice ba bn bc):=hblk.cell 3;obtain⟨z,hz⟩:∃z:Int,z=((digitN bn 0:Nat):Int):=⟨_,rfl⟩;have HD:Hid (∀W,Calls Tryz.prog 68 #[.int .i64 (bn:Int),.int .i64 0] W fun e w'=>e=.returned (.int .u8 z)∧W=w'):=fun W=>by rw[hz];exact Zik W bn 0 (by omega) (by omega)
 have hlt:∀k,(Value.slice lo m lc).ownBlock=some k→k<w.heap.size:=hl.lt;have HS0:Hid (SB w lo m lc xs w):=⟨Za.refl _ _,hl⟩;have HNB:∀k,(Value.slice lo m lc).ownBlock=some k→k≠pb∧(Value.slice ba bn bc).ownBlock≠some k:=fun k hk=>⟨fun e=>hl.ne_block hblk (by decide) (by rw[←e];exact hk),fun e=>hl.ne_row hbv (by decide) k hk e⟩;have HAPP:Hid (∀(W w':World)(k:Nat)(news:List Value)(v':Value)(o:Obj),SB w lo m lc xs W→0<k→ZjA (W.alloc o) 5 1 (.slice lo m lc) m k xs news v' w'→∃g cap,v'=.slice (some ⟨g,0,none⟩) (m+k) cap∧Hid (SB w lo m lc xs w'∧Za (fun k=>(Value.slice lo m lc).ownBlock=some k) W w'∧InA w lo m lc k g w')):=fun W w' k news v' o h1 h2 h3=>h1.app h2 h3;have HROW:Hid (∀(W:World)(o:Obj),SB w lo m lc xs W→Row (W.alloc o) 5 1 (.slice lo m lc) m xs):=fun W o h=>(h.alloc o).row;have HWR:Hid (∀(w1 w2 w3:World)(g1 g2 g3 p1 p2 p3:Nat),InA w lo m lc 1 g1 w1→(Za (fun k=>(Value.slice lo m lc).ownBlock=some k) w1 w2∧InA w lo m lc 2 g2 w2)→(SB w lo m lc xs w3∧Za (fun k=>(Value.slice lo m lc).ownBlock=some k) w2 w3∧InA w lo m lc 3 g3 w3)→Calls Tryz.prog 69 #[.slice (some ⟨w3.heap.size,0,none⟩) 4 4,.int .u8 z] (w3.alloc (.cells #[.slice lo m lc,.slice (some ⟨g1,0,none⟩) (m+1) p1,.slice (some ⟨g2,0,none⟩) (m+2) p2,.slice (some ⟨g3,0,none⟩) (m+3) p3] 100)) fun r w'=>r=.returned (.tuple #[])∧w'.cell? ⟨pb,3,none⟩=some (.slice ba bn bc)∧Hid (pb<w'.heap.size∧(∀o,Row (w'.alloc o) 114 1 (.slice ba bn bc) bn vals)∧∀(o:Obj)(w9:World)(v:Value),Zc (w'.alloc o) w9 114 1 (.slice ba bn bc) v bn 1 vals [.slice (some ⟨w3.heap.size,0,none⟩) 4 4]→w9.cell? ⟨pb,3,none⟩=some (.slice ba bn bc)∧w9.frozen? ⟨pb,3,none⟩=false∧YM shC (fun v=>ZM vps b0 b1 v commits most) w pb (.slice ba bn bc) bn vals (.slice lo m lc) m v (w9.setCell ⟨pb,3,none⟩ v))):=by
  intro w1 w2 w3 g1 g2 g3 p1 p2 p3 a1 a2 a3;have a2':=a2.2.mono hlt a3.2.1;have a1':=(a1.mono hlt a2.1).mono hlt a3.2.1;obtain⟨ad,cp,hC,hO⟩:=ZjL (c1:=p1) (c2:=p2) (c3:=p3) a3.1 a1' a2' a3.2.2 hm;refine(Zil _ ⟨w3.heap.size,m,ad,cp⟩ z hC).mono fun r w' hp=> ?_;have hW:=hp.2.out;have hs3:=a3.1.kept.size;have hkw:Za (fun k=>(Value.slice lo m lc).ownBlock=some k) w w':=by
   refine((a3.1.alloc _).kept.trans hW.kept (fun _=>id) (fun k hk hn=> ?_));rcases hO k hn with h1|h1
   · exact h1
   · omega
  have hBr:Blk w' pb 34 (ZM vps b0 b1 (.slice ba bn bc) commits most):=hblk.kept hkw fun e=>(HNB _ e).1 rfl;have hVr:Row w' 114 1 (.slice ba bn bc) bn vals:=hbv.kept hkw fun j hj e=>(HNB _ e).2 hj;refine⟨hp.1,hBr.cell 3,hBr.lt,fun o=>hVr.kept (Za.alloc w' o (fun _=>False)) (fun _ _=>id),fun o w9 v hA=> ?_⟩;have hA:=hA.of_alloc;have b3:Blk w9 pb 34 (ZM vps b0 b1 (.slice ba bn bc) commits most):=hBr.kept hA.kept fun e=>hVr.ne_block hBr (by decide) e;have n3:Blk w9 w3.heap.size 100 (Vs m ad cp):=hW.card.blk.kept hA.kept fun e=>hVr.ne_block hW.card.blk (by decide) e;have kS:=Za.setCell w9 ⟨pb,3,none⟩ v;have hpw:=hblk.lt;refine⟨b3.cell 3,b3.free 3,w3.heap.size,ad,cp,n3.kept kS (fun e=> ?_),hs3,fun k hk t ht=> ?_,hA.row.kept kS (fun j hj e=> ?_),b3.set 3 v,(hkw.trans hA.kept (H:=fun k=>k=pb∨(Value.slice ba bn bc).ownBlock=some k∨(Value.slice lo m lc).ownBlock=some k) (fun _ h=>.inr (.inr h)) (fun _ _ h=>.inr (.inl h))).trans kS (fun _=>id) (fun _ _ h=>.inl h),fun k hk=> ?_⟩
  · simp at e;omega
  · obtain⟨g,e1,c,hbg,hcg⟩:=hW.done k hk t ht (.inl hk);have o1:=hO g ⟨k,hk,by show 0<m+k;omega,e1⟩;refine⟨g,e1,o1,c,(hbg.kept hA.kept fun e=>hVr.ne_block hbg (by decide) e).kept kS (fun e=> ?_),fun f hf=> ?_⟩
    · simp at e;subst e;exact absurd (hBr.type hbg).1 (by decide)
    · have hf0:f=0:=by have:f<1:=hf;omega
      subst hf0;show c[t*1+0]?=_;rw[Nat.mul_one,Nat.add_zero,hcg,hz];rfl
  · simp at e;subst e;exact Row.ne_block hA.row b3 (by decide) hj
  · rcases hA.own with h1|h1
    · left;rw[←h1];exact hk
    · right;have:=h1 k hk;have:=hkw.size;omega
 obtain⟨i0,hi,hz0,hz1,hz2⟩:=info_parts Tryz.infoU8;have HI:Hid (Tryz.prog.info? 5=some i0∧i0.zero=some (.int .u8 0)∧i0.size=1∧i0.bytes=1):=⟨hi,hz0,hz1,hz2⟩;obtain⟨i1,hj,hy0,hy1,hy2⟩:=info_parts Tryz.infoCards;have HI1:Hid (Tryz.prog.info? 114=some i1∧i1.zero=some (.slice none 0 0)∧i1.size=1∧i1.bytes=24):=⟨hj,hy0,hy1,hy2⟩;have k1:m+1≤maxLen:=by unfold maxLen;omega
 have k2:m+2≤maxLen:=by unfold maxLen;omega
 have k3:m+3≤maxLen:=by unfold maxLen;omega
 have l1:(m+1)*1≤140737488355328:=by omega
 have l2:(m+2)*1≤140737488355328:=by omega
 have l3:(m+3)*1≤140737488355328:=by omega
 have kb:bn+1≤maxLen:=by unfold maxLen;omega
 have hpl:=hblk.lt;clear hi hz0 hz1 hz2 hj hy0 hy1 hy2 hblk hbv hl hz hlt HNB;go_enter Tryz.func52,Tryz.ntmps52
 go_wp2_with first
  |(go_at_call 68;refine(HD.out _).mono ?_;rintro e w' ⟨rfl,rfl⟩)
  |(at_builtin;refine Y7 _ rfl (.tmp 13) (.tmp 15) 100 rfl 5 i0 (.int .u8 0) 1 1 Tryz.underlying100 HI.out.1 HI.out.2.1 HI.out.2.2.1 HI.out.2.2.2 rfl (by decide) (.slice lo m lc) m xs rfl (HROW.out _ _ HS0.out) ⟨w.heap.size,0,none⟩ 1 1 (by decide) [.int .u8 z] rfl rfl (ZbZ w [.int .u8 z] _) (ZdE (z:=z) (by simp)) k1 l1 ?_;intro v1 w1 hp1;obtain⟨g1,p1,hv1,HA1⟩:=HAPP.out _ _ _ _ _ _ HS0.out (by decide) hp1;clear hp1;subst hv1)
  |(at_builtin;refine Y7 _ rfl (.tmp 17) (.tmp 20) 100 rfl 5 i0 (.int .u8 0) 1 1 Tryz.underlying100 HI.out.1 HI.out.2.1 HI.out.2.2.1 HI.out.2.2.2 rfl (by decide) (.slice lo m lc) m xs rfl (HROW.out _ _ HA1.out.1) ⟨w1.heap.size,0,none⟩ 2 2 (by decide) [.int .u8 z,.int .u8 z] rfl rfl (ZbZ w1 [.int .u8 z,.int .u8 z] _) (ZdE (z:=z) (by simp)) k2 l2 ?_;intro v2 w2 hp2;obtain⟨g2,p2,hv2,HA2⟩:=HAPP.out _ _ _ _ _ _ HA1.out.1 (by decide) hp2;clear hp2;subst hv2)
  |(at_builtin;refine Y7 _ rfl (.tmp 22) (.tmp 26) 100 rfl 5 i0 (.int .u8 0) 1 1 Tryz.underlying100 HI.out.1 HI.out.2.1 HI.out.2.2.1 HI.out.2.2.2 rfl (by decide) (.slice lo m lc) m xs rfl (HROW.out _ _ HA2.out.1) ⟨w2.heap.size,0,none⟩ 3 3 (by decide) [.int .u8 z,.int .u8 z,.int .u8 z] rfl rfl (ZbZ w2 [.int .u8 z,.int .u8 z,.int .u8 z] _) (ZdE (z:=z) (by simp)) k3 l3 ?_;intro v3 w3 hp3;obtain⟨g3,p3,hv3,HA3⟩:=HAPP.out _ _ _ _ _ _ HA2.out.1 (by decide) hp3;clear hp3;subst hv3)
  |(go_at_call 69;refine(HWR.out w1 w2 w3 g1 g2 g3 p1 p2 p3 HA1.out.2.2 ⟨HA2.out.2.1,HA2.out.2.2⟩ HA3.out).mono ?_;rintro e w4 ⟨rfl,q3,HW4⟩)
  |(at_builtin;go_must (refine Zf _ rfl (.tmp 36) (.tmp 38) 30 rfl 114 i1 (.slice none 0 0) 1 24 Tryz.underlying30 HI1.out.1 HI1.out.2.1 HI1.out.2.2.1 HI1.out.2.2.2 rfl (by decide) (.slice ba bn bc) bn vals rfl (HW4.out.2.1 _) ⟨w4.heap.size,0,none⟩ 1 1 [.slice (some ⟨w3.heap.size,0,none⟩) 4 4] rfl rfl (cell_one_new w4 _ _) (Vy _ _ _) kb hbn ?_);intro v' w9 hA;obtain⟨r0,r1,r2⟩:=HW4.out.2.2 _ _ _ hA;have HDONE:Hid (YM shC (fun v=>ZM vps b0 b1 v commits most) w pb (.slice ba bn bc) bn vals (.slice lo m lc) m v' (w9.setCell ⟨pb,3,none⟩ v')):=r2;clear r2;obtain⟨ao',cap',hv',_⟩:=hA.row.form;clear hA;subst hv')
 go_end0
 exact⟨rfl,_,HDONE.out⟩
theorem ZhU {S:YE}{pl:Value→Array Value}{w w':World}{pb bn m:Nat}{bv lV v:Value}{vals:List Value}(h:YM S pl w pb bv bn vals lV m v w')(q:Nat):YM S pl w pb bv bn vals lV m v (w'.drewN q):=by
 obtain⟨N,ad,cp,h1,h2,h3,h4,h5,h6,h7⟩:=h;refine⟨N,ad,cp,h1.same rfl,h2,fun k hk t ht=> ?_,h4.same fun _ _=>rfl,h5.same rfl,h6.drewN q,h7⟩;obtain⟨g,e1,e2,e3⟩:=h3 k hk t ht;exact⟨g,e1,e2,e3.same rfl⟩
theorem ZdJ (w:World)(pb xb cb:Nat)(a b c:Int)(s:ByteArray)(ao:Option Addr)(n cap:Nat)(D:Ze)(R:Zd)(vps bv b1 b2:Value)(commits most:Int)(bn:Nat)(vals:List Value)(h:ZP w xb cb D R)(hu:R.uses.length<3000000000000)(hblk:Blk w pb 34 (ZM vps bv b1 b2 commits most))(hb1:Row w 58 1 b1 bn vals)(hbn:(bn+1)*24≤140737488355328):
 Calls Tryz.prog 17 #[.pointer (some ⟨pb,0,none⟩),.agg #[.pointer (some ⟨xb,0,none⟩),.pointer (some ⟨cb,0,none⟩)],.agg #[.int .i64 13,.int .i64 a,.int .i64 b,.int .i64 c,.string s,.slice ao n cap]] w fun e w'=>e=.returned (.bool true)∧Hid (XA w pb vps bv b1 b2 commits most bn vals w'):=by
 have hk:=ZW w xb cb 13 a b c s (.slice ao n cap);obtain⟨l,r,hll,hx,hd⟩:=ZeI (h.kept hk fun _ _=>id) (by omega) b;have H0:Hid (Calls Tryz.prog 53 #[.pointer (some ⟨xb,0,none⟩),.int .i64 b] (Zz w xb cb 13 a b c s (.slice ao n cap)) fun e w1=>∃lo lc,e=.returned (.tuple #[.slice lo l.length lc,.int .i64 r])∧w1.cell? ⟨w.heap.size,1,none⟩=some (.pointer (some ⟨cb,0,none⟩))∧w1.cell? ⟨w.heap.size+1,2,none⟩=some (.int .i64 b)∧Hid (Za (fun _=>False) w w1∧Row w1 62 2 (.slice lo l.length lc) l.length (l.flatMap Xh)∧∀k,(Value.slice lo l.length lc).ownBlock=some k→w.heap.size≤k)):=hx.mono fun e w1 hp=>by
  obtain⟨lo,lc,e1,HG⟩:=hp;have hg:=HG.out;exact⟨lo,lc,e1,YD hg.kept (fun _=>False.elim),YR hg.kept (fun _=>False.elim),hk.trans hg.kept (fun _=>id) (fun _ _=>id),hg.row,fun k hk'=>Nat.le_trans hk.size (hg.new k hk')⟩
 have H1:Hid (∀W,Za (fun _=>False) w W→Calls Tryz.prog 54 #[.pointer (some ⟨cb,0,none⟩),.int .i64 b] W fun e w'=>∃lo lc,e=.returned (.tuple #[.slice lo l.length lc,.int .i64 r])∧Hid (Za (fun _=>False) W w'∧Row w' 62 2 (.slice lo l.length lc) l.length (l.flatMap Xh))):=fun W hW=>(hd W (h.ref.kept hW fun _ _=>id)).mono fun e w1 hp=>by
  obtain⟨lo,lc,e1,HG⟩:=hp;exact⟨lo,lc,e1,HG.out.kept,HG.out.row⟩
 have H2:Hid (∀W lo lc lo' lc',Row W 62 2 (.slice lo l.length lc) l.length (l.flatMap Xh)→Row W 62 2 (.slice lo' l.length lc') l.length (l.flatMap Xh)→Calls Tryz.prog 55 #[.slice lo l.length lc,.slice lo' l.length lc'] W fun e w'=>e=.returned (.bool true)∧Hid (Za (fun _=>False) W w')):=fun W lo lc lo' lc' h1 h2=>ZcH W _ _ l (by omega) h1 h2;have H3:Hid (∀W lo lc,Row W 62 2 (.slice lo l.length lc) l.length (l.flatMap Xh)→Za (fun _=>False) w W→Calls Tryz.prog 56 #[.pointer (some ⟨pb,1,none⟩),.slice lo l.length lc] W fun e w'=>e=.returned (.tuple #[])∧Hid (∃v,YM shM (fun v=>ZM vps bv v b2 commits most) W pb b1 bn vals (.slice lo l.length lc) l.length v w')):=fun W lo lc h1 hW=>ZhW W pb vps bv b1 b2 commits most bn vals lo l.length lc _ (hblk.kept hW id) (hb1.kept hW fun _ _=>id) hbn h1 (by omega);have HLL:=hid hll;have hpl:=hblk.lt;clear h hblk hb1 hk hx hd hll;go_enter Tryz.func17,Tryz.ntmps17
 go_wp2_with first
  |(go_at_call 53;refine H0.out.mono ?_;rintro e w1 ⟨lo,lc,rfl,q1,q2,HR⟩)
  |(go_at_call 54;refine(H1.out _ HR.out.1).mono ?_;rintro e w2 ⟨lo2,lc2,rfl,HR2⟩)
  |(go_at_call 55;refine(H2.out _ lo lc lo2 lc2 (HR.out.2.1.kept HR2.out.1 (fun _ _=>id)) HR2.out.2).mono ?_;rintro e w3 ⟨rfl,HK3⟩)
  |(go_at_call 56;refine(H3.out _ lo lc ((HR.out.2.1.kept HR2.out.1 (fun _ _=>id)).kept HK3.out (fun _ _=>id)) ((HR.out.1.trans HR2.out.1 (H:=fun _=>False) (fun _=>id) (fun _ _=>id)).trans HK3.out (fun _=>id) (fun _ _=>id))).mono ?_;rintro e w4 ⟨rfl,HE4⟩)
 go_ret;refine⟨Z6 (by simp),?_⟩;obtain⟨v,hg⟩:=HE4.out;exact⟨w3,v,.slice lo l.length lc,l.length,l.flatMap Xh,HLL.out,(HR.out.1.trans HR2.out.1 (H:=fun _=>False) (fun _=>id) (fun _ _=>id)).trans HK3.out (fun _=>id) (fun _ _=>id),(HR.out.2.1.kept HR2.out.1 (fun _ _=>id)).kept HK3.out (fun _ _=>id),HR.out.2.2,hg⟩
theorem Zh1 (w:World)(pb xb cb:Nat)(a b c:Int)(s:ByteArray)(ao:Option Addr)(n cap:Nat)(D:Ze)(R:Zd)(vps bv b1 b2:Value)(commits most:Int)(bn:Nat)(vals:List Value)(cn:Nat)(cvals:List Value)(h:ZP w xb cb D R)(hu:R.uses.length<3000000000000)(hblk:Blk w pb 34 (ZM vps bv b1 b2 commits most))(hbv:Row w 49 1 bv bn vals)(hb2:Row w 114 1 b2 cn cvals)(hbn:(bn+1)*24≤140737488355328)(hcn:(cn+1)*24≤140737488355328):
 Calls Tryz.prog 16 #[.pointer (some ⟨pb,0,none⟩),.agg #[.pointer (some ⟨xb,0,none⟩),.pointer (some ⟨cb,0,none⟩)],.agg #[.int .i64 12,.int .i64 a,.int .i64 b,.int .i64 c,.string s,.slice ao n cap]] w fun e w'=>e=.returned (.bool true)∧Hid (Ve w pb vps bv b1 b2 commits most bn vals cn cvals w'):=by
 have hk:=ZW w xb cb 12 a b c s (.slice ao n cap);have hdoc:∀w2,Ref w2 cb R→Calls Tryz.prog 50 #[.pointer (some ⟨cb,0,none⟩),.int .i64 b] w2 fun e w3=>VF w2 R b e w3:=fun w2 h2=>rlook w2 cb R b h2 h.rfit (fun nd hnd=>by
  obtain⟨j,hj⟩:=List.getElem?_of_mem hnd;have hjl:=(List.getElem?_eq_some_iff.mp hj).1;have hlen:D.nodes.length=R.nodes.length:=by rw[h.sim.len];show _=(D.nodes.map _).length;rw[List.length_map]
  have hs:D.pu.sites[j]?=some (D.nodes[j]'(by omega)).p:=by show(D.nodes.map _)[j]?=_;rw[List.getElem?_map,List.getElem?_eq_getElem (by omega)];rfl
  have hn:=h.sim.node j _ nd hs hj;have hg:=h.good.sites _ (List.mem_of_getElem? hs);have hw:=hg.walk h.good.pmax (by omega);have e1:nd.wts=((D.nodes[j]'(by omega)).p).waits.map (·.1):=hn.wts;have e2:nd.ents=((D.nodes[j]'(by omega)).p).ents.map (·.e):=hn.ents;refine⟨by rw[e1,List.length_map];exact hw.ok.wl,by rw[e2,List.length_map];have:=hw.el;omega,hn.top⟩)
 obtain⟨up,hz,ns,es,r,hn1,he1,hx,hd⟩:=Zib (h.kept hk fun _ _=>id) (by omega) b hdoc;have H0:Hid (Calls Tryz.prog 49 #[.pointer (some ⟨xb,0,none⟩),.int .i64 b] (Zz w xb cb 12 a b c s (.slice ao n cap)) fun e w1=>∃wa wc ea ec,e=.returned (.tuple #[.agg #[.bool up,.int .u64 (hz:Int),.slice wa ns.length wc,.slice ea es.length ec],.int .i64 r])∧w1.cell? ⟨w.heap.size,1,none⟩=some (.pointer (some ⟨cb,0,none⟩))∧w1.cell? ⟨w.heap.size+1,2,none⟩=some (.int .i64 b)∧Hid (Za (fun _=>False) w w1∧Row w1 5 1 (.slice wa ns.length wc) ns.length (ns.flatMap u8C)∧Row w1 55 6 (.slice ea es.length ec) es.length (es.flatMap Zk)∧(∀k,(Value.slice wa ns.length wc).ownBlock=some k→w.heap.size≤k)∧∀k,(Value.slice ea es.length ec).ownBlock=some k→w.heap.size≤k)):=hx.mono fun e w1 hp=>by
  obtain⟨wa,wc,ea,ec,e1,HG⟩:=hp;obtain⟨g1,g2⟩:=HG.out;exact⟨wa,wc,ea,ec,e1,YD g1.kept (fun _=>False.elim),YR g1.kept (fun _=>False.elim),hk.trans g1.kept (fun _=>id) (fun _ _=>id),g1.row,g2.row,fun k hk'=>Nat.le_trans hk.size (g1.new k hk'),fun k hk'=>Nat.le_trans hk.size (g2.new k hk')⟩
 have H1:Hid (∀W,Za (fun _=>False) w W→Calls Tryz.prog 50 #[.pointer (some ⟨cb,0,none⟩),.int .i64 b] W fun e w'=>∃wa wc ea ec,e=.returned (.tuple #[.agg #[.bool up,.int .u64 (hz:Int),.slice wa ns.length wc,.slice ea es.length ec],.int .i64 r])∧Hid (Za (fun _=>False) W w'∧Row w' 5 1 (.slice wa ns.length wc) ns.length (ns.flatMap u8C)∧Row w' 55 6 (.slice ea es.length ec) es.length (es.flatMap Zk))):=fun W hW=>(hd W (h.ref.kept hW fun _ _=>id)).mono fun e w1 hp=>by
  obtain⟨wa,wc,ea,ec,e1,HG⟩:=hp;exact⟨wa,wc,ea,ec,e1,HG.out.1.kept,HG.out.1.row,HG.out.2.row⟩
 have H2:Hid (∀W lo lc lo' lc',Row W 55 6 (.slice lo es.length lc) es.length (es.flatMap Zk)→Row W 55 6 (.slice lo' es.length lc') es.length (es.flatMap Zk)→Calls Tryz.prog 41 #[.slice lo es.length lc,.slice lo' es.length lc'] W fun e w'=>e=.returned (.bool true)∧Hid (Za (fun _=>False) W w')):=fun W lo lc lo' lc' h1 h2=>(ZaW W _ _ es (by omega) h1 h2).mono fun e w' hp=>⟨hp.1,Za.of_below hp.2 _⟩;have H3:Hid (∀W lo lc lo' lc',Row W 5 1 (.slice lo ns.length lc) ns.length (ns.flatMap u8C)→Row W 5 1 (.slice lo' ns.length lc') ns.length (ns.flatMap u8C)→Calls Tryz.prog 51 #[.slice lo ns.length lc,.slice lo' ns.length lc'] W fun e w'=>e=.returned (.bool true)∧Hid (Za (fun _=>False) W w')):=fun W lo lc lo' lc' h1 h2=>Zgr W _ _ ns (by omega) h1 h2;have H4:Hid (∀W lo lc,Row W 55 6 (.slice lo es.length lc) es.length (es.flatMap Zk)→Za (fun _=>False) w W→Calls Tryz.prog 42 #[.pointer (some ⟨pb,1,none⟩),.slice lo es.length lc] W fun e w'=>e=.returned (.tuple #[])∧Hid (∃v,YM shE (fun v=>ZM vps v b1 b2 commits most) W pb bv bn vals (.slice lo es.length lc) es.length v w')):=fun W lo lc h1 hW=>(ZeX W pb vps bv b1 b2 commits most bn vals lo es.length lc _ (hblk.kept hW id) (hbv.kept hW fun _ _=>id) hbn h1 (by omega)).mono fun e w' hp=>⟨hp.1,Zko hp⟩;have H5:Hid (∀(W W':World)(v:Value)(lo:Option Addr)(lc:Nat)(wa:Option Addr)(wc:Nat),Za (fun _=>False) w W→Row W 55 6 (.slice lo es.length lc) es.length (es.flatMap Zk)→Row W 5 1 (.slice wa ns.length wc) ns.length (ns.flatMap u8C)→YM shE (fun v=>ZM vps v b1 b2 commits most) W pb bv bn vals (.slice lo es.length lc) es.length v W'→(∀q C,Blk W q 102 C→Blk W' q 102 C)∧Row W' 5 1 (.slice wa ns.length wc) ns.length (ns.flatMap u8C)∧∀X,Za (fun _=>False) W' X→Calls Tryz.prog 52 #[.pointer (some ⟨pb,1,none⟩),.slice wa ns.length wc] X fun e w'=>e=.returned (.tuple #[])∧Hid (∃u,YM shC (fun u=>ZM vps v b1 u commits most) X pb b2 cn cvals (.slice wa ns.length wc) ns.length u w'∧(∀q C,Blk W' q 102 C→Blk w' q 102 C))):=by
  intro W W' v lo lc wa wc hW hl hw hg;have hbW:=hblk.kept hW id;have rbv:=hbv.kept hW fun _ _=>id;have rb2:=hb2.kept hW fun _ _=>id;have hw':Row W' 5 1 (.slice wa ns.length wc) ns.length (ns.flatMap u8C):=hw.kept hg.kept (by
   rintro j hj (e|e|e)
   · subst e;exact hw.ne_block hbW (by decide) hj
   · exact hw.ne_row rbv (by decide) j hj e
   · exact hw.ne_row hl (by decide) j hj e)
  have rb2':Row W' 114 1 b2 cn cvals:=rb2.kept hg.kept (by
   rintro j hj (e|e|e)
   · subst e;exact rb2.ne_block hbW (by decide) hj
   · exact rb2.ne_row rbv (by decide) j hj e
   · exact rb2.ne_row hl (by decide) j hj e)
  refine⟨fun q C hC=>hC.kept hg.kept ?_,hw',fun X hX=> ?_⟩
  · rintro(e|e|e)
    · subst e;exact absurd (hC.type hbW).1 (by decide)
    · exact rbv.ne_block hC (by decide) e
    · exact hl.ne_block hC (by decide) e
  · refine(lbytes X pb vps v b1 b2 commits most cn cvals wa ns.length wc _ (hg.blk.kept hX id) (rb2'.kept hX fun _ _=>id) hcn (hw'.kept hX fun _ _=>id) hn1).mono fun e w' hp=>⟨hp.1,?_⟩;obtain⟨u,hu'⟩:=hp.2;refine⟨u,hu',fun q C hC=>(hC.kept hX id).kept hu'.kept ?_⟩;rintro(e|e|e)
    · subst e;exact absurd (hC.type hg.blk).1 (by decide)
    · exact rb2'.ne_block hC (by decide) e
    · exact hw'.ne_block hC (by decide) e
 have HLL:Hid (es.length≤1000∧ns.length≤1000):=⟨he1,hn1⟩;have hpl:=hblk.lt;clear h hblk hbv hb2 hk hx hd hdoc hu;go_enter Tryz.func16,Tryz.ntmps16
 go_wp2_with first
  |(go_at_call 49;refine H0.out.mono ?_;rintro e w1 ⟨wa,wc,ea,ec,rfl,q1,q2,HR⟩;have o1:∀o:Obj,(w1.alloc o).cell? ⟨w.heap.size,1,none⟩=some (.pointer (some ⟨cb,0,none⟩)):=fun o=>Zg q1;have o2:∀o:Obj,(w1.alloc o).cell? ⟨w.heap.size+1,2,none⟩=some (.int .i64 b):=fun o=>Zg q2)
  |(go_at_call 50;refine(H1.out _ (HR.out.1.allocNew _)).mono ?_;rintro e w2 ⟨wa2,wc2,ea2,ec2,rfl,HR2⟩;have HB1:Hid (Blk w2 w1.heap.size 102 #[.bool up,.int .u64 (hz:Int),.slice wa ns.length wc,.slice ea es.length ec]):=(Blk.new w1 _ _).kept HR2.out.1 id;have r2:∀o:Obj,(w2.alloc o).cell? ⟨w1.heap.size,2,none⟩=some (.slice wa ns.length wc):=fun o=>Zg (HB1.out.cell 2);have r3:∀o:Obj,(w2.alloc o).cell? ⟨w1.heap.size,3,none⟩=some (.slice ea es.length ec):=fun o=>Zg (HB1.out.cell 3))
  |(go_at_call 41;refine(H2.out _ ea ec ea2 ec2 (((HR.out.2.2.1.kept (Za.alloc _ _ (fun _=>False)) (fun _ _=>id)).kept HR2.out.1 (fun _ _=>id)).kept (Za.alloc _ _ (fun _=>False)) (fun _ _=>id)) (HR2.out.2.2.kept (Za.alloc _ _ (fun _=>False)) (fun _ _=>id))).mono ?_;rintro e w3 ⟨rfl,HK3⟩;have HB2:Hid (Blk w3 w1.heap.size 102 #[.bool up,.int .u64 (hz:Int),.slice wa ns.length wc,.slice ea es.length ec]∧Blk w3 w2.heap.size 102 #[.bool up,.int .u64 (hz:Int),.slice wa2 ns.length wc2,.slice ea2 es.length ec2]):=⟨(HB1.out.kept (Za.alloc _ _ (fun _=>False)) id).kept HK3.out id,(Blk.new w2 _ _).kept HK3.out id⟩;have HR3:Hid (Row w3 5 1 (.slice wa ns.length wc) ns.length (ns.flatMap u8C)∧Row w3 5 1 (.slice wa2 ns.length wc2) ns.length (ns.flatMap u8C)∧Row w3 55 6 (.slice ea es.length ec) es.length (es.flatMap Zk)∧Za (fun _=>False) w w3):=⟨(((HR.out.2.1.kept (Za.alloc _ _ (fun _=>False)) (fun _ _=>id)).kept HR2.out.1 (fun _ _=>id)).kept (Za.alloc _ _ (fun _=>False)) (fun _ _=>id)).kept HK3.out (fun _ _=>id),(HR2.out.2.1.kept (Za.alloc _ _ (fun _=>False)) (fun _ _=>id)).kept HK3.out (fun _ _=>id),(((HR.out.2.2.1.kept (Za.alloc _ _ (fun _=>False)) (fun _ _=>id)).kept HR2.out.1 (fun _ _=>id)).kept (Za.alloc _ _ (fun _=>False)) (fun _ _=>id)).kept HK3.out (fun _ _=>id),(((HR.out.1.allocNew _).trans HR2.out.1 (fun _=>id) (fun _ _=>id)).allocNew _).trans HK3.out (fun _=>id) (fun _ _=>id)⟩;have t2:w3.cell? ⟨w1.heap.size,2,none⟩=some (.slice wa ns.length wc):=HB2.out.1.cell 2;have t3:w3.cell? ⟨w2.heap.size,2,none⟩=some (.slice wa2 ns.length wc2):=HB2.out.2.cell 2)
  |(go_at_call 51;refine(H3.out _ wa wc wa2 wc2 HR3.out.1 HR3.out.2.1).mono ?_;rintro e w4 ⟨rfl,HK4⟩;have HB4:Hid (Blk w4 w1.heap.size 102 #[.bool up,.int .u64 (hz:Int),.slice wa ns.length wc,.slice ea es.length ec]∧Blk w4 w2.heap.size 102 #[.bool up,.int .u64 (hz:Int),.slice wa2 ns.length wc2,.slice ea2 es.length ec2]):=⟨HB2.out.1.kept HK4.out id,HB2.out.2.kept HK4.out id⟩;have HR4:Hid (Row w4 5 1 (.slice wa ns.length wc) ns.length (ns.flatMap u8C)∧Row w4 55 6 (.slice ea es.length ec) es.length (es.flatMap Zk)∧Za (fun _=>False) w w4):=⟨HR3.out.1.kept HK4.out (fun _ _=>id),HR3.out.2.2.1.kept HK4.out (fun _ _=>id),HR3.out.2.2.2.trans HK4.out (fun _=>id) (fun _ _=>id)⟩;have u3:w4.cell? ⟨w1.heap.size,3,none⟩=some (.slice ea es.length ec):=HB4.out.1.cell 3)
 clear r2 r3 t2 t3 q1 q2 o1 o2
 go_region_with (go_at_call 42;refine(H4.out _ ea ec (HR4.out.2.1.kept ((Za.refl (fun _=>False) _).drewN _) (fun _ _=>id)) (HR4.out.2.2.drewN _)).mono ?_;rintro e w5 ⟨rfl,HE5⟩)
 all_goals
  obtain⟨v,hg⟩:=HE5.out;obtain⟨z1,z2,z3⟩:=H5.out _ _ v ea ec wa wc (HR4.out.2.2.drewN _) (HR4.out.2.1.kept ((Za.refl (fun _=>False) _).drewN _) (fun _ _=>id)) (HR4.out.1.kept ((Za.refl (fun _=>False) _).drewN _) (fun _ _=>id)) hg;have HB5:Hid (Blk w5 w1.heap.size 102 #[.bool up,.int .u64 (hz:Int),.slice wa ns.length wc,.slice ea es.length ec]∧Blk w5 w2.heap.size 102 #[.bool up,.int .u64 (hz:Int),.slice wa2 ns.length wc2,.slice ea2 es.length ec2]):=⟨z1 _ _ (HB4.out.1.same rfl),z1 _ _ (HB4.out.2.same rfl)⟩;have v2:w5.cell? ⟨w1.heap.size,2,none⟩=some (.slice wa ns.length wc):=HB5.out.1.cell 2;have HZ3:=hid z3;have HW5:=hid z2;have HG5:=hid hg;clear z1 z2 z3 hg HE5 u3
  go_wp2_with fail
  go_region_with (go_at_call 52;refine(HZ3.out _ ((Za.refl _ _).drewN _)).mono ?_;rintro e w6 ⟨rfl,HE6⟩)
  all_goals
   obtain⟨u,hg6,hb6⟩:=HE6.out;have e1:=hb6 _ _ HB5.out.1;have e2:=hb6 _ _ HB5.out.2;have x0:w6.cell? ⟨w1.heap.size,0,none⟩=some (.bool up):=e1.cell 0;have x1:w6.cell? ⟨w1.heap.size,1,none⟩=some (.int .u64 (hz:Int)):=e1.cell 1;have y0:w6.cell? ⟨w2.heap.size,0,none⟩=some (.bool up):=e2.cell 0;have y1:w6.cell? ⟨w2.heap.size,1,none⟩=some (.int .u64 (hz:Int)):=e2.cell 1;have HFIN:Hid (Ve w pb vps bv b1 b2 commits most bn vals cn cvals w6):=⟨w4.drewN _,w5.drewN _,v,u,.slice ea es.length ec,.slice wa ns.length wc,es.length,ns.length,es.flatMap Zk,ns.flatMap u8C,HLL.out.1,HLL.out.2,HR4.out.2.2.drewN _,HR4.out.2.1.kept ((Za.refl (fun _=>False) _).drewN _) (fun _ _=>id),HR.out.2.2.2.2,ZhU HG5.out _,HW5.out.kept ((Za.refl (fun _=>False) _).drewN _) (fun _ _=>id),HR.out.2.2.2.1,hg6⟩;clear e1 e2 hb6 hg6;go_wp2;go_ret;exact⟨Z6 (by simp),HFIN.out⟩
theorem Zcm {B:Nat}{X:Nat→Prop}{w0 w:World}{pb:Nat}{ps:List Z7}{vps b0 b1 b2:Value}{commits most:Int}(h:Inv B X w0 w pb ps vps b0 b1 b2 commits most)(kd a b c:Int)(s:ByteArray)(ao:Option Addr)(n cap:Nat)(hps:0<ps.length)(hpm:ps.length≤4611686018427387904)(h2:13≤kd)(h12:kd≤18)(ha0: -9223372036854775808≤a)(ha1:a≤9223372036854775807)(Q:World→Prop)
 (hrd:∀(W:World)(i:Nat)(p:Z7),ps[i]?=some p→Za (fun _=>False) w W→Calls Tryz.prog 17 #[.pointer (some ⟨pb,0,none⟩),.agg #[.pointer (some ⟨p.xb,0,none⟩),.pointer (some ⟨p.cb,0,none⟩)],.agg #[.int .i64 kd,.int .i64 a,.int .i64 b,.int .i64 c,.string s,.slice ao n cap]] W fun e w'=>e=.returned (.bool true)∧Hid (Q w')):
 Calls Tryz.prog 9 #[.pointer (some ⟨pb,0,none⟩),.agg #[.int .i64 kd,.int .i64 a,.int .i64 b,.int .i64 c,.string s,.slice ao n cap]] w fun e w'=>e=.returned (.bool true)∧Q w':=by
 have hk1:(kd==1)=false:=beq_eq_false_iff_ne.mpr (by omega);have hk2:(kd==2)=false:=beq_eq_false_iff_ne.mpr (by omega);have hk19:(kd==19)=false:=beq_eq_false_iff_ne.mpr (by omega);obtain⟨g,cv,hv,hog,hgl⟩:=h.row.block hps;have c0:w.cell? ⟨pb,0,none⟩=some vps:=h.blk.cell 0;rw[hv]at c0;have hpl:=h.blk.lt;obtain⟨m,hm⟩:∃m,m=ps.length:=⟨_,rfl⟩;obtain⟨j,hj⟩:∃j,j=pickN a m:=⟨_,rfl⟩;have hjm:j<m:=by rw[hj];exact ZaL a (by omega)
 have HPK:Hid (∀W,Calls Tryz.prog 13 #[.int .i64 a,.int .i64 m] W fun e w'=>e=.returned (.int .i64 (j:Int))∧W=w'):=fun W=>by rw[hj];exact ZgX W a m ha0 ha1 (by omega) (by omega)
 have hjp:j<ps.length:=by omega
 obtain⟨p,hp⟩:∃p,p=ps[j]:=⟨_,rfl⟩;have hget:ps[j]?=some p:=by rw[hp];exact List.getElem?_eq_getElem hjp
 have q0:=h.row.cell hog (j*2) _ (by have:=Vo ps j hjp 0 (by omega);rw[Nat.add_zero]at this;rw[this];rfl);have q1:=h.row.cell hog (j*2+1) _ (by rw[Vo ps j hjp 1 (by omega)];rfl);rw[←hp]at q0 q1;rw[←hm]at c0;have hmz:((m:Int)==0)=false:=beq_eq_false_iff_ne.mpr (by omega);have HRD:Hid (∀W,Za (fun _=>False) w W→Calls Tryz.prog 17 #[.pointer (some ⟨pb,0,none⟩),.agg #[.pointer (some ⟨p.xb,0,none⟩),.pointer (some ⟨p.cb,0,none⟩)],.agg #[.int .i64 kd,.int .i64 a,.int .i64 b,.int .i64 c,.string s,.slice ao n cap]] W fun e w'=>e=.returned (.bool true)∧Hid (Q w')):=
  fun W hk=>hrd W j p hget hk
 have hm1:m≤4611686018427387904:=by omega
 have hm0:0<m:=by omega
 generalize p.xb=xb at*
 generalize p.cb=cb at*
 clear hrd h hv hog hj hp hget hm hps hpm hjp;go_enter Tryz.func9,Tryz.ntmps9
 go_wp2_with fail
 go_cut [5] (fun pp wx=>pp=.pointer (some ⟨w.heap.size+1,0,none⟩)∧Hid (Za (fun _=>False) w wx∧Blk wx w.heap.size 37 #[.int .i64 kd,.int .i64 a,.int .i64 b,.int .i64 c,.string s,.slice ao n cap]∧Blk wx (w.heap.size+1) 44 #[.pointer (some ⟨xb,0,none⟩),.pointer (some ⟨cb,0,none⟩)]))
 case first=>
  go_region_held3 (fun w'=>w'.cell? ⟨pb,0,none⟩=some (.slice (some ⟨g,0,none⟩) m cv)∧w'.cell? ⟨w.heap.size,1,none⟩=some (.int .i64 a)∧w'.cell? ⟨g,j*2,none⟩=some (.pointer (some ⟨xb,0,none⟩))∧w'.cell? ⟨g,j*2+1,none⟩=some (.pointer (some ⟨cb,0,none⟩))) (go_keep) ((go_at_call 13;refine(HPK.out _).mono ?_;rintro e w' ⟨rfl,rfl⟩))
  all_goals
   go_wp2
   go_meet
   case rel=>exact⟨rfl,((Za.alloc w _ (fun _=>False)).allocNew _).drew,Zam w _ _ _ _ _ rfl⟩
 case rest=>
  obtain⟨rfl,HC⟩:=hcut;have d0:wc.cell? ⟨w.heap.size,0,none⟩=some (.int .i64 kd):=HC.out.2.1.cell 0;have d1:wc.cell? ⟨w.heap.size,1,none⟩=some (.int .i64 a):=HC.out.2.1.cell 1;have d2:wc.cell? ⟨w.heap.size,2,none⟩=some (.int .i64 b):=HC.out.2.1.cell 2;have d3:wc.cell? ⟨w.heap.size,3,none⟩=some (.int .i64 c):=HC.out.2.1.cell 3;have d4:wc.cell? ⟨w.heap.size,4,none⟩=some (.string s):=HC.out.2.1.cell 4;have d5:wc.cell? ⟨w.heap.size,5,none⟩=some (.slice ao n cap):=HC.out.2.1.cell 5;have e0:wc.cell? ⟨w.heap.size+1,0,none⟩=some (.pointer (some ⟨xb,0,none⟩)):=HC.out.2.2.cell 0;have e1:wc.cell? ⟨w.heap.size+1,1,none⟩=some (.pointer (some ⟨cb,0,none⟩)):=HC.out.2.2.cell 1;have hk7:decide (kd≤7)=false:=decide_eq_false (by omega);have hk12:decide (kd≤12)=false:=decide_eq_false (by omega);clear c0 q0 q1
  go_wp2_with (go_at_call 17;refine(HRD.out _ HC.out.1).mono ?_;rintro e w1 ⟨rfl,hs⟩)
  go_ret;exact⟨rfl,hs.out⟩
theorem Zep (w:World)(pb:Nat)(a b c:Int)(s:ByteArray)(ao:Option Addr)(n cap:Nat)(hs:s.size≤maxLen):
 Calls Tryz.prog 9 #[.pointer (some ⟨pb,0,none⟩),.agg #[.int .i64 19,.int .i64 a,.int .i64 b,.int .i64 c,.string s,.slice ao n cap]] w fun e w'=>e=.returned (.bool true)∧Za (fun _=>False) w w':=by
 have H0:Hid (∀W,Za (fun _=>False) w W→Calls Tryz.prog 12 #[.string s] W fun e w'=>e=.returned (.bool true)∧Hid (Za (fun _=>False) w w')):=fun W hW=>(Zf4 s W hs).mono fun e w' hp=>⟨hp.1,hW.trans (Za.of_below hp.2 (fun _=>False)) (fun _=>id) (fun _ _=>id)⟩;go_enter Tryz.func9,Tryz.ntmps9
 go_wp2_with (go_at_call 12;refine(H0.out _ (Za.alloc _ _ _)).mono ?_;rintro e w1 ⟨rfl,hs⟩)
 go_ret;exact⟨rfl,hs.out⟩
end Go.Proofs.YtpfcacedpkaihaaGreat
