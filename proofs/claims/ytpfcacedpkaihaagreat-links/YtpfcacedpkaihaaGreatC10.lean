import Derived.Deep.QuietTactic
import Derived.BigQuiet
import Derived.BigGuardPart
import Derived.Lib.Strings
import Derived.Test.YtpfcacedpkaihaaGreatC3
namespace Go.Proofs.YtpfcacedpkaihaaGreat
open Go.RowKit
set_option maxRecDepth 100000
set_option maxHeartbeats 16000000
theorem ZO {α β:Type}(C:α→List β)(s:Nat)(hs:∀x,(C x).length=s)(l:List α)(j:Nat)(hj:j<l.length)(f:Nat)(hf:f<s):(l.flatMap C)[j*s+f]?=(C l[j])[f]? :=by
 induction l generalizing j with
 |nil=>simp at hj
 |cons x r ih=>
  match j with
  |0=>simp only[List.flatMap_cons,Nat.zero_mul,Nat.zero_add,List.getElem_cons_zero];rw[List.getElem?_append_left (by rw[hs];exact hf)]
  |j+1=>
   have e:(j+1)*s+f=s+(j*s+f):=by rw[Nat.add_mul];omega
   simp only[List.flatMap_cons,List.getElem_cons_succ];rw[e,List.getElem?_append_right (by rw[hs];omega),hs,Nat.add_sub_cancel_left];exact ih j (by simpa using hj)
theorem Zt {α β:Type}(C:α→List β)(s:Nat)(hs:∀x,(C x).length=s)(l:List α)(j:Nat)(hj:j<l.length)(f:Nat)(hf:f<s)(v:β)(y:α)(hy:C y=(C l[j]).set f v):
 (l.flatMap C).set (j*s+f) v=(l.set j y).flatMap C:=by
 induction l generalizing j with
 |nil=>simp at hj
 |cons x r ih=>
  match j with
  |0=>
   simp only[List.getElem_cons_zero]at hy;simp only[List.flatMap_cons,Nat.zero_mul,Nat.zero_add,List.set_cons_zero,hy];rw[List.set_append_left _ _ (by rw[hs];exact hf)]
  |j+1=>
   have e:(j+1)*s+f=s+(j*s+f):=by rw[Nat.add_mul];omega
   simp only[List.flatMap_cons,List.set_cons_succ];rw[e,List.set_append_right _ _ (by rw[hs];omega),hs,Nat.add_sub_cancel_left];rw[ih j (by simpa using hj) (by simpa using hy)]
theorem YJ {α β:Type}(C:α→List β)(s:Nat)(hs:∀x,(C x).length=s)(l:List α):(l.flatMap C).length=l.length*s:=by
 induction l with
 |nil=>simp
 |cons x r ih=>simp only[List.flatMap_cons,List.length_append,hs,ih,List.length_cons,Nat.add_mul];omega
structure Zj where
 st:Nat→Int
 keys:Int
 tick:Int
def Zx (p:Zj):List Value:=[.int .i32 (p.st 0),.int .i32 (p.st 1),.int .i32 (p.st 2),.int .i32 (p.st 3),.int .i32 (p.st 4),.int .i32 (p.st 5),.int .i32 (p.st 6),.int .i32 (p.st 7),.int .u8 p.keys,.int .i64 p.tick]
structure Zh where
 q:ByteArray
 val:Int
 fr:Nat
 till:Nat
 op:Bool
 kn:Nat
def Zk (e:Zh):List Value:=[.string e.q,.int .i32 e.val,.int .u64 (e.fr:Int),.int .u64 (e.till:Int),.bool e.op,.int .u64 (e.kn:Int)]
def ZL (l:List Nat):List Value:=l.map fun t:Nat=>Value.int .u64 (t:Int)
def ZQ (l:List Int):List Value:=l.map fun t:Int=>Value.int .i64 t
structure Yw where
 T:TypeId
 size:Nat
 v:Value
 n:Nat
 xs:List Value
def Yw.Is (w:World)(r:Yw):Prop:=Row w r.T r.size r.v r.n r.xs
structure Vb (w:World)(l:List Yw):Prop where
 row:∀r∈l,r.Is w
 sep:∀(i j:Nat)(a c:Yw),l[i]?=some a→l[j]?=some c→i≠j→∀k,a.v.ownBlock=some k→c.v.ownBlock≠some k
theorem Vb.same {w w':World}{l:List Yw}(h:Vb w l)(hs:∀k,(∃r∈l,r.v.ownBlock=some k)→w'.heap[k]?=w.heap[k]?):Vb w' l:=
 ⟨fun r hr=>(h.row r hr).same fun k hk=>hs k ⟨r,hr,hk⟩,h.sep⟩
theorem Vb.kept {w w':World}{F:Nat→Prop}{l:List Yw}(h:Vb w l)(k:Za F w w')(hF:∀j,(∃r∈l,r.v.ownBlock=some j)→¬F j):Vb w' l:=
 h.same fun j hj=>by obtain⟨r,hr,hj'⟩:=hj;exact k.block j ((h.row r hr).lt j hj') (hF j ⟨r,hr,hj'⟩)
theorem Vb.put {w w':World}{l:List Yw}(h:Vb w l)(i:Nat)(r r':Yw)(hi:l[i]?=some r)(k:Za (fun j=>r.v.ownBlock=some j) w w')(hr:r'.Is w')
 (hown:∀x,r'.v.ownBlock=some x→r.v.ownBlock=some x∨w.heap.size≤x):Vb w' (l.set i r'):=by
 have hlt:=(List.getElem?_eq_some_iff.mp hi).1;have far:∀(j:Nat)(a:Yw),l[j]?=some a→j≠i→∀x,r'.v.ownBlock=some x→a.v.ownBlock≠some x:=by
  intro j a ha hj x hx he;rcases hown x hx with h1|h1
  · exact h.sep j i a r ha hi hj x he h1
  · have:=(h.row a (List.mem_of_getElem? ha)).lt x he;omega
 refine⟨fun a ha=> ?_,fun p q a c hp hq hpq x hx=> ?_⟩
 · obtain⟨j,hj⟩:=List.getElem?_of_mem ha;rw[List.getElem?_set]at hj;by_cases e:i=j
   · rw[if_pos e,if_pos hlt]at hj;injection hj with hj;subst hj;exact hr
   · rw[if_neg e]at hj;exact(h.row a (List.mem_of_getElem? hj)).kept k fun x hx he=>h.sep j i a r hj hi (fun z=>e z.symm) x hx he
 · rw[List.getElem?_set]at hp hq;by_cases ep:i=p
   · rw[if_pos ep,if_pos hlt]at hp;injection hp with hp;subst hp;rw[if_neg (by omega)]at hq;exact far q c hq (by omega) x hx
   · rw[if_neg ep]at hp;by_cases eq:i=q
     · rw[if_pos eq,if_pos hlt]at hq;injection hq with hq;subst hq;intro he;exact far p a hp (by omega) x he hx
     · rw[if_neg eq]at hq;exact h.sep p q a c hp hq hpq x hx
theorem Vk (l:List Zj)(j:Nat)(hj:j<l.length)(f:Nat)(hf:f<10):(l.flatMap Zx)[j*10+f]?=(Zx l[j])[f]? :=ZO Zx 10 (fun _=>rfl) l j hj f hf
theorem XZ {k:IntKind}{a b:Int}(h:a=b):Ending.returned (.int k a)=.returned (.int k b):=by rw[h]
theorem Z6 {a b:Bool}(h:a=b):Ending.returned (.bool a)=.returned (.bool b):=by rw[h]
theorem Za.drewN {F:Nat→Prop}{w w':World}(h:Za F w w')(n:Nat):Za F w (w'.drewN n):=⟨h.os,h.tape,h.output,h.size,h.block⟩
structure Wr (w:World)(ao:Option Addr)(n:Nat)(ws:List (Int×Int)):Prop where
 len:ws.length=n
 cell:∀j (h:j<ws.length),∃bl off,ao=some ⟨bl,off,none⟩∧w.cell? ⟨bl,off+j*2,none⟩=some (.int .i64 ws[j].1)∧w.cell? ⟨bl,off+j*2+1,none⟩=some (.int .i32 ws[j].2)
theorem Wr.kept {w w':World}{F:Nat→Prop}{ao:Option Addr}{n:Nat}{ws:List (Int×Int)}(h:Wr w ao n ws)(k:Za F w w')(hF:∀a,ao=some a→¬F a.block):Wr w' ao n ws:=by
 refine⟨h.len,fun j hj=> ?_⟩;obtain⟨bl,off,e,c1,c2⟩:=h.cell j hj;have hlt:bl<w.heap.size:=World.block_lt_of_cell? w _ c1;have hb:=k.block bl hlt (hF _ e);exact⟨bl,off,e,(World.cell?_of_block (a:=⟨bl,off+j*2,none⟩) hb).trans c1,(World.cell?_of_block (a:=⟨bl,off+j*2+1,none⟩) hb).trans c2⟩
def Yl (x:Int×Int):Bool:=decide (0≤x.1)&&decide (x.1<8)
def bit1 (k:Nat):Int:=(2:Int)^k%256
def Vx (p:Zj)(x:Int×Int):Zj:={p with st:=fun i=>if i=x.1.toNat then x.2 else p.st i,keys:=bits .or .u8 p.keys (bit1 x.1.toNat)}
def Yd (p:Zj)(ws:List (Int×Int)):Zj:=ws.foldl Vx p
theorem ZaH (p:Zj)(ws:List (Int×Int))(j:Nat)(h:j<ws.length):Yd p (ws.take (j+1))=Vx (Yd p (ws.take j)) ws[j]:=by
 rw[Yd,List.take_succ_eq_append_getElem h,List.foldl_append];rfl
def ZU (past:List Zj)(K:Int)(f:Nat):Bool:=match past[f]? with
 |some p=>bits .and .u8 p.keys K !=0
 |none=>false
def fromN (past:List Zj)(K:Int):Nat→Nat
 |0=>0
 |f+1=>if ZU past K (f+1)then f+1 else fromN past K f
def Yg (past:List Zj)(K:Int):Nat→Option Nat
 |0=>none
 |n+1=>if ZU past K (past.length-1-n)then some (past.length-1-n)else Yg past K n
theorem ZbW (past:List Zj)(K:Int)(t:Nat):fromN past K t≤t:=by
 induction t with
 |zero=>simp[fromN]
 |succ f ih=>simp only[fromN];split<;>omega
def Uf (past:List Zj)(q:ByteArray)(K val:Int)(t:Nat):Zh:=
 {q:=q,val:=val,fr:=fromN past K t,till:=(Yg past K (past.length-1-t)).getD 0,op:=(Yg past K (past.length-1-t)).isNone,kn:=past.length-1}
def Z8 (e:Zh):Array Value:=#[.string e.q,.int .i32 e.val,.int .u64 (e.fr:Int),.int .u64 (e.till:Int),.bool e.op,.int .u64 (e.kn:Int)]
def Zbk :Array Value:=#[.string ⟨#[]⟩,.int .i32 0,.int .u64 0,.int .u64 0,.bool false,.int .u64 0]
theorem Xb {past:List Zj}{f:Nat}{p:Zj}(K:Int)(h:past[f]?=some p):ZU past K f=(bits .and .u8 p.keys K !=0):=by simp[ZU,h]
theorem Za.hold {w w':World}(h:Za (fun _=>False) w w'){a:Addr}{v:Value}(hc:w.cell? a=some v):w'.cell? a=some v:=
 (World.cell?_of_block (h.block a.block (World.block_lt_of_cell? w _ hc) id)).trans hc
def lastE (e:Zh)(hz:Nat):Nat:=if e.op then max e.kn hz else e.till-1
def Xq (hz:Nat)(q:ByteArray)(lo hi:Nat)(e:Zh):Prop:=e.q=q∧max lo e.fr≤min hi (lastE e hz)
instance (hz:Nat)(q:ByteArray)(lo hi:Nat)(e:Zh):Decidable (Xq hz q lo hi e):=inferInstanceAs (Decidable (_∧_))
def Xz (up:Bool)(hz:Nat)(q:ByteArray)(lo hi:Nat)(l:List Zh):Nat→Int
 |0=> -1
 |n+1=>match l[n]? with
  |some x=>if up=true∧Xq hz q lo hi x∧(Xz up hz q lo hi l n<0∨∃y,l[(Xz up hz q lo hi l n).toNat]?=some y∧y.fr<x.fr)then(n:Int)else Xz up hz q lo hi l n
  |none=>Xz up hz q lo hi l n
theorem ZbI (up:Bool)(hz:Nat)(q:ByteArray)(lo hi:Nat)(l:List Zh)(n:Nat): -1≤Xz up hz q lo hi l n∧Xz up hz q lo hi l n<(n:Int):=by
 induction n with
 |zero=>simp[Xz]
 |succ n ih=>
  simp only[Xz]
  split
  · split<;>omega
  · omega
theorem Zg {w:World}{o:Obj}{a:Addr}{v:Value}(h:w.cell? a=some v):(w.alloc o).cell? a=some v:=(Za.alloc w o (fun _=>False)).hold h
theorem ZeO {w:World}{g f b o:Nat}{v v':Value}(hb:b<g)(h:w.cell? ⟨b,o,none⟩=some v):(w.setCell ⟨g,f,none⟩ v').cell? ⟨b,o,none⟩=some v:=
 (World.cell?_of_block (a:=⟨b,o,none⟩) ((Za.setCell w ⟨g,f,none⟩ v').block b (World.block_lt_of_cell? w _ h) (by simp only;omega))).trans h
theorem Zo {w:World}{g b o:Nat}{v u u':Value}(hb:b<g)(h:w.cell? ⟨b,o,none⟩=some v):((w.setCell ⟨g,0,none⟩ u).setCell ⟨g,1,none⟩ u').cell? ⟨b,o,none⟩=some v:=ZeO hb (ZeO hb h)
theorem ZgJ {w w':World}{o:Obj}(h:(w.alloc o).heap.size≤w'.heap.size):w.heap.size<w'.heap.size:=by simp at h;omega
theorem Zbf {W W1 wa Wa wb Wb:World}(h0:Za (fun _=>False) W W1)(ha:Za (fun _=>False) W1 wa)(h1:Za (fun _=>False) wa Wa)(hb:Za (fun _=>False) Wa wb)(h2:Za (fun k=>W.heap.size≤k) wb Wb):Za (fun _=>False) W Wb:=by
 have hk:=((h0.trans ha (H:=fun _=>False) (fun _=>id) (fun _ _=>id)).trans h1 (H:=fun _=>False) (fun _=>id) (fun _ _=>id)).trans hb (H:=fun _=>False) (fun _=>id) (fun _ _=>id);exact hk.trans h2 (fun _=>id) (fun k hk hf=>by omega)
theorem Xw {W w:World}{g:Nat}{u u':Value}(h:W.heap.size≤g):Za (fun k=>W.heap.size≤k) w ((w.setCell ⟨g,0,none⟩ u).setCell ⟨g,1,none⟩ u'):=
 ((Za.setCell w ⟨g,0,none⟩ u).trans (Za.setCell _ ⟨g,1,none⟩ u') (H:=fun k=>k=g) (fun _=>id) (fun _ _=>id)).mono fun k hk=>by omega
theorem XU {a b:ByteArray}(h:a.toList=b.toList):a=b:=by
 rw[Lib.toList_data,Lib.toList_data]at h;cases a;cases b;exact congrArg ByteArray.mk (Array.ext' h)
def Zh.Fit (e:Zh):Prop:=(e.op=false→1≤e.till)∧e.till≤701∧e.kn≤700
theorem ZgV (w:World)(a b c:Obj):Za (fun _=>False) w (((w.alloc a).alloc b).alloc c):=
 ((Za.alloc w a (fun _=>False)).trans (Za.alloc _ b (fun _=>False)) (fun _=>id) (fun _ _=>id)).trans (Za.alloc _ c (fun _=>False)) (fun _=>id) (fun _ _=>id)
def ZT (x p:Zh):Zh:=
 {x with op:=x.op&&p.op,till:=if x.op&& !p.op then p.till else x.till,kn:=max x.kn p.kn}
def Z0 (x p:Zh):Prop:=x.q=p.q∧x.fr=p.fr
instance (x p:Zh):Decidable (Z0 x p):=inferInstanceAs (Decidable (_∧_))
theorem XT {α:Type}{l:List α}{j:Nat}{x:α}(h:l[j]?=some x):l.set j x=l:=by
 refine List.ext_getElem? fun i=> ?_;rw[List.getElem?_set]
 split
 · rename_i e
   subst e;rw[if_pos (List.getElem?_eq_some_iff.mp h).1,h]
 · rfl
theorem Zc.of_alloc {w w':World}{o:Obj}{e:TypeId}{size:Nat}{v v':Value}{n m:Nat}{xs news:List Value}(h:Zc (w.alloc o) w' e size v v' n m xs news):Zc w w' e size v v' n m xs news:=by
 refine⟨h.row,(Za.alloc w o (fun _=>False)).trans h.kept (fun _=>False.elim) (fun _ _=>id),h.own.imp id fun hh k hk=> ?_⟩;have:=hh k hk;simp at this;omega
def zeroP :Zj:=⟨fun _=>0,0,0⟩
def ZH :Value:=.slice none 0 0
theorem ZbQ {w:World}{l:List Yw}(h:∀r∈l,r.v=.slice none 0 0∧r.n=0∧r.xs=[]):Vb w l:=by
 refine⟨fun r hr=> ?_,fun i j a c hi _ _ k hk=> ?_⟩
 · obtain⟨h1,h2,h3⟩:=h r hr;show Row w r.T r.size r.v r.n r.xs;rw[h1,h2,h3];exact Row.nil _ _ _
 · rw[(h a (List.mem_of_getElem? hi)).1]at hk;simp[Value.ownBlock]at hk
theorem Vb.more {w:World}{l l2:List Yw}(h:Vb w l)(h2:∀r∈l2,r.v=.slice none 0 0∧r.n=0∧r.xs=[]):Vb w (l++l2):=by
 have hn:=ZbQ (w:=w) h2;refine⟨fun r hr=> ?_,fun i j a c hi hj hij k hk=> ?_⟩
 · rcases List.mem_append.mp hr with hr|hr
   · exact h.row r hr
   · exact hn.row r hr
 · by_cases ei:i<l.length
   · rw[List.getElem?_append_left ei]at hi;by_cases ej:j<l.length
     · rw[List.getElem?_append_left ej]at hj;exact h.sep i j a c hi hj hij k hk
     · rw[List.getElem?_append_right (by omega)]at hj;rw[(h2 c (List.mem_of_getElem? hj)).1];simp[Value.ownBlock]
   · rw[List.getElem?_append_right (by omega)]at hi;rw[(h2 a (List.mem_of_getElem? hi)).1]at hk;simp[Value.ownBlock]at hk
theorem Za.keep {F:Nat→Prop}{w w':World}(h:Za F w w'){a:Addr}{v:Value}(hb:¬F a.block)(hc:w.cell? a=some v):w'.cell? a=some v:=
 (World.cell?_of_block (h.block a.block (World.block_lt_of_cell? w _ hc) hb)).trans hc
theorem Za.setNew {w wr:World}(h:Za (fun _=>False) w wr)(b o:Nat)(v:Value)(hb:w.heap.size≤b):Za (fun _=>False) w (wr.setCell ⟨b,o,none⟩ v):=
 h.trans (Za.setCell wr ⟨b,o,none⟩ v) (fun _=>id) (fun i hi he=>by simp at he;omega)
theorem Za.allocNew {F:Nat→Prop}{w wr:World}(h:Za F w wr)(o:Obj):Za F w (wr.alloc o):=
 h.trans (Za.alloc wr o (fun _=>False)) (fun _=>id) (fun _ _=>False.elim)
theorem Tryz.infoEntry :(Tryz.prog.info? 55).map (fun i=>(i.zero,i.size,i.bytes))=some (some (.agg #[.string ByteArray.empty,.int .i32 0,.int .u64 0,.int .u64 0,.bool false,.int .u64 0]),6,56):=by kernel_rfl
theorem Y9 (l:List Zh):∀u∈l.flatMap Zk,u.oneCell'=true:=by
 intro u hu;simp[Zk]at hu;obtain⟨a,_,rfl|rfl|rfl|rfl|rfl|rfl⟩:=hu<;>rfl
theorem Zjh (l:List Zh)(j:Nat)(hj:j<l.length)(f:Nat)(hf:f<6):(l.flatMap Zk)[j*6+f]?=(Zk l[j])[f]? :=ZO Zk 6 (fun _=>rfl) l j hj f hf
def Zb2 (w:World)(g o:Nat)(e:Zh):Prop:=
 w.cell? ⟨g,o,none⟩=some (.string e.q)∧w.cell? ⟨g,o+1,none⟩=some (.int .i32 e.val)∧w.cell? ⟨g,o+2,none⟩=some (.int .u64 (e.fr:Int))∧w.cell? ⟨g,o+3,none⟩=some (.int .u64 (e.till:Int))∧w.cell? ⟨g,o+4,none⟩=some (.bool e.op)∧w.cell? ⟨g,o+5,none⟩=some (.int .u64 (e.kn:Int))
theorem Row.entAt {w:World}{v:Value}{l:List Zh}(h:Row w 55 6 v l.length (l.flatMap Zk))(j:Nat)(hj:j<l.length):∃g cap,v=.slice (some ⟨g,0,none⟩) l.length cap∧g<w.heap.size∧Zb2 w g (j*6) l[j]:=by
 obtain⟨g,cap,hv,ho,hg⟩:=h.block (by omega);have hc:∀f,f<6→∀u,(Zk l[j])[f]?=some u→w.cell? ⟨g,j*6+f,none⟩=some u:=fun f hf u hu=>h.cell ho _ u (by rw[Zjh l j hj f hf];exact hu);exact⟨g,cap,hv,hg,hc 0 (by omega) _ rfl,hc 1 (by omega) _ rfl,hc 2 (by omega) _ rfl,hc 3 (by omega) _ rfl,hc 4 (by omega) _ rfl,hc 5 (by omega) _ rfl⟩
theorem Zb2.same {w w':World}{g o:Nat}{e:Zh}(h:Zb2 w g o e)(hs:w'.heap[g]?=w.heap[g]?):Zb2 w' g o e:=by
 obtain⟨a0,a1,a2,a3,a4,a5⟩:=h;exact⟨(World.cell?_of_block (a:=⟨g,o,none⟩) hs).trans a0,(World.cell?_of_block (a:=⟨g,o+1,none⟩) hs).trans a1,(World.cell?_of_block (a:=⟨g,o+2,none⟩) hs).trans a2,(World.cell?_of_block (a:=⟨g,o+3,none⟩) hs).trans a3,(World.cell?_of_block (a:=⟨g,o+4,none⟩) hs).trans a4,(World.cell?_of_block (a:=⟨g,o+5,none⟩) hs).trans a5⟩
theorem Zds {l:List Zj}{K:Int}:∀n,n≤l.length-1→(∀s,l.length-1-n<s→s≤l.length-1→ZU l K s=false)→Yg l K n=none
 |0,_,_=>rfl
 |n+1,hn,h=>by
  have h1:=h (l.length-1-n) (by omega) (by omega);simp only[Yg,h1];exact Zds n (by omega) fun s hs1 hs2=>h s (by omega) hs2
theorem ZcY {l:List Zj}{K:Int}{s:Nat}:∀n,n≤l.length-1→l.length-1-n<s→s≤l.length-1→ZU l K s=true→(∀r,l.length-1-n<r→r<s→ZU l K r=false)→Yg l K n=some s
 |0,_,h1,h2,_,_=>by omega
 |n+1,hn,h1,h2,ht,h=>by
  by_cases e:s=l.length-1-n
  · subst e;simp only[Yg,ht,if_true]
  · have h3:=h (l.length-1-n) (by omega) (by omega);simp only[Yg,h3];exact ZcY n (by omega) (by omega) h2 ht fun r hr1 hr2=>h r (by omega) hr2
theorem Zcr {l:List Zj}{K:Int}{k t:Nat}(hk:k+1≤t):fromN l K (min (k+1) t)=if ZU l K (k+1)then k+1 else fromN l K (min k t):=by
 have e1:min (k+1) t=k+1:=by omega
 have e2:min k t=k:=by omega
 rw[e1,e2];rfl
theorem Zgo {l:List Zj}{K:Int}{k t:Nat}(hk:t<k+1):fromN l K (min (k+1) t)=fromN l K (min k t):=by
 have e1:min (k+1) t=t:=by omega
 have e2:min k t=t:=by omega
 rw[e1,e2]
def YZ (l:List UInt8):Nat:=l.foldl (fun s c=>s+c.toNat) 0
theorem Za0 (l:List UInt8)(j:Nat)(h:j<l.length):YZ (l.take (j+1))=YZ (l.take j)+l[j].toNat:=by
 rw[YZ,List.take_succ_eq_append_getElem h,List.foldl_append];rfl
theorem ZgO (l:List UInt8)(j:Nat)(hj:j≤l.length):YZ (l.take j)≤255*j:=by
 induction j with
 |zero=>simp[YZ]
 |succ k ih=>
  have h1:=ih (by omega);rw[Za0 l k (by omega)];have h2:(l[k]'(by omega)).toNat<256:=UInt8.toNat_lt _;omega
structure Yj where
 lo:Nat
 hi:Nat
 ended:Bool
def YO (r:Yj):List Value:=[.int .u64 (r.lo:Int),.int .u64 (r.hi:Int),.bool r.ended]
def YH (l:List Yj):Nat:=(l.filter fun x=> !x.ended).length
structure Zi where
 up:Bool
 since:Nat
 horizon:Nat
 fl:Value
 wt:Value
 en:Value
 nm:Value
 fls:List Nat
 wts:List Nat
 ents:List Zh
 nms:List Int
def nodeC (n:Zi):List Value:=[.bool n.up,.int .u64 (n.since:Int),.int .u64 (n.horizon:Int),n.fl,n.wt,n.en,n.nm]
structure Zd where
 past:List Zj
 clock:Int
 rdrs:List Yj
 nodes:List Zi
 room:Int
 next:Int
 puts:List Zh
 uses:List Int
 vp:Value
 vr:Value
 vn:Value
 vu:Value
 vs:Value
def Z3 (nd:Zi):List Yw:=[⟨53,1,nd.fl,nd.fls.length,ZL nd.fls⟩,⟨53,1,nd.wt,nd.wts.length,ZL nd.wts⟩,⟨55,6,nd.en,nd.ents.length,nd.ents.flatMap Zk⟩,⟨3,1,nd.nm,nd.nms.length,ZQ nd.nms⟩]
def Zd.rows (R:Zd):List Yw:=
 ⟨143,10,R.vp,R.past.length,R.past.flatMap Zx⟩::⟨162,3,R.vr,R.rdrs.length,R.rdrs.flatMap YO⟩::⟨146,7,R.vn,R.nodes.length,R.nodes.flatMap nodeC⟩::
  ⟨55,6,R.vu,R.puts.length,R.puts.flatMap Zk⟩::⟨3,1,R.vs,R.uses.length,ZQ R.uses⟩::R.nodes.flatMap Z3
structure Ref (w:World)(b:Nat)(R:Zd):Prop where
 blk:Blk w b 84 #[R.vp,.int .i64 R.clock,R.vr,R.vn,.int .i64 R.room,R.vu,R.vs,.int .i64 R.next]
 all:Vb w R.rows
theorem Vw {R:Zd}{r:Yw}(h:r∈R.rows):r.T≠84:=by
 simp only[Zd.rows,List.mem_cons,List.mem_flatMap,Z3,List.not_mem_nil,or_false]at h;rcases h with rfl|rfl|rfl|rfl|rfl|⟨nd,_,rfl|rfl|rfl|rfl⟩<;>(dsimp only;decide)
theorem Ref.past {w:World}{b:Nat}{R:Zd}(h:Ref w b R):Row w 143 10 R.vp R.past.length (R.past.flatMap Zx):=h.all.row _ (List.mem_of_getElem? (i:=0) rfl)
theorem Ref.rdrs {w:World}{b:Nat}{R:Zd}(h:Ref w b R):Row w 162 3 R.vr R.rdrs.length (R.rdrs.flatMap YO):=h.all.row _ (List.mem_of_getElem? (i:=1) rfl)
theorem Ref.nodes {w:World}{b:Nat}{R:Zd}(h:Ref w b R):Row w 146 7 R.vn R.nodes.length (R.nodes.flatMap nodeC):=h.all.row _ (List.mem_of_getElem? (i:=2) rfl)
theorem Ref.puts {w:World}{b:Nat}{R:Zd}(h:Ref w b R):Row w 55 6 R.vu R.puts.length (R.puts.flatMap Zk):=h.all.row _ (List.mem_of_getElem? (i:=3) rfl)
theorem Ref.uses {w:World}{b:Nat}{R:Zd}(h:Ref w b R):Row w 3 1 R.vs R.uses.length (ZQ R.uses):=h.all.row _ (List.mem_of_getElem? (i:=4) rfl)
theorem YG {R:Zd}{nd:Zi}{r:Yw}(hn:nd∈R.nodes)(hr:r∈Z3 nd):r∈R.rows:=by
 simp only[Zd.rows,List.mem_cons,List.mem_flatMap];exact .inr (.inr (.inr (.inr (.inr ⟨nd,hn,hr⟩))))
theorem Ref.fls {w:World}{b:Nat}{R:Zd}(h:Ref w b R):∀nd∈R.nodes,Row w 53 1 nd.fl nd.fls.length (ZL nd.fls):=fun _ hn=>h.all.row ⟨_,_,_,_,_⟩ (YG hn (List.mem_of_getElem? (i:=0) rfl))
theorem Ref.wts {w:World}{b:Nat}{R:Zd}(h:Ref w b R):∀nd∈R.nodes,Row w 53 1 nd.wt nd.wts.length (ZL nd.wts):=fun _ hn=>h.all.row ⟨_,_,_,_,_⟩ (YG hn (List.mem_of_getElem? (i:=1) rfl))
theorem Ref.ents {w:World}{b:Nat}{R:Zd}(h:Ref w b R):∀nd∈R.nodes,Row w 55 6 nd.en nd.ents.length (nd.ents.flatMap Zk):=fun _ hn=>h.all.row ⟨_,_,_,_,_⟩ (YG hn (List.mem_of_getElem? (i:=2) rfl))
theorem Ref.nms {w:World}{b:Nat}{R:Zd}(h:Ref w b R):∀nd∈R.nodes,Row w 3 1 nd.nm nd.nms.length (ZQ nd.nms):=fun _ hn=>h.all.row ⟨_,_,_,_,_⟩ (YG hn (List.mem_of_getElem? (i:=3) rfl))
structure Zd.Fit (R:Zd):Prop where
 pos:0<R.past.length
 pmax:R.past.length≤701
 clk0:0≤R.clock
 clk1:R.clock≤100000
 rmax:R.rdrs.length≤200
 npos:0<R.nodes.length
 nmax:R.nodes.length≤3
 fmax:∀nd∈R.nodes,nd.fls.length≤12∧nd.horizon≤700∧∀t∈nd.fls,t≤700
def Zd.fp (R:Zd)(b:Nat)(k:Nat):Prop:=k=b∨∃r∈R.rows,r.v.ownBlock=some k
theorem ZiY {R:Zd}{b k:Nat}(h:R.vp.ownBlock=some k):R.fp b k:=.inr ⟨_,List.mem_of_getElem? (i:=0) rfl,h⟩
theorem Zbr {R:Zd}{b k:Nat}(h:R.vr.ownBlock=some k):R.fp b k:=.inr ⟨_,List.mem_of_getElem? (i:=1) rfl,h⟩
theorem Ue {R:Zd}{b k:Nat}(h:R.vn.ownBlock=some k):R.fp b k:=.inr ⟨_,List.mem_of_getElem? (i:=2) rfl,h⟩
theorem Ref.lt {w:World}{b:Nat}{R:Zd}(h:Ref w b R):∀k,R.fp b k→k<w.heap.size:=by
 rintro k (rfl|⟨r,hr,hk⟩)
 · exact h.blk.lt
 · exact(h.all.row r hr).lt k hk
theorem Ref.ne {w:World}{b:Nat}{R:Zd}(h:Ref w b R):∀r∈R.rows,r.v.ownBlock≠some b:=fun r hr=>(h.all.row r hr).ne_block h.blk (Vw hr)
theorem Ref.same {w w':World}{b:Nat}{R:Zd}(h:Ref w b R)(hs:∀k,R.fp b k→w'.heap[k]?=w.heap[k]?):Ref w' b R:=
 ⟨h.blk.same (hs b (.inl rfl)),h.all.same fun k hk=>hs k (.inr hk)⟩
theorem Ref.kept {w w':World}{F:Nat→Prop}{b:Nat}{R:Zd}(h:Ref w b R)(k:Za F w w')(hF:∀j,R.fp b j→¬F j):Ref w' b R:=
 h.same fun j hj=>k.block j (h.lt j hj) (hF j hj)
theorem Ref.put {w w':World}{b:Nat}{R R':Zd}(h:Ref w b R)(i f:Nat)(r r':Yw)(hi:R.rows[i]?=some r)(k:Za (fun j=>r.v.ownBlock=some j) w w')(hr:r'.Is w')
 (hown:∀x,r'.v.ownBlock=some x→r.v.ownBlock=some x∨w.heap.size≤x) (hrows:R'.rows=R.rows.set i r') (hT:r'.T≠84)
 (hblk:(#[R.vp,.int .i64 R.clock,R.vr,R.vn,.int .i64 R.room,R.vu,R.vs,.int .i64 R.next]:Array Value).setIfInBounds f r'.v=#[R'.vp,.int .i64 R'.clock,R'.vr,R'.vn,.int .i64 R'.room,R'.vu,R'.vs,.int .i64 R'.next]):
 Ref (w'.setCell ⟨b,f,none⟩ r'.v) b R'∧Za (R.fp b) w (w'.setCell ⟨b,f,none⟩ r'.v)∧(∀x,R'.fp b x→R.fp b x∨w.heap.size≤x):=by
 have hm:r∈R.rows:=List.mem_of_getElem? hi;have blk1:=h.blk.kept k fun he=>h.ne r hm he;have all1:=h.all.put i r r' hi k hr hown;have k2:=Za.setCell w' ⟨b,f,none⟩ r'.v;refine⟨⟨?_,?_⟩,k.trans k2 (fun x hx=>.inr ⟨r,hm,hx⟩) (fun x _ hx=>.inl hx),?_⟩
 · rw[←hblk];exact blk1.set f _
 · rw[hrows];refine all1.kept k2 ?_;rintro j ⟨a,ha,hj⟩ he;subst he;rcases List.mem_or_eq_of_mem_set ha with ha'|rfl
   · exact(all1.row a ha).ne_block blk1 (Vw ha') hj
   · exact Row.ne_block hr blk1 hT hj
 · rintro x (rfl|⟨a,ha,hx⟩)
   · exact .inl (.inl rfl)
   · rw[hrows]at ha;rcases List.mem_or_eq_of_mem_set ha with ha|rfl
     · exact .inl (.inr ⟨a,ha,hx⟩)
     · exact(hown x hx).imp (fun hh=>.inr ⟨r,hm,hh⟩) id
theorem Ref.turn {w w':World}{b:Nat}{R R':Zd}(h:Ref w b R)(i:Nat)(r r':Yw)(hi:R.rows[i]?=some r)(k:Za (fun j=>r.v.ownBlock=some j) w w')(hr:r'.Is w')(hv:r'.v=r.v)(hrows:R'.rows=R.rows.set i r')
 (hblk:#[R.vp,.int .i64 R.clock,R.vr,R.vn,.int .i64 R.room,R.vu,R.vs,.int .i64 R.next]=#[R'.vp,.int .i64 R'.clock,R'.vr,R'.vn,.int .i64 R'.room,R'.vu,R'.vs,.int .i64 R'.next]):Ref w' b R':=
 ⟨by rw[←hblk];exact h.blk.kept k fun he=>h.ne r (List.mem_of_getElem? hi) he,by rw[hrows];exact h.all.put i r r' hi k hr fun x hx=>.inl (by rw[←hv];exact hx)⟩
def Zd.putN (R:Zd)(k:Nat)(nd:Zi):Zd:={R with nodes:=R.nodes.set k nd}
def Zd.nodeD (R:Zd):Yw:=⟨146,7,R.vn,R.nodes.length,R.nodes.flatMap nodeC⟩
theorem Vt {R:Zd}{k:Nat}{nd:Zi}(hnd:R.nodes[k]?=some nd)(f:Nat)(hf:f<4):R.rows[(k*4+f)+5]?=(Z3 nd)[f]? :=by
 obtain⟨hk,hnd'⟩:=List.getElem?_eq_some_iff.mp hnd;show(R.nodes.flatMap Z3)[k*4+f]?=_;rw[ZO Z3 4 (fun _=>rfl) R.nodes k hk f hf,hnd']
theorem Zem {R:Zd}{k:Nat}{nd y:Zi}(hnd:R.nodes[k]?=some nd)(f:Nat)(hf:f<4)(r:Yw)(hy:Z3 y=(Z3 nd).set f r):
 (R.putN k y).rows=(R.rows.set ((k*4+f)+5) r).set 2 (R.putN k y).nodeD:=by
 obtain⟨hk,hnd'⟩:=List.getElem?_eq_some_iff.mp hnd;have e:=Zt Z3 4 (fun _=>rfl) R.nodes k hk f hf r y (by rw[hnd'];exact hy);show _::_::_::_::_::(R.nodes.set k y).flatMap Z3=_::_::_::_::_::(R.nodes.flatMap Z3).set (k*4+f) r;rw[e];rfl
theorem Ref.putF {w w1 w':World}{b k f:Nat}{R:Zd}{nd y:Zi}{r r':Yw}(h:Ref w b R)(hnd:R.nodes[k]?=some nd)(hf:f<4)(hr:(Z3 nd)[f]?=some r)(hy:Z3 y=(Z3 nd).set f r')
 (k1:Za (fun j=>r.v.ownBlock=some j) w w1) (hr':r'.Is w1) (hown:∀x,r'.v.ownBlock=some x→r.v.ownBlock=some x∨w.heap.size≤x)
 (k2:Za (fun j=>R.vn.ownBlock=some j) w1 w') (hn:Row w' 146 7 R.vn (R.nodes.set k y).length ((R.nodes.set k y).flatMap nodeC)):
 Ref w' b (R.putN k y)∧Za (R.fp b) w w'∧(∀x,(R.putN k y).fp b x→R.fp b x∨w.heap.size≤x):=by
 have hi:R.rows[(k*4+f)+5]?=some r:=(Vt hnd f hf).trans hr;have hm:r∈R.rows:=List.mem_of_getElem? hi;have hmn:R.nodeD∈R.rows:=List.mem_of_getElem? (i:=2) rfl;have all1:=h.all.put ((k*4+f)+5) r r' hi k1 hr' hown;have h2:(R.rows.set ((k*4+f)+5) r')[2]?=some R.nodeD:=by rw[List.getElem?_set_ne (by omega)];rfl
 have all2:=all1.put 2 R.nodeD (R.putN k y).nodeD h2 k2 hn (fun x hx=>.inl hx);have blk1:=h.blk.kept k1 fun he=>h.ne r hm he;have rown:Row w1 146 7 R.vn R.nodes.length (R.nodes.flatMap nodeC):=all1.row _ (List.mem_of_getElem? h2);have blk2:=blk1.kept k2 fun he=>rown.ne_block blk1 (by decide) he;have er:=Zem hnd f hf r' hy;refine⟨⟨blk2,by rw[er];exact all2⟩,k1.trans k2 (fun x hx=>.inr ⟨r,hm,hx⟩) (fun x _ hx=>.inr ⟨_,hmn,hx⟩),?_⟩;rintro x (rfl|⟨a,ha,hx⟩)
 · exact .inl (.inl rfl)
 · rw[er]at ha;rcases List.mem_or_eq_of_mem_set ha with ha|rfl
   · rcases List.mem_or_eq_of_mem_set ha with ha|rfl
     · exact .inl (.inr ⟨a,ha,hx⟩)
     · exact(hown x hx).imp (fun hh=>.inr ⟨r,hm,hh⟩) id
   · exact .inl (.inr ⟨_,hmn,hx⟩)
theorem Ref.c0 {w:World}{b:Nat}{R:Zd}(h:Ref w b R):w.cell? ⟨b,0,none⟩=some R.vp:=h.blk.cell 0
theorem Ref.c1 {w:World}{b:Nat}{R:Zd}(h:Ref w b R):w.cell? ⟨b,1,none⟩=some (.int .i64 R.clock):=h.blk.cell 1
theorem Ref.c2 {w:World}{b:Nat}{R:Zd}(h:Ref w b R):w.cell? ⟨b,2,none⟩=some R.vr:=h.blk.cell 2
theorem Ref.c3 {w:World}{b:Nat}{R:Zd}(h:Ref w b R):w.cell? ⟨b,3,none⟩=some R.vn:=h.blk.cell 3
theorem Un (l:List Yj)(j:Nat)(hj:j<l.length)(f:Nat)(hf:f<3):(l.flatMap YO)[j*3+f]?=(YO l[j])[f]? :=ZO YO 3 (fun _=>rfl) l j hj f hf
theorem Zy (l:List Zi)(j:Nat)(hj:j<l.length)(f:Nat)(hf:f<7):(l.flatMap nodeC)[j*7+f]?=(nodeC l[j])[f]? :=ZO nodeC 7 (fun _=>rfl) l j hj f hf
structure Yb where
 reads:Bool
 num:Int
 lo:Nat
 hi:Nat
structure Zu where
 e:Zh
 used:Nat
def heldC (h:Zu):List Value:=[.string h.e.q,.int .i32 h.e.val,.int .u64 (h.e.fr:Int),.int .u64 (h.e.till:Int),.bool h.e.op,.int .u64 (h.e.kn:Int),.int .u64 (h.used:Int)]
structure Zb where
 up:Bool
 room:Int
 horizon:Nat
 hists:List (Nat×Int)
 waits:List (Nat×Int)
 ents:List Zu
 uses:Nat
 flight:List (Nat×Int)
structure Zn where
 p:Zb
 hs:Value
 wt:Value
 en:Value
 fl:Value
def ZN (n:Zn):List Value:=[.bool n.p.up,.int .i64 n.p.room,.int .u64 (n.p.horizon:Int),n.hs,n.wt,n.en,.int .u64 (n.p.uses:Int),n.fl]
def Zp (h:Nat×Int):List Value:=[.int .u64 (h.1:Int),.int .u8 h.2]
def Z1 (n:Zn):List Yw:=[⟨244,2,n.hs,n.p.hists.length,n.p.hists.flatMap Zp⟩,⟨244,2,n.wt,n.p.waits.length,n.p.waits.flatMap Zp⟩,⟨227,7,n.en,n.p.ents.length,n.p.ents.flatMap heldC⟩,⟨192,2,n.fl,n.p.flight.length,n.p.flight.flatMap Zp⟩]
structure Ze where
 clock:Int
 past:List Zj
 begun:Nat
 seats:Nat→Yb
 puts:List Zh
 vc:Value
 vq:Value
 nodes:List Zn
 vn:Value
def Ze.cells (D:Ze):Array Value:=
 #[.int .i64 D.clock,D.vc,.int .i64 (D.begun:Int),
  .bool (D.seats 0).reads,.int .i64 (D.seats 0).num,.int .u64 ((D.seats 0).lo:Int),.int .u64 ((D.seats 0).hi:Int),
  .bool (D.seats 1).reads,.int .i64 (D.seats 1).num,.int .u64 ((D.seats 1).lo:Int),.int .u64 ((D.seats 1).hi:Int),
  .bool (D.seats 2).reads,.int .i64 (D.seats 2).num,.int .u64 ((D.seats 2).lo:Int),.int .u64 ((D.seats 2).hi:Int),
  .bool (D.seats 3).reads,.int .i64 (D.seats 3).num,.int .u64 ((D.seats 3).lo:Int),.int .u64 ((D.seats 3).hi:Int),
  .bool (D.seats 4).reads,.int .i64 (D.seats 4).num,.int .u64 ((D.seats 4).lo:Int),.int .u64 ((D.seats 4).hi:Int),
  .bool (D.seats 5).reads,.int .i64 (D.seats 5).num,.int .u64 ((D.seats 5).lo:Int),.int .u64 ((D.seats 5).hi:Int),D.vq,D.vn]
def Ze.rows (D:Ze):List Yw:=⟨215,10,D.vc,D.past.length,D.past.flatMap Zx⟩::⟨55,6,D.vq,D.puts.length,D.puts.flatMap Zk⟩::⟨139,8,D.vn,D.nodes.length,D.nodes.flatMap ZN⟩::D.nodes.flatMap Z1
structure Dev (w:World)(b:Nat)(D:Ze):Prop where
 blk:Blk w b 129 D.cells
 all:Vb w D.rows
theorem X6 {D:Ze}{r:Yw}(h:r∈D.rows):r.T≠129:=by
 simp only[Ze.rows,List.mem_cons,List.mem_flatMap,Z1,List.not_mem_nil,or_false]at h;rcases h with rfl|rfl|rfl|⟨nd,_,rfl|rfl|rfl|rfl⟩<;>(dsimp only;decide)
theorem Dev.past {w:World}{b:Nat}{D:Ze}(h:Dev w b D):Row w 215 10 D.vc D.past.length (D.past.flatMap Zx):=h.all.row _ (List.mem_of_getElem? (i:=0) rfl)
theorem Dev.puts {w:World}{b:Nat}{D:Ze}(h:Dev w b D):Row w 55 6 D.vq D.puts.length (D.puts.flatMap Zk):=h.all.row _ (List.mem_of_getElem? (i:=1) rfl)
theorem Dev.nodes {w:World}{b:Nat}{D:Ze}(h:Dev w b D):Row w 139 8 D.vn D.nodes.length (D.nodes.flatMap ZN):=h.all.row _ (List.mem_of_getElem? (i:=2) rfl)
theorem Va {D:Ze}{nd:Zn}{r:Yw}(hn:nd∈D.nodes)(hr:r∈Z1 nd):r∈D.rows:=by
 simp only[Ze.rows,List.mem_cons,List.mem_flatMap];exact .inr (.inr (.inr ⟨nd,hn,hr⟩))
theorem Dev.hists {w:World}{b:Nat}{D:Ze}(h:Dev w b D):∀nd∈D.nodes,Row w 244 2 nd.hs nd.p.hists.length (nd.p.hists.flatMap Zp):=fun _ hn=>h.all.row ⟨_,_,_,_,_⟩ (Va hn (List.mem_of_getElem? (i:=0) rfl))
theorem Dev.waits {w:World}{b:Nat}{D:Ze}(h:Dev w b D):∀nd∈D.nodes,Row w 244 2 nd.wt nd.p.waits.length (nd.p.waits.flatMap Zp):=fun _ hn=>h.all.row ⟨_,_,_,_,_⟩ (Va hn (List.mem_of_getElem? (i:=1) rfl))
theorem Dev.ents {w:World}{b:Nat}{D:Ze}(h:Dev w b D):∀nd∈D.nodes,Row w 227 7 nd.en nd.p.ents.length (nd.p.ents.flatMap heldC):=fun _ hn=>h.all.row ⟨_,_,_,_,_⟩ (Va hn (List.mem_of_getElem? (i:=2) rfl))
theorem Dev.flight {w:World}{b:Nat}{D:Ze}(h:Dev w b D):∀nd∈D.nodes,Row w 192 2 nd.fl nd.p.flight.length (nd.p.flight.flatMap Zp):=fun _ hn=>h.all.row ⟨_,_,_,_,_⟩ (Va hn (List.mem_of_getElem? (i:=3) rfl))
def Ze.fp (D:Ze)(b:Nat)(k:Nat):Prop:=k=b∨∃r∈D.rows,r.v.ownBlock=some k
structure Ze.Fit (D:Ze):Prop where
 pmax:D.past.length≤700
 clk0:0≤D.clock
 clk1:D.clock≤100000
 bmax:D.begun≤200
 qmax:D.puts.length≤10
theorem Dev.lt {w:World}{b:Nat}{D:Ze}(h:Dev w b D):∀k,D.fp b k→k<w.heap.size:=by
 rintro k (rfl|⟨r,hr,hk⟩)
 · exact h.blk.lt
 · exact(h.all.row r hr).lt k hk
theorem Dev.ne {w:World}{b:Nat}{D:Ze}(h:Dev w b D):∀r∈D.rows,r.v.ownBlock≠some b:=fun r hr=>(h.all.row r hr).ne_block h.blk (X6 hr)
theorem Dev.same {w w':World}{b:Nat}{D:Ze}(h:Dev w b D)(hs:∀k,D.fp b k→w'.heap[k]?=w.heap[k]?):Dev w' b D:=
 ⟨h.blk.same (hs b (.inl rfl)),h.all.same fun k hk=>hs k (.inr hk)⟩
theorem Dev.kept {w w':World}{F:Nat→Prop}{b:Nat}{D:Ze}(h:Dev w b D)(k:Za F w w')(hF:∀j,D.fp b j→¬F j):Dev w' b D:=
 h.same fun j hj=>k.block j (h.lt j hj) (hF j hj)
theorem Dev.put {w w':World}{b:Nat}{D D':Ze}(h:Dev w b D)(i f:Nat)(r r':Yw)(hi:D.rows[i]?=some r)(k:Za (fun j=>r.v.ownBlock=some j) w w')(hr:r'.Is w')
 (hown:∀x,r'.v.ownBlock=some x→r.v.ownBlock=some x∨w.heap.size≤x) (hrows:D'.rows=D.rows.set i r') (hT:r'.T≠129)
 (hblk:D.cells.setIfInBounds f r'.v=D'.cells):
 Dev (w'.setCell ⟨b,f,none⟩ r'.v) b D'∧Za (D.fp b) w (w'.setCell ⟨b,f,none⟩ r'.v)∧(∀x,D'.fp b x→D.fp b x∨w.heap.size≤x):=by
 have hm:r∈D.rows:=List.mem_of_getElem? hi;have blk1:=h.blk.kept k fun he=>h.ne r hm he;have all1:=h.all.put i r r' hi k hr hown;have k2:=Za.setCell w' ⟨b,f,none⟩ r'.v;refine⟨⟨?_,?_⟩,k.trans k2 (fun x hx=>.inr ⟨r,hm,hx⟩) (fun x _ hx=>.inl hx),?_⟩
 · rw[←hblk];exact blk1.set f _
 · rw[hrows];refine all1.kept k2 ?_;rintro j ⟨a,ha,hj⟩ he;subst he;rcases List.mem_or_eq_of_mem_set ha with ha'|rfl
   · exact(all1.row a ha).ne_block blk1 (X6 ha') hj
   · exact Row.ne_block hr blk1 hT hj
 · rintro x (rfl|⟨a,ha,hx⟩)
   · exact .inl (.inl rfl)
   · rw[hrows]at ha;rcases List.mem_or_eq_of_mem_set ha with ha|rfl
     · exact .inl (.inr ⟨a,ha,hx⟩)
     · exact(hown x hx).imp (fun hh=>.inr ⟨r,hm,hh⟩) id
theorem Dev.setOwn {w:World}{b:Nat}{D D':Ze}(h:Dev w b D)(f:Nat)(v:Value)(hrows:D'.rows=D.rows)(hblk:D.cells.setIfInBounds f v=D'.cells):Dev (w.setCell ⟨b,f,none⟩ v) b D':=
 ⟨by rw[←hblk];exact h.blk.set f v,by rw[hrows];exact h.all.kept (Za.setCell w ⟨b,f,none⟩ v) (by rintro j ⟨r,hr,hj⟩ he;subst he;exact h.ne r hr hj)⟩
def Ze.putN (D:Ze)(k:Nat)(nd:Zn):Ze:={D with nodes:=D.nodes.set k nd}
def Ze.nodeD (D:Ze):Yw:=⟨139,8,D.vn,D.nodes.length,D.nodes.flatMap ZN⟩
theorem Zi0 {D:Ze}{k:Nat}{nd:Zn}(hnd:D.nodes[k]?=some nd)(f:Nat)(hf:f<4):D.rows[(k*4+f)+3]?=(Z1 nd)[f]? :=by
 obtain⟨hk,hnd'⟩:=List.getElem?_eq_some_iff.mp hnd;show(D.nodes.flatMap Z1)[k*4+f]?=_;rw[ZO Z1 4 (fun _=>rfl) D.nodes k hk f hf,hnd']
theorem ZhX {D:Ze}{k:Nat}{nd y:Zn}(hnd:D.nodes[k]?=some nd)(f:Nat)(hf:f<4)(r:Yw)(hy:Z1 y=(Z1 nd).set f r):
 (D.putN k y).rows=(D.rows.set ((k*4+f)+3) r).set 2 (D.putN k y).nodeD:=by
 obtain⟨hk,hnd'⟩:=List.getElem?_eq_some_iff.mp hnd;have e:=Zt Z1 4 (fun _=>rfl) D.nodes k hk f hf r y (by rw[hnd'];exact hy);show _::_::_::(D.nodes.set k y).flatMap Z1=_::_::_::(D.nodes.flatMap Z1).set (k*4+f) r;rw[e];rfl
def Zv (w:World)(b:Nat)(D:Ze)(w':World)(D':Ze):Prop:=Dev w' b D'∧Za (D.fp b) w w'∧∀x,D'.fp b x→D.fp b x∨w.heap.size≤x
theorem Zv.trans {w w1 w2:World}{b:Nat}{D D1 D2:Ze}(h:Zv w b D w1 D1)(h2:Zv w1 b D1 w2 D2):Zv w b D w2 D2:=by
 have hs:=h.2.1.size;refine⟨h2.1,h.2.1.trans h2.2.1 (fun _=>id) (fun k hk hf=> ?_),fun x hx=> ?_⟩
 · rcases h.2.2 k hf with h1|h1
   · exact h1
   · omega
 · rcases h2.2.2 x hx with h1|h1
   · exact h.2.2 x h1
   · exact .inr (by omega)
theorem Zv.of_kept {w w1:World}{b:Nat}{D:Ze}(h:Dev w b D)(k:Za (fun _=>False) w w1):Zv w b D w1 D:=⟨h.kept k (fun _ _=>id),k.mono (fun _=>False.elim),fun _ hx=>.inl hx⟩
theorem Dev.putF {w w1 w':World}{b k f:Nat}{D:Ze}{nd y:Zn}{r r':Yw}(h:Dev w b D)(hnd:D.nodes[k]?=some nd)(hf:f<4)(hr:(Z1 nd)[f]?=some r)(hy:Z1 y=(Z1 nd).set f r')
 (k1:Za (fun j=>r.v.ownBlock=some j) w w1) (hr':r'.Is w1) (hown:∀x,r'.v.ownBlock=some x→r.v.ownBlock=some x∨w.heap.size≤x)
 (k2:Za (fun j=>D.vn.ownBlock=some j) w1 w') (hn:Row w' 139 8 D.vn (D.nodes.set k y).length ((D.nodes.set k y).flatMap ZN)):
 Zv w b D w' (D.putN k y):=by
 have hi:D.rows[(k*4+f)+3]?=some r:=(Zi0 hnd f hf).trans hr;have hm:r∈D.rows:=List.mem_of_getElem? hi;have hmn:D.nodeD∈D.rows:=List.mem_of_getElem? (i:=2) rfl;have all1:=h.all.put ((k*4+f)+3) r r' hi k1 hr' hown;have h2:(D.rows.set ((k*4+f)+3) r')[2]?=some D.nodeD:=by rw[List.getElem?_set_ne (by omega)];rfl
 have all2:=all1.put 2 D.nodeD (D.putN k y).nodeD h2 k2 hn (fun x hx=>.inl hx);have blk1:=h.blk.kept k1 fun he=>h.ne r hm he;have rown:Row w1 139 8 D.vn D.nodes.length (D.nodes.flatMap ZN):=all1.row _ (List.mem_of_getElem? h2);have blk2:=blk1.kept k2 fun he=>rown.ne_block blk1 (by decide) he;have er:=ZhX hnd f hf r' hy;refine⟨⟨blk2,by rw[er];exact all2⟩,k1.trans k2 (fun x hx=>.inr ⟨r,hm,hx⟩) (fun x _ hx=>.inr ⟨_,hmn,hx⟩),?_⟩;rintro x (rfl|⟨a,ha,hx⟩)
 · exact .inl (.inl rfl)
 · rw[er]at ha;rcases List.mem_or_eq_of_mem_set ha with ha|rfl
   · rcases List.mem_or_eq_of_mem_set ha with ha|rfl
     · exact .inl (.inr ⟨a,ha,hx⟩)
     · exact(hown x hx).imp (fun hh=>.inr ⟨r,hm,hh⟩) id
   · exact .inl (.inr ⟨_,hmn,hx⟩)
theorem Zfo (l:List Zn)(j:Nat)(hj:j<l.length)(f:Nat)(hf:f<8):(l.flatMap ZN)[j*8+f]?=(ZN l[j])[f]? :=ZO ZN 8 (fun _=>rfl) l j hj f hf
theorem Dev.nodeC {w:World}{b k g:Nat}{D:Ze}{nd:Zn}(h:Dev w b D)(hnd:D.nodes[k]?=some nd)(ho:D.vn.ownBlock=some g)(f:Nat)(hf:f<8)(u:Value)(hu:(ZN nd)[f]?=some u):w.cell? ⟨g,k*8+f,none⟩=some u:=by
 obtain⟨hk,hnd'⟩:=List.getElem?_eq_some_iff.mp hnd;exact h.nodes.cell ho _ u (by rw[Zfo D.nodes k hk f hf,hnd'];exact hu)
theorem ZbB {D:Ze}{k f:Nat}{nd:Zn}{r:Yw}(hnd:D.nodes[k]?=some nd)(hr:(Z1 nd)[f]?=some r):r∈D.rows:=Va (List.mem_of_getElem? hnd) (List.mem_of_getElem? hr)
theorem Zdg {nd:Zn}{r:Yw}(h:r∈Z1 nd):r.T≠139:=by
 simp only[Z1,List.mem_cons,List.not_mem_nil,or_false]at h;rcases h with rfl|rfl|rfl|rfl<;>(dsimp only;decide)
theorem Dev.rowN {w w1:World}{b k g:Nat}{D:Ze}{nd y:Zn}(h:Dev w b D)(hnd:D.nodes[k]?=some nd)(ho:D.vn.ownBlock=some g)(f c:Nat)(hf:f<4)(hcc:c<8)(r r':Yw)(v:Value)(hr:(Z1 nd)[f]?=some r)(hy:Z1 y=(Z1 nd).set f r')(hc:ZN y=(ZN nd).set c v)
 (k1:Za (fun j=>r.v.ownBlock=some j) w w1) (hr':r'.Is w1) (hown:∀x,r'.v.ownBlock=some x→r.v.ownBlock=some x∨w.heap.size≤x):Zv w b D (w1.setCell ⟨g,k*8+c,none⟩ v) (D.putN k y):=by
 obtain⟨hk,hnd'⟩:=List.getElem?_eq_some_iff.mp hnd;have hm:=ZbB hnd hr;have hrn:Row w1 139 8 D.vn D.nodes.length (D.nodes.flatMap ZN):=h.nodes.kept k1 fun j hj he=>(h.all.row r hm).ne_row h.nodes (Zdg (List.mem_of_getElem? hr)) j he hj;refine h.putF hnd hf hr hy k1 hr' hown ((Za.setCell w1 _ _).mono fun j hj=>by rw[ho,hj]) ?_;have:=hrn.set ho (k*8+c) v;rw[Zt ZN 8 (fun _=>rfl) D.nodes k hk c hcc v y (by rw[hnd'];exact hc)]at this;rw[List.length_set];exact this
theorem Dev.cellN {w:World}{b k g:Nat}{D:Ze}{nd y:Zn}(h:Dev w b D)(hnd:D.nodes[k]?=some nd)(ho:D.vn.ownBlock=some g)(c:Nat)(hcc:c<8)(v:Value)(hy:Z1 y=Z1 nd)(hc:ZN y=(ZN nd).set c v):Zv w b D (w.setCell ⟨g,k*8+c,none⟩ v) (D.putN k y):=
 h.rowN hnd ho 0 c (by omega) hcc ⟨244,2,nd.hs,nd.p.hists.length,nd.p.hists.flatMap Zp⟩ ⟨244,2,nd.hs,nd.p.hists.length,nd.p.hists.flatMap Zp⟩ v rfl (by rw[hy];rfl) hc (Za.refl _ _) (h.hists nd (List.mem_of_getElem? hnd)) (fun x hx=>.inl hx)
theorem Zh4 {α β:Type}(C:α→List β)(l:List α)(k:Nat)(y:α)(h:∀x,l[k]?=some x→C y=C x):(l.set k y).flatMap C=l.flatMap C:=by
 induction l generalizing k with
 |nil=>rfl
 |cons a r ih=>
  match k with
  |0=>simp only[List.set_cons_zero,List.flatMap_cons];rw[h a rfl]
  |k+1=>simp only[List.set_cons_succ,List.flatMap_cons];rw[ih k fun x hx=>h x (by simpa using hx)]
theorem Dev.turnEnts {w w1:World}{b k:Nat}{D:Ze}{nd:Zn}(h:Dev w b D)(hnd:D.nodes[k]?=some nd)(l:List Zu)(k1:Za (fun j=>nd.en.ownBlock=some j) w w1)(hr:Row w1 227 7 nd.en l.length (l.flatMap heldC)):Zv w b D w1 (D.putN k {nd with p:={nd.p with ents:=l}}):=by
 have hrn:Row w1 139 8 D.vn D.nodes.length (D.nodes.flatMap ZN):=h.nodes.kept k1 fun j hj he=>(h.ents nd (List.mem_of_getElem? hnd)).ne_row h.nodes (by decide) j he hj;refine h.putF hnd (f:=2) (r:=⟨227,7,nd.en,nd.p.ents.length,nd.p.ents.flatMap heldC⟩) (r':=⟨227,7,nd.en,l.length,l.flatMap heldC⟩) (by omega) rfl rfl k1 hr (fun x hx=>.inl hx) (Za.refl _ _) ?_;rw[List.length_set,Zh4 ZN D.nodes k _ fun x hx=>by rw[hnd]at hx;injection hx with hx;subst hx;rfl];exact hrn
theorem ZgI (l:List Zu)(j:Nat)(hj:j<l.length)(f:Nat)(hf:f<7):(l.flatMap heldC)[j*7+f]?=(heldC l[j])[f]? :=ZO heldC 7 (fun _=>rfl) l j hj f hf
theorem Dev.heldC {w:World}{b k ge j:Nat}{D:Ze}{nd:Zn}{x:Zu}(h:Dev w b D)(hnd:D.nodes[k]?=some nd)(he:nd.en.ownBlock=some ge)(hx:nd.p.ents[j]?=some x)(f:Nat)(hf:f<7)(u:Value)(hu:(Go.Proofs.YtpfcacedpkaihaaGreat.heldC x)[f]?=some u):w.cell? ⟨ge,j*7+f,none⟩=some u:=by
 obtain⟨hj,hx'⟩:=List.getElem?_eq_some_iff.mp hx;exact(h.ents nd (List.mem_of_getElem? hnd)).cell he _ u (by rw[ZgI nd.p.ents j hj f hf,hx'];exact hu)
theorem Dev.heldF {w:World}{b k ge:Nat}{D:Ze}{nd:Zn}(h:Dev w b D)(hnd:D.nodes[k]?=some nd)(he:nd.en.ownBlock=some ge)(f:Nat):w.frozen? ⟨ge,f,none⟩=false:=(h.ents nd (List.mem_of_getElem? hnd)).free he f
theorem Dev.nodeF {w:World}{b g:Nat}{D:Ze}(h:Dev w b D)(ho:D.vn.ownBlock=some g)(f:Nat):w.frozen? ⟨g,f,none⟩=false:=h.nodes.free ho f
end Go.Proofs.YtpfcacedpkaihaaGreat
