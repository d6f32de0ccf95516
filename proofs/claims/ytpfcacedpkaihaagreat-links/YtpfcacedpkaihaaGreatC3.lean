import Derived.Test.YtpfcacedpkaihaaGreatRows
import Derived.WalkKit
import Derived.WalkSpells
import Derived.WalkLawsBesides
import Derived.Deep.RegionLawGrows
namespace Go.Proofs.YtpfcacedpkaihaaGreat
open Go.RowKit
set_option maxRecDepth 100000
set_option maxHeartbeats 16000000
def Blk (w:World)(b:Nat)(T:TypeId)(c:Array Value):Prop:=w.heap[b]?=some (.cells c T (0,0))
theorem Blk.cell {w:World}{b:Nat}{T:TypeId}{c:Array Value}(h:Blk w b T c)(i:Nat):w.cell? ⟨b,i,none⟩=c[i]? :=by
 unfold Blk at h;simp[World.cell?,h]
theorem Blk.free {w:World}{b:Nat}{T:TypeId}{c:Array Value}(h:Blk w b T c)(i:Nat):w.frozen? ⟨b,i,none⟩=false:=by
 unfold Blk at h;simp[World.frozen?,h]
theorem Blk.lt {w:World}{b:Nat}{T:TypeId}{c:Array Value}(h:Blk w b T c):b<w.heap.size:=lt_of_block h
theorem Blk.same {w w':World}{b:Nat}{T:TypeId}{c:Array Value}(h:Blk w b T c)(e:w'.heap[b]?=w.heap[b]?):Blk w' b T c:=e.trans h
theorem Blk.set {w:World}{b:Nat}{T:TypeId}{c:Array Value}(h:Blk w b T c)(i:Nat)(v:Value):Blk (w.setCell ⟨b,i,none⟩ v) b T (c.setIfInBounds i v):=by
 have hlt:=h.lt;have h':w.heap[b]=.cells c T (0,0):=by have:=h;unfold Blk at this;simpa[Array.getElem?_eq_getElem hlt]using this
 show(w.heap.modify b _)[b]?=_;rw[Array.getElem?_eq_getElem (by simpa using hlt),Array.getElem_modify_self,h'];rfl
theorem Blk.new (w:World)(T:TypeId)(c:Array Value):Blk (w.alloc (.cells c T)) w.heap.size T c:=heap_alloc_new w _
theorem Blk.type {w:World}{b:Nat}{T T':TypeId}{c c':Array Value}(h:Blk w b T c)(h':Blk w b T' c'):T=T'∧c=c':=by
 unfold Blk at h h';rw[h]at h';simp at h';exact⟨h'.2,h'.1⟩
structure Za (F:Nat→Prop)(w w':World):Prop where
 os:w'.os=w.os
 tape:w'.tape=w.tape
 output:w'.output=w.output
 size:w.heap.size≤w'.heap.size
 block:∀k,k<w.heap.size→¬F k→w'.heap[k]?=w.heap[k]?
theorem Za.refl (F:Nat→Prop)(w:World):Za F w w:=⟨rfl,rfl,rfl,Nat.le_refl _,fun _ _ _=>rfl⟩
theorem Za.trans {F G H:Nat→Prop}{a b c:World}(h:Za F a b)(k:Za G b c)(hF:∀k,F k→H k)(hG:∀k,k<a.heap.size→G k→H k):Za H a c:=
 ⟨k.os.trans h.os,k.tape.trans h.tape,k.output.trans h.output,Nat.le_trans h.size k.size,fun i hi hn=>
  (k.block i (Nat.lt_of_lt_of_le hi h.size) (fun hg=>hn (hG i hi hg))).trans (h.block i hi (fun hf=>hn (hF i hf)))⟩
theorem Za.mono {F G:Nat→Prop}{a b:World}(h:Za F a b)(hF:∀k,F k→G k):Za G a b:=
 ⟨h.os,h.tape,h.output,h.size,fun i hi hn=>h.block i hi (fun hf=>hn (hF i hf))⟩
theorem Za.of_below {w w':World}(h:Below w.heap.size w w')(F:Nat→Prop):Za F w w':=
 ⟨h.os,h.tape,h.output,h.size,fun k hk _=>h.block k hk⟩
theorem Za.below {F:Nat→Prop}{B:Nat}{w w':World}(h:Za F w w')(hB:B≤w.heap.size)(hF:∀k,F k→B≤k):Below B w w':=
 ⟨h.os,h.tape,h.output,h.size,fun k hk=>h.block k (by omega) (fun hf=>by have:=hF k hf;omega)⟩
theorem Za.of_grown {w w':World}{row:Option Nat}(h:w.grownBy w' row):Za (fun k=>row=some k) w w':=
 ⟨h.os,h.tape,h.output,h.size,fun k hk hn=>h.block k hk (fun e=>hn e.symm)⟩
theorem Za.alloc (w:World)(o:Obj)(F:Nat→Prop):Za F w (w.alloc o):=
 ⟨rfl,rfl,rfl,by simp,fun k hk _=>Below.heap_alloc _ _ _ hk⟩
theorem Za.setCell (w:World)(a:Addr)(v:Value):Za (fun k=>k=a.block) w (w.setCell a v):=
 ⟨rfl,rfl,rfl,by simp[World.setCell],fun k _ hn=>Below.heap_setCell _ _ _ _ hn⟩
theorem Za.drew {F:Nat→Prop}{w w':World}(h:Za F w w'):Za F w w'.drew:=⟨h.os,h.tape,h.output,h.size,h.block⟩
theorem Blk.kept {w w':World}{F:Nat→Prop}{b:Nat}{T:TypeId}{c:Array Value}(h:Blk w b T c)(k:Za F w w')(hb:¬F b):Blk w' b T c:=h.same (k.block b h.lt hb)
def Row (w:World)(E:TypeId)(size:Nat)(v:Value)(n:Nat)(xs:List Value):Prop:=w.ownsRow 0 E size v n xs
theorem Row.shape {w:World}{E size n:Nat}{v:Value}{xs:List Value}(h:Row w E size v n xs):
 (v=.slice none 0 0∧n=0∧xs=[])∨∃g cap cur,v=.slice (some ⟨g,0,none⟩) n cap∧Blk w g E cur∧n≤cap∧cap≤maxLen∧cur.size=cap*size∧cur.toList.take (n*size)=xs:=by
 obtain⟨h1,⟨hv,hn⟩|⟨g,cap,cur,hv,_,hh,hr⟩⟩:=h
 · subst hn;exact .inl ⟨hv,rfl,List.eq_nil_of_length_eq_zero (by simpa using h1)⟩
 · exact .inr ⟨g,cap,cur,hv,hh,hr⟩
theorem Row.nil (w:World)(E size:Nat):Row w E size (.slice none 0 0) 0 []:=World.ownsRow_nil w 0 E size
theorem Row.form {w:World}{E size n:Nat}{v:Value}{xs:List Value}(h:Row w E size v n xs):∃ao cap,v=.slice ao n cap∧(ao=none→n=0∧cap=0):=by
 rcases h.shape with⟨rfl,rfl,_⟩|⟨g,cap,_,rfl,_⟩
 · exact⟨none,0,rfl,fun _=>⟨rfl,rfl⟩⟩
 · exact⟨_,cap,rfl,fun h=>by simp at h⟩
theorem Row.ne_block {w:World}{E size n b:Nat}{T:TypeId}{c:Array Value}{v:Value}{xs:List Value}(h:Row w E size v n xs)(hb:Blk w b T c)(hT:E≠T):v.ownBlock≠some b:=by
 intro he;rcases h.shape with⟨rfl,_,_⟩|⟨g,cap,cur,rfl,hg,_⟩
 · simp[Value.ownBlock]at he
 · simp[Value.ownBlock]at he;subst he;exact hT (hg.type hb).1
theorem Row.ne_row {w:World}{E E' s s' n n':Nat}{v v':Value}{xs xs':List Value}(h:Row w E s v n xs)(h':Row w E' s' v' n' xs')(hT:E≠E'):∀k,v.ownBlock=some k→v'.ownBlock≠some k:=by
 intro k hk he;rcases h'.shape with⟨rfl,_,_⟩|⟨g,cap,cur,rfl,hg,_⟩
 · simp[Value.ownBlock]at he
 · simp[Value.ownBlock]at he;subst he;exact h.ne_block hg hT hk
theorem Row.lt {w:World}{E size n:Nat}{v:Value}{xs:List Value}(h:Row w E size v n xs):∀k,v.ownBlock=some k→k<w.heap.size:=fun k hk=>(World.ownsRow.lt h k hk).2
theorem Row.same {w w':World}{E size n:Nat}{v:Value}{xs:List Value}(h:Row w E size v n xs)(hs:∀k,v.ownBlock=some k→w'.heap[k]?=w.heap[k]?):Row w' E size v n xs:=by
 obtain⟨h1,h2|⟨g,cap,cur,hv,hg,hh,hr⟩⟩:=h
 · exact⟨h1,.inl h2⟩
 · exact⟨h1,.inr ⟨g,cap,cur,hv,hg,by rw[hs g (by rw[hv];rfl)];exact hh,hr⟩⟩
theorem Row.kept {w w':World}{F:Nat→Prop}{E size n:Nat}{v:Value}{xs:List Value}(h:Row w E size v n xs)(k:Za F w w')(hF:∀j,v.ownBlock=some j→¬F j):Row w' E size v n xs:=
 h.same fun j hj=>k.block j (h.lt j hj) (hF j hj)
theorem Row.cell {w:World}{E size n:Nat}{v:Value}{xs:List Value}(h:Row w E size v n xs){g:Nat}(hg:v.ownBlock=some g)(j:Nat)(u:Value)(hj:xs[j]?=some u):w.cell? ⟨g,j,none⟩=some u:=by
 have:=World.ownsRow.cells h hg j u hj
 rwa [show(⟨g,0,none⟩:Addr).add j=⟨g,j,none⟩from by cases j<;>simp[Addr.add]]at this
theorem Row.free {w:World}{E size n:Nat}{v:Value}{xs:List Value}(h:Row w E size v n xs){g:Nat}(hg:v.ownBlock=some g)(j:Nat):w.frozen? ⟨g,j,none⟩=false:=by
 rcases h.shape with⟨rfl,_,_⟩|⟨g',cap,cur,rfl,hb,_⟩
 · simp[Value.ownBlock]at hg
 · simp[Value.ownBlock]at hg;subst hg;exact hb.free j
theorem Row.block {w:World}{E size n:Nat}{v:Value}{xs:List Value}(h:Row w E size v n xs)(hn:0<n):∃g cap,v=.slice (some ⟨g,0,none⟩) n cap∧v.ownBlock=some g∧g<w.heap.size:=by
 rcases h.shape with⟨rfl,rfl,_⟩|⟨g,cap,cur,rfl,hb,_⟩
 · omega
 · exact⟨g,cap,rfl,rfl,hb.lt⟩
theorem Row.set {w:World}{E size n:Nat}{v:Value}{xs:List Value}(h:Row w E size v n xs){g:Nat}(hg:v.ownBlock=some g)(j:Nat)(u:Value):Row (w.setCell ⟨g,j,none⟩ u) E size v n (xs.set j u):=by
 have hl:=h.1;rcases h.shape with⟨rfl,_,_⟩|⟨g',cap,cur,rfl,hb,hc,hm,hs,ht⟩
 · simp[Value.ownBlock]at hg
 · simp[Value.ownBlock]at hg;subst hg;refine⟨by simpa using hl,.inr ⟨g',cap,cur.setIfInBounds j u,rfl,Nat.zero_le _,hb.set j u,hc,hm,by simpa using hs,?_⟩⟩;rw[←ht];simp[List.take_set]
theorem V3 {P:Program}(w:World)(t ty e:TypeId)(i:TypeInfo)(z:Value)(size bytes:Nat)(ht:P.underlying t=some (.slice e))(hi:P.info? e=some i)(hz:i.zero=some z)
 (hsize:i.size=size) (hby:i.bytes=bytes) (hzs:z.cells.size=size) (hsz:0<size) (v:Value) (n:Nat) (xs:List Value) (hown:Row w e size v n xs)
 (a:Addr) (m c:Nat) (news:List Value) (hl:news.length=m*size) (hnews:∀j u,news[j]?=some u→w.cell? (a.add j)=some u) (h1:∀u∈news,u.oneCell'=true)
 (h63:n+m≤maxLen) (hbytes:(n+m)*bytes≤140737488355328):
 ∃v' w',(Builtin.append_ #[t,t] ty #[v,.slice (some a) m c]).run P w=.ok v' w'∧Row w' e size v' (n+m) (xs++news)∧Za (fun k=>v.ownBlock=some k) w w'∧
  (v'.ownBlock=v.ownBlock∨∀k,v'.ownBlock=some k→w.heap.size≤k):=by
 rcases hown.shape with⟨rfl,rfl,rfl⟩|⟨g,cap,cur,rfl,hb,hc,hm,hs,htk⟩
 · obtain⟨v',w',hr,ho,hg,_⟩:=run_append_own (P:=P) w w.heap.size t ty e i z size bytes ht hi hz hsize hby hzs hsz (.slice none 0 0) 0 [] (World.ownsRow_nil w _ e size) a m c news hl hnews h1 h63 hbytes (Nat.le_refl _);refine⟨v',w',hr,⟨ho.1,?_⟩,Za.of_grown hg,.inr fun k hk=>(ho.lt k hk).1⟩;rcases ho.2 with h|⟨g,cap,cur,hv,_,r⟩
   · exact .inl h
   · exact .inr ⟨g,cap,cur,hv,Nat.zero_le _,r⟩
 · by_cases hroom:n+m≤cap
   · obtain⟨v',w',hr,ho,hg,_⟩:=run_append_own (P:=P) w 0 t ty e i z size bytes ht hi hz hsize hby hzs hsz _ n xs hown a m c news hl hnews h1 h63 hbytes (Nat.zero_le _);subst hsize;have hlt:∀j,j<news.length→n*i.size+j<cur.size:=by
      intro j hj;rw[hs];have:(n+m)*i.size≤cap*i.size:=Nat.mul_le_mul_right _ hroom;rw[Nat.add_mul]at this;omega
     have hr2:=run_append_room_cells (P:=P) w t ty e i ht hi g 0 n cap a m c news hl hnews h1 hroom
      (fun j hj=>by rw[Nat.zero_add,hb.cell,Array.getElem?_eq_getElem (hlt j hj)];rfl) (fun j _=>hb.free _)
     rw[hr]at hr2;injection hr2 with e1 e2;exact⟨v',w',hr,ho,Za.of_grown hg,.inl (by rw[e1];rfl)⟩
   · obtain⟨v',w',hr,ho,hg⟩:=run_append_arg_grows (P:=P) w t ty e i z size bytes ht hi hz hsize hby hzs hsz ⟨g,0,none⟩ n cap xs hown.1 (fun j u hj=>World.ownsRow.cells hown rfl j u hj) a m c news hl hnews (by omega) h63 hbytes;refine⟨v',w',hr,⟨ho.1,?_⟩,(Za.of_grown hg).mono (fun k hk=>by simp at hk),.inr fun k hk=>(ho.lt k hk).1⟩;rcases ho.2 with h|⟨g,cap,cur,hv,_,r⟩
     · exact .inl h
     · exact .inr ⟨g,cap,cur,hv,Nat.zero_le _,r⟩
structure Zc (w w':World)(e:TypeId)(size:Nat)(v v':Value)(n m:Nat)(xs news:List Value):Prop where
 row:Row w' e size v' (n+m) (xs++news)
 kept:Za (fun k=>v.ownBlock=some k) w w'
 own:v'.ownBlock=v.ownBlock∨∀k,v'.ownBlock=some k→w.heap.size≤k
theorem Yn {P:Program}(w:World){o:Oper}{a:Act}{K:Act→World→Prop}{Q:Exit→Act→World→Prop}(s x:Operand)(t:TypeId)
 (ho:o.op=.call {callee:=.builtin .append,args:=#[s,x],argTypes:=#[t,t]})
 (e:TypeId) (i:TypeInfo) (z:Value) (size bytes:Nat) (ht:P.underlying t=some (.slice e)) (hi:P.info? e=some i) (hz:i.zero=some z)
 (hsize:i.size=size) (hby:i.bytes=bytes) (hzs:z.cells.size=size) (hsz:0<size)
 (v:Value) (n:Nat) (xs:List Value) (hs:a.eval s=v) (hown:Row w e size v n xs)
 (ad:Addr) (m c:Nat) (news:List Value) (hx:a.eval x=.slice (some ad) m c) (hl:news.length=m*size) (hnews:∀j u,news[j]?=some u→w.cell? (ad.add j)=some u) (h1:∀u∈news,u.oneCell'=true)
 (h63:n+m≤maxLen) (hbytes:(n+m)*bytes≤140737488355328)
 (h:∀v' w',Zc w w' e size v v' n m xs news→K (a.put o.dst v') w'):o.wp P a w K Q:=by
 obtain⟨v',w',hr,r1,r2,r3⟩:=V3 (P:=P) w t o.type e i z size bytes ht hi hz hsize hby hzs hsz v n xs hown ad m c news hl hnews h1 h63 hbytes;unfold Oper.wp;simp[execOp,ho,resolve,invoke,builtin,hs,hx,hr,Result.andThen];exact h v' w' ⟨r1,r2,r3⟩
theorem Zf {P:Program}(w:World){ops:Array Oper}{rest:List Oper}{o:Oper}{a:Act}{Q:Exit→Act→World→Prop}(hgd:o.guard=none)(s x:Operand)(t:TypeId)
 (ho:o.op=.call {callee:=.builtin .append,args:=#[s,x],argTypes:=#[t,t]})
 (e:TypeId) (i:TypeInfo) (z:Value) (size bytes:Nat) (ht:P.underlying t=some (.slice e)) (hi:P.info? e=some i) (hz:i.zero=some z)
 (hsize:i.size=size) (hby:i.bytes=bytes) (hzs:z.cells.size=size) (hsz:0<size)
 (v:Value) (n:Nat) (xs:List Value) (hs:a.eval s=v) (hown:Row w e size v n xs)
 (ad:Addr) (m c:Nat) (news:List Value) (hx:a.eval x=.slice (some ad) m c) (hl:news.length=m*size) (hnews:∀j u,news[j]?=some u→w.cell? (ad.add j)=some u) (h1:∀u∈news,u.oneCell'=true)
 (h63:n+m≤maxLen) (hbytes:(n+m)*bytes≤140737488355328)
 (h:∀v' w',Zc w w' e size v v' n m xs news→wpList P ops Q rest (a.put o.dst v') w'):wpList P ops Q (o::rest) a w:=
 wpList_plain hgd fun _ hK=>Yn w s x t ho e i z size bytes ht hi hz hsize hby hzs hsz v n xs hs hown ad m c news hx hl hnews h1 h63 hbytes fun v' w' h2=>hK _ _ (h v' w' h2)
theorem Zw {P:Program}{w:World}{ops:Array Oper}{o:Oper}{a:Act}{K:Act→World→Prop}{Q:Exit→Act→World→Prop}{E:Prop}(hgd:o.guard=none)(s x:Operand)(t:TypeId)
 (ho:o.op=.call {callee:=.builtin .append,args:=#[s,x],argTypes:=#[t,t]})
 (e:TypeId) (i:TypeInfo) (z:Value) (size bytes:Nat) (ht:P.underlying t=some (.slice e)) (hi:P.info? e=some i) (hz:i.zero=some z)
 (hsize:i.size=size) (hby:i.bytes=bytes) (hzs:z.cells.size=size) (hsz:0<size)
 (v:Value) (n:Nat) (xs:List Value) (hs:a.eval s=v) (hown:Row w e size v n xs)
 (ad:Addr) (m c:Nat) (news:List Value) (hx:a.eval x=.slice (some ad) m c) (hl:news.length=m*size) (hnews:∀j u,news[j]?=some u→w.cell? (ad.add j)=some u) (h1:∀u∈news,u.oneCell'=true)
 (h63:n+m≤maxLen) (hbytes:(n+m)*bytes≤140737488355328)
 (h:∀v' w',Zc w w' e size v v' n m xs news→K (a.put o.dst v') w'):if Region.wanted o (yielded ops a.tmps)=true then Oper.wp P o a w K Q else E:=by
 have hw:Region.wanted o (yielded ops a.tmps)=true:=by simp[Region.wanted,hgd]
 rw[if_pos hw];exact Yn w s x t ho e i z size bytes ht hi hz hsize hby hzs hsz v n xs hs hown ad m c news hx hl hnews h1 h63 hbytes h
end Go.Proofs.YtpfcacedpkaihaaGreat
