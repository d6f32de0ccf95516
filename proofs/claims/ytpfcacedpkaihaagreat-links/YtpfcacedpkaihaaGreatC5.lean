import Derived.Orders
import Derived.Test.YtpfcacedpkaihaaGreatC3
namespace Go.Proofs.YtpfcacedpkaihaaGreat
open Go.RowKit
set_option maxRecDepth 100000
set_option maxHeartbeats 16000000
theorem V1 {P:Program}(w:World)(t ty e:TypeId)(i:TypeInfo)(z:Value)(size bytes:Nat)(ht:P.underlying t=some (.slice e))(hi:P.info? e=some i)(hz:i.zero=some z)
  (hsize:i.size=size) (hby:i.bytes=bytes) (hzs:z.cells.size=size) (hsz:0<size) (v:Value) (n:Nat) (xs:List Value) (hown:Row w e size v n xs)
  (a:Addr) (m c:Nat) (hm0:0<m) (news:List Value) (hl:news.length=m*size) (hnews:∀j u,news[j]?=some u→w.cell? (a.add j)=some u) (h1:∀u∈news,u.oneCell'=true)
  (h63:n+m≤maxLen) (hbytes:(n+m)*bytes≤140737488355328):
  ∃v' w',(Builtin.append_ #[t,t] ty #[v,.slice (some a) m c]).run P w=.ok v' w'∧
   ((∃g cap,v=.slice (some ⟨g,0,none⟩) n cap∧n+m≤cap∧v'=.slice (some ⟨g,0,none⟩) (n+m) cap∧Row w' e size v n xs∧Za (fun k=>k=g) w w')∨
    (∃g cap,v'=.slice (some ⟨g,0,none⟩) (n+m) cap∧w.heap.size≤g∧Row w' e size v' (n+m) (xs++news)∧Za (fun _=>False) w w')):=by
 have mk:∀(v':Value)(w':World),w'.ownsRow w.heap.size e size v' (n+m) (xs++news)→∃g cap,v'=.slice (some ⟨g,0,none⟩) (n+m) cap∧w.heap.size≤g∧Row w' e size v' (n+m) (xs++news):=by
  intro v' w' ho;rcases ho.2 with⟨_,hn⟩|⟨g,cap,cur,hv,hg,r⟩
  · omega
  · exact⟨g,cap,hv,hg,ho.1,.inr ⟨g,cap,cur,hv,Nat.zero_le _,r⟩⟩
 rcases hown.shape with⟨rfl,rfl,rfl⟩|⟨g,cap,cur,rfl,hb,hc,hm,hs,htk⟩
 · obtain⟨v',w',hr,ho,hg,_⟩:=run_append_own (P:=P) w w.heap.size t ty e i z size bytes ht hi hz hsize hby hzs hsz (.slice none 0 0) 0 [] (World.ownsRow_nil w _ e size) a m c news hl hnews h1 h63 hbytes (Nat.le_refl _);obtain⟨G,cp,hv,hG,hR⟩:=mk v' w' ho;exact⟨v',w',hr,.inr ⟨G,cp,hv,hG,hR,(Za.of_grown hg).mono (fun k hk=>by simp[Value.ownBlock]at hk)⟩⟩
 · by_cases hroom:n+m≤cap
   · obtain⟨v',w',hr,ho,hg,_⟩:=run_append_own (P:=P) w 0 t ty e i z size bytes ht hi hz hsize hby hzs hsz _ n xs hown a m c news hl hnews h1 h63 hbytes (Nat.zero_le _);subst hsize;have hlt:∀j,j<news.length→n*i.size+j<cur.size:=by
      intro j hj;rw[hs];have:(n+m)*i.size≤cap*i.size:=Nat.mul_le_mul_right _ hroom;rw[Nat.add_mul]at this;omega
     have hr2:=run_append_room_cells (P:=P) w t ty e i ht hi g 0 n cap a m c news hl hnews h1 hroom
      (fun j hj=>by rw[Nat.zero_add,hb.cell,Array.getElem?_eq_getElem (hlt j hj)];rfl) (fun j _=>hb.free _)
     rw[hr]at hr2;injection hr2 with e1 e2;refine⟨v',w',hr,.inl ⟨g,cap,rfl,hroom,e1,?_,(Za.of_grown hg).mono fun k hk=>by simp[Value.ownBlock]at hk;exact hk.symm⟩⟩;have ho':Row w' e i.size v' (n+m) (xs++news):=ho;rcases ho'.shape with⟨_,hn,_⟩|⟨g2,cap2,cur2,hv2,hb2,_,_,hs2,ht2⟩
     · omega
     · rw[e1]at hv2;injection hv2 with q1 _ q2;injection q1 with q1;injection q1 with q1 _ _;subst q1 q2;refine⟨hown.1,.inr ⟨g,cap,cur2,rfl,Nat.zero_le _,hb2,hc,hm,hs2,?_⟩⟩;have hxl:=hown.1;have e3:xs.take (n*i.size)=xs:=List.take_of_length_le (by omega);have:(cur2.toList.take ((n+m)*i.size)).take (n*i.size)=(xs++news).take (n*i.size):=by rw[ht2]
       rw[List.take_take,Nat.min_eq_left (Nat.mul_le_mul_right _ (Nat.le_add_right n m)),List.take_append_of_le_length (by omega),e3]at this;exact this
   · obtain⟨v',w',hr,ho,hg⟩:=run_append_arg_grows (P:=P) w t ty e i z size bytes ht hi hz hsize hby hzs hsz ⟨g,0,none⟩ n cap xs hown.1 (fun j u hj=>World.ownsRow.cells hown rfl j u hj) a m c news hl hnews (by omega) h63 hbytes;obtain⟨G,cp,hv,hG,hR⟩:=mk v' w' ho;exact⟨v',w',hr,.inr ⟨G,cp,hv,hG,hR,(Za.of_grown hg).mono (fun k hk=>by simp at hk)⟩⟩
theorem Vd {P:Program}(w:World){o:Oper}{a:Act}{K:Act→World→Prop}{Q:Exit→Act→World→Prop}(s x:Operand)(t:TypeId)
  (ho:o.op=.call {callee:=.builtin .append,args:=#[s,x],argTypes:=#[t,t]})
  (e:TypeId) (i:TypeInfo) (z:Value) (size bytes:Nat) (ht:P.underlying t=some (.slice e)) (hi:P.info? e=some i) (hz:i.zero=some z)
  (hsize:i.size=size) (hby:i.bytes=bytes) (hzs:z.cells.size=size) (hsz:0<size)
  (v:Value) (n:Nat) (xs:List Value) (hs:a.eval s=v) (hown:Row w e size v n xs)
  (ad:Addr) (m c:Nat) (hm0:0<m) (news:List Value) (hx:a.eval x=.slice (some ad) m c) (hl:news.length=m*size) (hnews:∀j u,news[j]?=some u→w.cell? (ad.add j)=some u) (h1:∀u∈news,u.oneCell'=true)
  (h63:n+m≤maxLen) (hbytes:(n+m)*bytes≤140737488355328)
  (h:∀v' w',((∃g cap,v=.slice (some ⟨g,0,none⟩) n cap∧n+m≤cap∧v'=.slice (some ⟨g,0,none⟩) (n+m) cap∧Row w' e size v n xs∧Za (fun k=>k=g) w w')∨
   (∃g cap,v'=.slice (some ⟨g,0,none⟩) (n+m) cap∧w.heap.size≤g∧Row w' e size v' (n+m) (xs++news)∧Za (fun _=>False) w w'))→K (a.put o.dst v') w'):o.wp P a w K Q:=by
 obtain⟨v',w',hr,hp⟩:=V1 (P:=P) w t o.type e i z size bytes ht hi hz hsize hby hzs hsz v n xs hown ad m c hm0 news hl hnews h1 h63 hbytes;unfold Oper.wp;simp[execOp,ho,resolve,invoke,builtin,hs,hx,hr,Result.andThen];exact h v' w' hp
theorem Zho (l:List Bool)(i:Nat)(h:l[i]?=some false):((l.set i true).filter (fun b=> !b)).length+1=(l.filter (fun b=> !b)).length:=by
 induction l generalizing i with
 |nil=>simp at h
 |cons a r ih=>
  match i with
  |0=>simp at h;subst h;simp
  |i+1=>
   have:=ih i (by simpa using h);cases a<;>simp at this⊢ <;>omega
theorem Za7 {P:Program}{md:Region.Mode}{ops:Array Oper}{Q:Exit→Act→World→Prop}(J:Array Bool→Act→World→Prop)
  (hsize:∀listed a w,J listed a w→listed.size=ops.size)
  (hstep:∀listed a w i,J listed a w→i∈Region.ready md ops listed→wpOp P ops Q i (J (listed.setIfInBounds i true)) a w)
  (hend:∀listed a w,J listed a w→Region.ready md ops listed=[]→Q .normal a w):
  ∀(fuel:Nat)(listed:Array Bool)(a:Act)(w:World),J listed a w→(listed.toList.filter (fun b=> !b)).length≤fuel→wpAny P md ops Q fuel listed a w
 |0,listed,a,w,hJ,hf=>by
  have hr:Region.ready md ops listed=[]:=by
   cases h:Region.ready md ops listed with
   |nil=>rfl
   |cons i r=>
    have hi:i∈Region.ready md ops listed:=by rw[h];exact List.mem_cons_self ..
    obtain⟨h0,o,ho,_⟩:=mem_ready.1 hi;have hlt:i<listed.size:=by rw[hsize _ _ _ hJ];exact(Array.getElem?_eq_some_iff.mp ho).1
    have hm:false∈listed.toList.filter (fun b=> !b):=by
     rw[List.mem_filter];refine⟨?_,rfl⟩;have:listed[i]=false:=by simpa[Array.getD,hlt]using h0
     rw[←this];exact Array.getElem_mem_toList hlt
    have:=List.length_pos_of_mem hm;omega
  exact⟨hr,hend _ _ _ hJ hr⟩
 |fuel+1,listed,a,w,hJ,hf=>by
  refine⟨hend _ _ _ hJ,fun i hi=> ?_⟩;obtain⟨h0,o,ho,_⟩:=mem_ready.1 hi;have hlt:i<listed.size:=by rw[hsize _ _ _ hJ];exact(Array.getElem?_eq_some_iff.mp ho).1
  have hli:listed.toList[i]?=some false:=by
   rw[Array.getElem?_toList,Array.getElem?_eq_getElem hlt];simpa[Array.getD,hlt]using h0
  refine wpOp_mono (fun a' w' hJ'=>Za7 J hsize hstep hend fuel _ a' w' hJ' ?_) (hstep listed a w i hJ hi);have:=Zho listed.toList i hli;rw[Array.toList_setIfInBounds];omega
structure RJ (n tn:Nat)(dst:Nat→Nat)(A0:Nat→Value)(S:World→Prop)(V:Nat→World→Value→Prop)(listed:Array Bool)(a:Act)(w:World):Prop where
 size:listed.size=n
 tsz:a.tmps.size=tn
 dfr:a.defers=[]
 old:∀k,(∀i,i<n→dst i≠k)→a.tmps.getD k undef=A0 k
 s:S w
 val:∀i,i<n→listed.getD i false=true→V i w (a.tmps.getD (dst i) undef)
theorem RJ.step {n tn:Nat}{dst:Nat→Nat}{A0:Nat→Value}{S:World→Prop}{V:Nat→World→Value→Prop}{listed:Array Bool}{a:Act}{w w':World}(h:RJ n tn dst A0 S V listed a w)(i:Nat)(hi:i<n)(v:Value)(hd:dst i<tn)
  (hinj:∀j,j<n→j≠i→dst j≠dst i) (hmono:∀j x,V j w x→V j w' x) (hs:S w') (hv:V i w' v):RJ n tn dst A0 S V (listed.setIfInBounds i true) (a.put (some (dst i)) v) w':=by
 have get:∀k,(a.put (some (dst i)) v).tmps.getD k undef=if k=dst i then v else a.tmps.getD k undef:=by
  intro k;show(a.tmps.setIfInBounds (dst i) v).getD k undef=_;by_cases e:k=dst i
  · subst e;have:dst i<a.tmps.size:=by rw[h.tsz];exact hd
    simp[Array.getD,this]
  · rw[if_neg e];simp only[Array.getD_eq_getD_getElem?,Array.getElem?_setIfInBounds_ne (fun z=>e z.symm)]
 refine⟨by simp[h.size],by show(a.tmps.setIfInBounds _ _).size=tn;simp[h.tsz],h.dfr,fun k hk=> ?_,hs,fun j hj hl=> ?_⟩
 · rw[get,if_neg (fun e=>hk i hi e.symm)];exact h.old k hk
 · rw[get];by_cases e:j=i
   · subst e;rw[if_pos rfl];exact hv
   · rw[if_neg (hinj j hj e)];refine hmono j _ (h.val j hj ?_);simpa only[Array.getD_eq_getD_getElem?,Array.getElem?_setIfInBounds_ne (fun z=>e z.symm)]using hl
theorem ZA {P:Program}{ops:Array Oper}{Q:Exit→Act→World→Prop}{i:Nat}{o:Oper}{K:Act→World→Prop}{a:Act}{w:World}(hi:ops[i]?=some o)(hg:o.guard=none)(h:o.wp P a w K Q):wpOp P ops Q i K a w:=by
 unfold wpOp;simp only[hi,Region.wanted,hg];exact .inl h
theorem Zck {md:Region.Mode}{ops:Array Oper}{listed:Array Bool}(hs:listed.size=ops.size)(hd:∀(i:Nat)(o:Oper),ops[i]?=some o→∀e∈o.after,e.on<i)(hr:Region.ready md ops listed=[]):∀i,i<ops.size→listed.getD i false=true:=by
 intro i
 induction i using Nat.strongRecOn with
 |_ i ih=>
  intro hi;cases hl:listed.getD i false with
  |true=>rfl
  |false=>
   have hlt:i<listed.size:=by omega
   have hm:i∈Region.ready md ops listed:=by
    refine mem_ready.2 ⟨by simpa[Array.getD,hlt]using hl,ops[i],Array.getElem?_eq_getElem hi,fun e he _=> ?_⟩;have:=hd i ops[i] (Array.getElem?_eq_getElem hi) e he;exact ih e.on this (by omega)
   rw[hr]at hm;cases hm
end Go.Proofs.YtpfcacedpkaihaaGreat
