import Derived.OrdersHeld
import Derived.Test.YtpfcacedpkaihaaGreatC3
namespace Go.Proofs.YtpfcacedpkaihaaGreat
open Go.RowKit
set_option maxRecDepth 100000
set_option maxHeartbeats 16000000
section
variable {P:Program} {md:Region.Mode} {ops:Array Oper} {Q:Exit→Act→World→Prop} {c:Nat} {S:World→Prop}
def XG (P:Program)(md:Region.Mode)(ops:Array Oper)(Q:Exit→Act→World→Prop)(c:Nat)(S:World→Prop):Nat→Array Bool→Act→World→Prop
 |0,listed,a,w=>Region.ready md ops listed=[]∧Q .normal a w
 |fuel+1,listed,a,w=>(Region.ready md ops listed=[]→Q .normal a w)∧
  ∀i∈Region.ready md ops listed,wpOp P ops Q i (fun a' w'=>if i=c then wpAny P md ops Q fuel (listed.setIfInBounds i true) a' w' else S w'∧XG P md ops Q c S fuel (listed.setIfInBounds i true) a' w') a w
theorem Zcd :∀(fuel:Nat)(listed:Array Bool)(a:Act)(w:World),XG P md ops Q c S fuel listed a w→wpAny P md ops Q fuel listed a w
 |0,_,_,_,h=>h
 |fuel+1,_,_,_,h=>⟨h.1,fun i hi=>wpOp_mono (fun a' w' h'=>by
  by_cases e:i=c
  · rw[if_pos e]at h';exact h'
  · rw[if_neg e]at h';exact Zcd fuel _ a' w' h'.2) (h.2 i hi)⟩
def Uj (md:Region.Mode)(ops:Array Oper)(c i:Nat):Bool:=((ops[c]?).map fun o=>o.after.any fun e=>e.on==i&&Region.binds md e).getD false
theorem Ug {i:Nat}{listed:Array Bool}(h:Uj md ops c i=true)(hi:i∈Region.ready md ops listed):c∉Region.ready md ops listed:=by
 intro hc;obtain⟨_,oc,hoc,hall⟩:=mem_ready.1 hc;obtain⟨h0,oi,hoi,_⟩:=mem_ready.1 hi;unfold Uj at h;rw[hoc]at h;simp only[Option.map_some,Option.getD_some,Array.any_eq_true]at h;obtain⟨k,hk,he⟩:=h;rw[Bool.and_eq_true]at he;have h1:=hall oc.after[k] (Array.getElem_mem hk) he.2;have e1:oc.after[k].on=i:=by simpa using he.1
 rw[e1]at h1;rcases Nat.lt_or_ge i listed.size with h'|h'
 · simp[h']at h0 h1;rw[h0]at h1;cases h1
 · simp[Array.getElem?_eq_none h']at h1
theorem Zdx {i:Nat}{oi:Oper}{v:Value}(hi:ops[i]?=some oi)(hw:Uj md ops c i=true)(hsel:∀(j:Nat)(o:Oper) cs b,ops[j]?=some o→o.op≠.select cs b)
 (hQ:∀x a w,Q (.panic x) (a.put oi.dst v) w→Q (.panic x) a w):
 ∀(fuel:Nat)(listed:Array Bool)(a:Act)(w:World),
  (∀j oj,ops[j]?=some oj→j≠i→listed.getD j true=false→(∀e∈oj.after,Region.binds md e=true→e.on≠i)→oi.apart ops oj=true)→
  i∈Region.ready md ops listed→YieldsIf P ops S oi v a→S w→
  XG P md ops Q c S fuel (listed.setIfInBounds i true) (a.put oi.dst v) w→XG P md ops Q c S (fuel+1) listed a w:=by
 intro fuel;have hic:∀listed,i∈Region.ready md ops listed→i≠c:=fun listed hr e=>Ug hw hr (e▸hr)
 induction fuel with
 |zero=>
  intro listed a w _ hr hy hS H;refine⟨fun h=>(by rw[h]at hr;cases hr),fun j hj=> ?_⟩;by_cases hji:j=i
  · subst hji;refine hy.wpOp hi hS ?_;rw[if_neg (hic listed hr)];exact⟨hS,H⟩
  · have:=ready_mono hj hji;rw[H.1]at this;cases this
 |succ fuel ih=>
  intro listed a w hfree hr hy hS H;refine⟨fun h=>(by rw[h]at hr;cases hr),fun j hj=> ?_⟩;by_cases hji:j=i
  · subst hji;refine hy.wpOp hi hS ?_;rw[if_neg (hic listed hr)];exact⟨hS,H⟩
  · have hjc:j≠c:=fun e=>Ug hw hr (e▸hj);have h1:=H.2 j (ready_mono hj hji);simp only[if_neg hjc]at h1⊢;obtain⟨hjun,oj,hoj,hall⟩:=mem_ready.1 hj;have hnot:∀e∈oj.after,Region.binds md e=true→e.on≠i:=fun e he hb heq=>by
     have h1:=hall e he hb;have h0:=(mem_ready.1 hr).1;rw[heq]at h1;rcases Nat.lt_or_ge i listed.size with h'|h'
     · simp[h']at h0 h1;rw[h0]at h1;cases h1
     · simp[Array.getElem?_eq_none h']at h1
    have h2:=wpOp_putIf hoj (hfree j oj hoj hji hjun hnot) (fun cs b=>hsel i oi cs b hi) (fun cs b=>hsel j oj cs b hoj) hQ hy h1;have hfree':∀k ok,ops[k]?=some ok→k≠i→(listed.setIfInBounds j true).getD k true=false→
     (∀e∈ok.after,Region.binds md e=true→e.on≠i)→oi.apart ops ok=true:=fun k ok hk hki hun hno=>by
     refine hfree k ok hk hki ?_ hno;by_cases hjk:j=k
     · subst hjk;exact hjun
     · rw[getD_set_ne true hjk]at hun;exact hun
    refine wpOp_mono (fun a' w' h3=>⟨h3.2.1,ih (listed.setIfInBounds j true) a' w' hfree' (ready_mono hr (Ne.symm hji)) h3.1 h3.2.1 ?_⟩) h2;rw[Array.setIfInBounds_comm _ _ hji];exact h3.2.2
theorem Zcv {i:Nat}{oi:Oper}{v:Value}{fuel:Nat}{listed:Array Bool}{a:Act}{w:World}(hi:ops[i]?=some oi)(hw:Uj md ops c i=true)
 (hs:Region.noSelect ops=true) (hf:Region.free md ops listed i=true) (hr:(Region.ready md ops listed).contains i=true)
 (hQ:∀x a w,Q (.panic x) (a.put oi.dst v) w→Q (.panic x) a w) (hS:S w) (hy:YieldsIf P ops S oi v a)
 (h:XG P md ops Q c S fuel (listed.setIfInBounds i true) (a.put oi.dst v) w):XG P md ops Q c S (fuel+1) listed a w:=
 Zdx hi hw (Region.noSelect_spec hs) hQ fuel listed a w (Region.free_spec hi hf) (by simpa using hr) hy hS h
theorem ZcT {p:Nat}{oi:Oper}{v:Value}{fuel:Nat}{listed:Array Bool}{a:Act}{w:World}(hi:ops[p+1]?=some oi)(hw:Uj md ops c (p+1)=true)
 (hs:Region.noSelect ops=true) (hf:Region.free md ops (listed.setIfInBounds p true) (p+1)=true) (hr:(Region.ready md ops (listed.setIfInBounds p true)).contains (p+1)=true)
 (hQ:∀x a w,Q (.panic x) (a.put oi.dst v) w→Q (.panic x) a w) (hS:S w) (hy:YieldsIf P ops S oi v a)
 (h:XG P md ops Q c S fuel ((listed.setIfInBounds p true).setIfInBounds (p+1) true) (a.put oi.dst v) w):XG P md ops Q c S (fuel+1) (listed.setIfInBounds p true) a w:=
 Zcv hi hw hs hf hr hQ hS hy h
theorem YI {j:Nat}{o:Oper}{fuel:Nat}{listed:Array Bool}{a:Act}{w:World}(hr:Region.ready md ops listed=[j])(ho:ops[j]?=some o)(hg:o.guard=none)(hj:j≠c)
 (h:∀K:Act→World→Prop,Hid (∀a' w',S w'→XG P md ops Q c S fuel (listed.setIfInBounds j true) a' w'→K a' w')→o.wp P a w K Q):XG P md ops Q c S (fuel+1) listed a w:=by
 refine⟨fun h0=>(by rw[hr]at h0;cases h0),fun i hi=> ?_⟩;rw[hr]at hi;obtain rfl:i=j:=by simpa using hi
 unfold wpOp;simp only[ho,Region.wanted,hg,if_neg hj];exact .inl (h _ fun a' w' h1 h2=>⟨h1,h2⟩)
theorem Zc6 {o:Oper}{fuel:Nat}{listed:Array Bool}{a:Act}{w:World}(hr:Region.ready md ops listed=[c])(ho:ops[c]?=some o)(hg:o.guard=none)(hd:Region.ready md ops (listed.setIfInBounds c true)=[])
 (h:∀K:Act→World→Prop,Hid (∀a' w',Q .normal a' w'→K a' w')→o.wp P a w K Q):XG P md ops Q c S (fuel+1) listed a w:=by
 refine⟨fun h0=>(by rw[hr]at h0;cases h0),fun i hi=> ?_⟩;rw[hr]at hi;obtain rfl:i=c:=by simpa using hi
 unfold wpOp;simp only[ho,Region.wanted,hg];refine .inl (h _ fun a' w' h1=> ?_)
 match fuel with
 |0=>exact⟨hd,h1⟩
 |fuel+1=>exact⟨fun _=>h1,by rw[hd];simp⟩
theorem Zbh {id:Nat}{a:Act}{w:World}(c:Nat)(S:World→Prop)(hm:P.follows .mixedOrders=true)(h:XG P .any ops Q c S ops.size (Array.replicate ops.size false) a w.drew):(Code.region id ops true).wp P Q a w:=
 wp_region_any hm (Zcd _ _ _ _ h)
end
end Go.Proofs.YtpfcacedpkaihaaGreat
