import Derived.Test.YtpfcacedpkaihaaGreatC30
import Derived.Test.YtpfcacedpkaihaaGreatC33
import Derived.Test.YtpfcacedpkaihaaGreatC14
namespace Go.Proofs.YtpfcacedpkaihaaGreat
open Go.RowKit
set_option maxRecDepth 100000
set_option maxHeartbeats 16000000
theorem ZfM {l:List Zj}{tick:Int}{j:Nat}(hj:j≤l.length)(hb:∀i (h:i<l.length),i<j→l[i].tick<tick)(hs:∀(h:j<l.length),tick≤l[j].tick)(z:Zj):Zfi (z::l) tick j:=by
 refine⟨by simp;omega,?_,?_⟩
 · by_cases e:j<l.length
   · have:=hs e;simp[Xp,List.getElem?_eq_getElem e,this]
   · have:j=l.length:=by omega
     simp[Xp,this]
 · intro i hi;have hil:i<l.length:=by omega
   have:=hb i hil hi;have h2:¬i=l.length:=by omega
   simp[Xp,List.getElem?_eq_getElem hil,h2];omega
theorem Zfi.unique {l:List Zj}{tick:Int}{a b:Nat}(h:Zfi l tick a)(k:Zfi l tick b):a=b:=by
 rcases Nat.lt_trichotomy a b with x|x|x
 · have:=k.2.2 a x;rw[h.2.1]at this;cases this
 · exact x
 · have:=h.2.2 b x;rw[k.2.1]at this;cases this
def Bd (p:Zj):Prop:=∀k,-2147483648≤p.st k∧p.st k<2147483648
def BdW (ws:List (Int×Int)):Prop:=∀x∈ws,-2147483648≤x.2∧x.2<2147483648
theorem Bd.write {p:Zj}(h:Bd p){x:Int×Int}(hx: -2147483648≤x.2∧x.2<2147483648):Bd (Vx p x):=by
 intro k;show-2147483648≤(if k=x.1.toNat then x.2 else p.st k)∧(if k=x.1.toNat then x.2 else p.st k)<2147483648
 split
 · exact hx
 · exact h k
theorem Bd.writes {p:Zj}(h:Bd p){ws:List (Int×Int)}(hw:BdW ws):Bd (Yd p ws):=by
 induction ws generalizing p with
 |nil=>exact h
 |cons x r ih=>exact ih (h.write (hw x (List.mem_cons_self ..))) fun y hy=>hw y (List.mem_cons_of_mem _ hy)
def Ya (l:List Zj)(t:Nat):Int:=(l[t]?.map Zj.keys).getD 0
theorem Zbb {l:List Zj}{t:Nat}(q:Zj)(h:t<l.length):Ya (l++[q]) t=Ya l t:=by
 unfold Ya;rw[List.getElem?_append_left h]
theorem Zgi (l:List Zj)(q:Zj):Ya (l++[q]) l.length=q.keys:=by simp[Ya]
def XE (l:List Zj)(since hz:Nat):List (Nat×Int):=(List.range' (max since (hz-6)+1) (hz-max since (hz-6))).map fun t=>(t,Ya l t)
def V2 (us:List Int)(x:Int):Int:=YY us x us.length
structure ZX (past:List Zj)(us:List Int)(s:Zb)(n:ZD):Prop where
 up:n.up=s.up
 hz:n.horizon=s.horizon
 since:n.since≤n.horizon
 ents:n.ents=s.ents.map (·.e)
 fls:n.fls=s.flight.map (·.1)
 flk:∀c∈s.flight,c.1<past.length∧c.2=Ya past c.1
 wts:n.wts=s.waits.map (·.1)
 wtk:∀c∈s.waits,c.1<past.length∧c.2=Ya past c.1
 hist:s.hists=XE past n.since n.horizon
 top:n.horizon<past.length
 nml:n.nms.length=s.ents.length
 used:∀x∈s.ents,x.used≤s.uses
 order:∀(i j:Nat)(x y:Zu)(a b:Int),s.ents[i]?=some x→s.ents[j]?=some y→n.nms[i]?=some a→n.nms[j]?=some b→(x.used<y.used↔V2 us a<V2 us b)
structure Sim (P:DP)(R:Zd):Prop where
 past:R.past=zeroP::P.past
 clock:R.clock=P.clock
 rdr:V5 P.begun P.seats R.rdrs P.past.length
 puts:R.puts=P.puts
 bd:∀p∈P.past,Bd p
 len:R.nodes.length=P.sites.length
 node:∀(k:Nat)(s:Zb)(nd:Zi),P.sites[k]?=some s→R.nodes[k]?=some nd→ZX R.past R.uses s nd.p
 room:∀s∈P.sites,s.room=R.room
 names:(R.nodes.flatMap (·.nms)).Nodup
 fresh:∀x∈R.nodes.flatMap (·.nms),0≤x∧x<R.next
theorem Sim.plen {P:DP}{R:Zd}(h:Sim P R):R.past.length=P.past.length+1:=by rw[h.past];simp
theorem ZhK {l:List Zj}{a b:Nat}(q:Zj)(h:b<l.length):XE (l++[q]) a b=XE l a b:=by
 unfold XE;refine List.map_congr_left fun t ht=> ?_;rw[List.mem_range']at ht;obtain⟨i,hi,rfl⟩:=ht;rw[Zbb q (by omega)]
theorem ZX.tell {l:List Zj}{us:List Int}{s:Zb}{nd:Zi}(h:ZX l us s nd.p)(q:Zj)(v:Value):ZX (l++[q]) us (s.tell l.length q.keys) (Xi nd l.length v).p:=by
 have hup:nd.up=s.up:=h.up;have hhz:nd.horizon=s.horizon:=h.hz;have hfl:nd.fls=s.flight.map (·.1):=h.fls;have hag:Xv l.length nd.fls=(s.age l.length).flight.map (·.1):=by
  unfold Xv Zb.age;rw[hfl,List.filter_map];rfl
 have hlag:(s.age l.length).lags l.length=V4 nd l.length:=by
  unfold Zb.lags V4 Zb.age;rw[hup,hhz]
 have hk:∀c∈(s.age l.length).flight,c.1<(l++[q]).length∧c.2=Ya (l++[q]) c.1:=by
  intro c hc;have hc':c∈s.flight:=(List.mem_filter.mp hc).1;have:=h.flk c hc';exact⟨by simp;omega,by rw[Zbb q this.1];exact this.2⟩
 have hlast:(l.length:Nat)<(l++[q]).length∧q.keys=Ya (l++[q]) l.length:=⟨by simp,by rw[Zgi]⟩;unfold Zb.tell Xi leftN;rw[hlag];cases hf:V4 nd l.length with
 |true=>
  refine⟨rfl,rfl,Nat.le_refl _,rfl,rfl,?_,rfl,?_,rfl,by simp[Zi.p,zeroN],rfl,?_,?_⟩
  · intro c hc;have:c=(l.length,q.keys):=by simpa[Zb.send,Zb.clear,Zb.fall]using hc
    subst this;exact hlast
  · intro c hc;simp[Zb.send,Zb.clear,Zb.fall]at hc
  · intro x hx;simp[Zb.send,Zb.clear,Zb.fall]at hx
  · intro i j x y a b hx;simp[Zb.send,Zb.clear,Zb.fall]at hx
 |false=>
  have hlen:(Xv l.length nd.fls).length=(s.age l.length).flight.length:=by rw[hag,List.length_map]
  have hw:∀c∈s.waits,c.1<(l++[q]).length∧c.2=Ya (l++[q]) c.1:=fun c hc=>by
   have:=h.wtk c hc;exact⟨by simp;omega,by rw[Zbb q this.1];exact this.2⟩
  have hh:s.hists=XE (l++[q]) nd.since nd.horizon:=(h.hist).trans (ZhK (a:=nd.since) (b:=nd.horizon) q h.top).symm;have ht:nd.horizon<(l++[q]).length:=by have:=h.top;simp only[List.length_append,List.length_singleton];exact Nat.lt_succ_of_lt this
  by_cases h12:12≤(s.age l.length).flight.length
  · have e:((if false=true then(s.age l.length).fall.clear else s.age l.length).send (l.length,q.keys))=s.age l.length:=by simp[Zb.send,h12]
    rw[e];have e2:¬(Xv l.length nd.fls).length<12:=by omega
    refine⟨h.up,h.hz,h.since,h.ents,?_,hk,h.wts,hw,hh,ht,h.nml,h.used,h.order⟩;simp only[Zi.p,Bool.false_eq_true,if_false,e2];exact hag
  · have e:((if false=true then(s.age l.length).fall.clear else s.age l.length).send (l.length,q.keys))={s.age l.length with flight:=(s.age l.length).flight++[(l.length,q.keys)]}:=by simp[Zb.send,h12]
    rw[e];have e2:(Xv l.length nd.fls).length<12:=by omega
    refine⟨h.up,h.hz,h.since,h.ents,?_,?_,h.wts,hw,hh,ht,h.nml,h.used,h.order⟩
    · simp only[Zi.p,Bool.false_eq_true,if_false,e2,if_true];rw[hag,List.map_append];rfl
    · intro c hc;rw[List.mem_append,List.mem_singleton]at hc;rcases hc with hc|rfl
      · exact hk c hc
      · exact hlast
theorem Zjd {P:DP}{R:Zd}{p:Zj}{t:Nat}(h:Sim P R)(hp:R.past[t]?=some p):VU P.past t=p.st∧Bd p:=by
 rw[h.past]at hp;unfold VU
 match t,hp with
 |0,hp=>simp at hp;subst hp;exact⟨rfl,fun k=>⟨by simp[zeroP],by simp[zeroP]⟩⟩
 |t+1,hp=>
  rw[List.getElem?_cons_succ]at hp;rw[if_neg (by omega),Nat.add_sub_cancel,hp];exact⟨rfl,h.bd p (List.mem_of_getElem? hp)⟩
theorem Sim.last {P:DP}{R:Zd}{p:Zj}(h:Sim P R)(hp:R.past[R.past.length-1]?=some p)(ws:List (Int×Int)):P.nextP ws=Yd {p with keys:=0,tick:=R.clock} ws:=by
 rw[h.plen,Nat.add_sub_cancel]at hp;have:=(Zjd h hp).1;unfold DP.nextP;unfold VU at this;rw[this,h.clock]
theorem ZfL {l l':List Zi}{t:Nat}(h:VM l l' t l.length)(hn:(l.flatMap (·.nms)).Nodup):(l'.flatMap (·.nms)).Nodup∧∀x∈l'.flatMap (·.nms),x∈l.flatMap (·.nms):=by
 have hs:List.Sublist (l'.flatMap (·.nms)) (l.flatMap (·.nms)):=by
  obtain⟨hl,hj⟩:=h;have key:∀(l l':List Zi),l'.length=l.length→(∀(j:Nat)(nd:Zi),l[j]?=some nd→∃v,l'[j]?=some (Xi nd t v))→List.Sublist (l'.flatMap (·.nms)) (l.flatMap (·.nms)):=by
   intro l
   induction l with
   |nil=>intro l' hl _;rw[List.length_nil,List.length_eq_zero_iff]at hl;subst hl;exact List.Sublist.refl _
   |cons a r ih=>
    intro l' hl hj
    match l' with
    |[]=>simp at hl
    |b::r'=>
     have hr:=ih r' (by simpa using hl) fun j nd hnd=>by simpa using hj (j+1) nd (by simpa using hnd)
     obtain⟨v,hv⟩:=hj 0 a rfl;simp at hv;subst hv;rw[List.flatMap_cons,List.flatMap_cons];refine List.Sublist.append ?_ hr;unfold Xi leftN
     split
     · exact List.nil_sublist _
     · exact List.Sublist.refl _
  exact key l l' hl fun j nd hnd=>(hj j nd hnd).1 (List.getElem?_eq_some_iff.mp hnd).1
 exact⟨hn.sublist hs,fun x hx=>hs.subset hx⟩
theorem Zh0 (s:Zb)(t:Nat)(K:Int):(s.tell t K).room=s.room:=by
 unfold Zb.tell Zb.send
 split<;>split<;>rfl
theorem Sim.commit {P:DP}{R:Zd}{p:Zj}{ws:List (Int×Int)}{v':Value}{l:List Zi}(h:Sim P R)(hp:R.past[R.past.length-1]?=some p)(ht:VM R.nodes l R.past.length R.nodes.length)(hw:BdW ws):
 Sim (P.push (P.nextP ws)) {R.pushP (Yd {p with keys:=0,tick:=R.clock} ws) v' with nodes:=l}:=by
 have hq:=h.last hp ws;have hlen:=h.plen;have hn:=ZfL ht h.names;refine⟨?_,h.clock,?_,h.puts,?_,?_,?_,?_,hn.1,fun x hx=>h.fresh x (hn.2 x hx)⟩
 · show R.past++[_]=zeroP::(P.past++[_]);rw[h.past,hq];rfl
 · show V5 P.begun P.seats R.rdrs (P.past++[_]).length;exact h.rdr.top (by simp)
 · intro y hy;have hy':y∈P.past++[P.nextP ws]:=hy;rw[List.mem_append,List.mem_singleton]at hy';rcases hy' with hy'|rfl
   · exact h.bd y hy'
   · rw[hq];refine Bd.writes ?_ hw;rw[hlen,Nat.add_sub_cancel]at hp;exact(Zjd h hp).2
 · show l.length=(P.sites.map _).length;rw[ht.1,List.length_map];exact h.len
 · intro k s nd hs hnd;have hs':(P.sites.map fun s=>s.tell (P.past.length+1) (P.nextP ws).keys)[k]?=some s:=hs;rw[List.getElem?_map]at hs';obtain⟨s0,hs0,rfl⟩:=Option.map_eq_some_iff.mp hs';have hk:k<R.nodes.length:=by rw[h.len];exact(List.getElem?_eq_some_iff.mp hs0).1
   have h0:=List.getElem?_eq_getElem hk;obtain⟨v,hv⟩:=(ht.2 k _ h0).1 hk;have hnd':l[k]?=some nd:=hnd;rw[hv]at hnd';injection hnd' with e;subst e;have:=(h.node k s0 _ hs0 h0).tell (P.nextP ws) v;rw[hlen]at this;show ZX (R.past++[_]) R.uses _ _;rw[←hq,hlen];exact this
 · intro s hs;obtain⟨s0,hs0,rfl⟩:=List.mem_map.mp hs;rw[Zh0];exact h.room s0 hs0
theorem Zdi {R R':Zd}(h:R'.rows.map Yw.v=R.rows.map Yw.v){b k:Nat}(hk:R'.fp b k):R.fp b k:=by
 rcases hk with hk|⟨r,hr,hk⟩
 · exact .inl hk
 · have:r.v∈R.rows.map Yw.v:=by rw[←h];exact List.mem_map_of_mem hr
   obtain⟨r',hr',e⟩:=List.mem_map.mp this;exact .inr ⟨r',hr',by rw[e];exact hk⟩
def pfp (xb cb:Nat)(D:Ze)(R:Zd)(k:Nat):Prop:=D.fp xb k∨R.fp cb k
structure ZP (w:World)(xb cb:Nat)(D:Ze)(R:Zd):Prop where
 dev:Dev w xb D
 ref:Ref w cb R
 sim:Sim D.pu R
 good:D.pu.Good R.uses.length
 rfit:R.Fit
 nx0:0≤R.next
 nx1:R.next≤(R.uses.length:Int)
 sep:∀k,D.fp xb k→¬R.fp cb k
theorem ZP.kept {w w':World}{xb cb:Nat}{D:Ze}{R:Zd}{F:Nat→Prop}(h:ZP w xb cb D R)(k:Za F w w')(hF:∀j,pfp xb cb D R j→¬F j):ZP w' xb cb D R:=
 ⟨h.dev.kept k fun j hj=>hF j (.inl hj),h.ref.kept k fun j hj=>hF j (.inr hj),h.sim,h.good,h.rfit,h.nx0,h.nx1,h.sep⟩
theorem ZP.lt {w:World}{xb cb:Nat}{D:Ze}{R:Zd}(h:ZP w xb cb D R):∀k,pfp xb cb D R k→k<w.heap.size:=fun k hk=>hk.elim (h.dev.lt k) (h.ref.lt k)
theorem ZP.dfit {w:World}{xb cb:Nat}{D:Ze}{R:Zd}(h:ZP w xb cb D R):D.Fit:=⟨h.good.pmax,h.good.clk0,h.good.clk1,h.good.bmax,h.good.qmax⟩
def ZR (w w':World)(xb cb:Nat)(D:Ze)(R:Zd):Prop:=
 ∃D' R',ZP w' xb cb D' R'∧Za (pfp xb cb D R) w w'∧(∀k,pfp xb cb D' R' k→pfp xb cb D R k∨w.heap.size≤k)∧R'.uses.length≤R.uses.length+1
theorem ZR.same {w w':World}{xb cb:Nat}{D:Ze}{R:Zd}{F:Nat→Prop}(h:ZP w xb cb D R)(k:Za F w w')(hF:∀j,j<w.heap.size→¬F j):ZR w w' xb cb D R:=
 ⟨D,R,h.kept k (fun j hj=>hF j (h.lt j hj)),⟨k.os,k.tape,k.output,k.size,fun i hi _=>k.block i hi (hF i hi)⟩,fun _ hk=>.inl hk,Nat.le_succ _⟩
def Xt (f:FuncId)(args:Array Value)(w w1:World)(xb cb:Nat)(D:Ze)(R:Zd)(v:Value):Prop:=
 Za (D.fp xb) w w1∧∀w2,Za (fun _=>False) w1 w2→Calls Tryz.prog f args w2 fun e w3=>e=.returned v∧ZR w w3 xb cb D R∧Za (R.fp cb) w2 w3
theorem ZP.turned {w w1 w2 w3:World}{xb cb:Nat}{D:Ze}{P:DP}{R R':Zd}(h:ZP w xb cb D R)(g:Z2 w xb D P w1)
 (k2:Za (fun _=>False) w1 w2) (hb:Zs w2 cb R w3 R') (hs:Sim P R') (hg:P.Good R'.uses.length) (hrf:R'.Fit) (hu:R'.uses.length≤R.uses.length+1) (hx0:0≤R'.next) (hx1:R'.next≤(R'.uses.length:Int)):ZR w w3 xb cb D R:=by
 obtain⟨D',rfl,hd,k1,f1⟩:=g;obtain⟨hr,k3,f3⟩:=hb;have hd2:Dev w2 xb D':=hd.kept k2 (fun _ _=>id);have far:∀k,D'.fp xb k→¬R.fp cb k:=fun k hk hr=>(f1 k hk).elim (fun x=>h.sep k x hr) (fun x=>by have:=h.ref.lt k hr;omega);have k12:Za (D.fp xb) w w2:=k1.trans k2 (fun _=>id) (fun _ _=>False.elim);refine⟨D',R',⟨hd2.kept k3 far,hr,hs,hg,hrf,hx0,hx1,fun k hk hr'=> ?_⟩,k12.trans k3 (fun _=>.inl) (fun _ _=>.inr),fun k hk=> ?_,hu⟩
 · rcases f3 k hr' with x|x
   · exact far k hk x
   · have:=hd2.lt k hk;omega
 · rcases hk with hk|hk
   · exact(f1 k hk).imp .inl id
   · exact(f3 k hk).imp .inr fun x=>Nat.le_trans k12.size x
theorem ZP.turned' {w w1 w2 w3:World}{xb cb:Nat}{D:Ze}{P:DP}{R R':Zd}(h:ZP w xb cb D R)(g:Z2 w xb D P w1)
 (k2:Za (fun _=>False) w1 w2) (hb:Zs w2 cb R w3 R') (hs:Sim P R') (hg:P.Good R.uses.length) (hrf:R'.Fit) (hu:R'.uses=R.uses) (hx:R'.next=R.next):ZR w w3 xb cb D R:=
 h.turned g k2 hb hs (by rw[hu];exact hg) hrf (by rw[hu];exact Nat.le_succ _) (by rw[hx];exact h.nx0) (by rw[hx,hu];exact h.nx1)
theorem ZP.stays {w w1 w2 w3:World}{xb cb:Nat}{D:Ze}{R:Zd}(h:ZP w xb cb D R)(k1:Za (fun _=>False) w w1)(k2:Za (fun _=>False) w1 w2)(k3:Za (fun _=>False) w2 w3):ZR w w3 xb cb D R:=
 ZR.same h ((k1.trans k2 (fun _=>id) (fun _ _=>id)).trans k3 (fun _=>id) (fun _ _=>id)) (fun _ _=>id)
theorem ZP.ref_after {w w1 w2:World}{xb cb:Nat}{D:Ze}{R:Zd}(h:ZP w xb cb D R)(k1:Za (D.fp xb) w w1)(k2:Za (fun _=>False) w1 w2):Ref w2 cb R:=
 (h.ref.kept k1 fun j hj hd=>h.sep j hd hj).kept k2 (fun _ _=>id)
theorem Zhr {w:World}{xb cb:Nat}{D:Ze}{R:Zd}(h:ZP w xb cb D R):
 ∃r:Int,Calls Tryz.prog 31 #[.pointer (some ⟨xb,0,none⟩)] w fun e w1=>e=.returned (.int .i64 r)∧
  Xt 32 #[.pointer (some ⟨cb,0,none⟩)] w w1 xb cb D R (.int .i64 r):=by
 have hc:R.clock=D.clock:=h.sim.clock;by_cases hlt:D.clock<100000
 · refine⟨0,(dtick w xb D h.dev h.dfit).mono fun e w1 hp=> ?_⟩;rcases hp with⟨a,_⟩|⟨_,e1,hd,k1⟩
   · omega
   · refine⟨e1,k1,fun w2 k2=>(rtick w2 cb R (h.ref_after k1 k2) h.rfit).mono fun e w3 hq=> ?_⟩;rcases hq with⟨a,_⟩|⟨_,e2,hr,k3⟩
     · omega
     · have c0:=h.dfit.clk0;refine⟨e2,h.turned' (P:={D.pu with clock:=D.clock+1}) ⟨_,rfl,hd,k1,fun k hk=>.inl hk⟩ k2 ⟨hr,k3,fun k hk=>.inl (Zdi rfl hk)⟩ ⟨h.sim.past,by show R.clock+1=D.clock+1;rw[hc],h.sim.rdr,h.sim.puts,h.sim.bd,h.sim.len,h.sim.node,h.sim.room,h.sim.names,h.sim.fresh⟩ ⟨h.good.pmax,by show 0≤D.clock+1;omega,by show D.clock+1≤100000;omega,h.good.bmax,h.good.qmax,h.good.s1,h.good.s3,h.good.sites,h.good.puts⟩ ⟨h.rfit.pos,h.rfit.pmax,by show 0≤R.clock+1;omega,by show R.clock+1≤100000;omega,h.rfit.rmax,h.rfit.npos,h.rfit.nmax,h.rfit.fmax⟩ rfl rfl,k3⟩
 · refine⟨6,(dtick w xb D h.dev h.dfit).mono fun e w1 hp=> ?_⟩;rcases hp with⟨_,e1,rfl⟩|⟨a,_⟩
   · refine⟨e1,Za.refl _ _,fun w2 k2=>(rtick w2 cb R (h.ref_after (Za.refl _ _) k2) h.rfit).mono fun e w3 hq=> ?_⟩;rcases hq with⟨_,e2,rfl⟩|⟨a,_⟩
     · exact⟨e2,h.stays (Za.refl _ _) k2 (Za.refl _ _),Za.refl _ _⟩
     · omega
   · omega
theorem Zft {w:World}{xb cb:Nat}{D:Ze}{R:Zd}(h:ZP w xb cb D R)(limit:Int):
 ∃x y:Int,Calls Tryz.prog 34 #[.pointer (some ⟨xb,0,none⟩),.int .i64 limit] w fun e w1=>e=.returned (.tuple #[.int .i64 x,.int .i64 y])∧
  Xt 35 #[.pointer (some ⟨cb,0,none⟩),.int .i64 limit] w w1 xb cb D R (.tuple #[.int .i64 x,.int .i64 y]):=by
 have hc:R.clock=D.clock:=h.sim.clock;have hlen:R.past.length=D.past.length+1:=h.sim.plen;by_cases hl:limit<0∨100000<limit
 · refine⟨0,10,(Zgd w xb limit hl).mono fun e w1 hp=> ?_⟩;obtain⟨e1,rfl⟩:=hp;refine⟨e1,Za.refl _ _,fun w2 k2=>(Zfw w2 cb limit hl).mono fun e w3 hq=> ?_⟩;obtain⟨e2,rfl⟩:=hq;exact⟨e2,h.stays (Za.refl _ _) k2 (Za.refl _ _),Za.refl _ _⟩
 · have hl0:0≤limit:=by omega
   have hl1:limit≤100000:=by omega
   have hcount:YH R.rdrs=Zap D.seats:=h.sim.rdr.count;have hbeg:D.begun=R.rdrs.length:=h.sim.rdr.begun;by_cases hall:∀i,i<6→(D.seats i).reads=true
   · have h6:=ZhJ hall;refine⟨0,7,(Zgh w xb D limit h.dev h.dfit hl0 hl1).mono fun e w1 hp=> ?_⟩;obtain⟨lo,_,⟨_,e1,k1⟩|⟨j,hj,hr,_⟩|⟨j,hj,hr,_⟩⟩:=hp
     · refine⟨e1,k1.mono (fun _=>False.elim),fun w2 k2=>(Zfu w2 cb R limit (h.ref_after (k1.mono (fun _=>False.elim)) k2) h.rfit hl0 hl1).mono fun e w3 hq=> ?_⟩;rcases hq with⟨_,e2,rfl⟩|⟨a,_⟩|⟨a,_⟩
       · exact⟨e2,h.stays k1 k2 (Za.refl _ _),Za.refl _ _⟩
       · omega
       · omega
     · rw[hall j hj]at hr;cases hr
     · rw[hall j hj]at hr;cases hr
   · obtain⟨j0,hj0,hr0⟩:∃j,j<6∧(D.seats j).reads=false:=by
      false_or_by_contra
      rename_i hn
      refine hall fun i hi=> ?_;cases hh:(D.seats i).reads with
      |true=>rfl
      |false=>exact absurd ⟨i,hi,hh⟩ hn
     have h6:=Zgt hj0 hr0;by_cases h200:200≤D.begun
     · refine⟨0,6,(Zgh w xb D limit h.dev h.dfit hl0 hl1).mono fun e w1 hp=> ?_⟩;obtain⟨lo,_,⟨a,_⟩|⟨j,hj,hr,_,e1,k1⟩|⟨j,hj,hr,a,_⟩⟩:=hp
       · exact absurd a hall
       · refine⟨e1,k1.mono (fun _=>False.elim),fun w2 k2=>(Zfu w2 cb R limit (h.ref_after (k1.mono (fun _=>False.elim)) k2) h.rfit hl0 hl1).mono fun e w3 hq=> ?_⟩;rcases hq with⟨a,_⟩|⟨_,_,e2,rfl⟩|⟨_,a,_⟩
         · omega
         · exact⟨e2,h.stays k1 k2 (Za.refl _ _),Za.refl _ _⟩
         · omega
       · omega
     · refine⟨D.begun,0,(Zgh w xb D limit h.dev h.dfit hl0 hl1).mono fun e w1 hp=> ?_⟩;obtain⟨lo,hfirst,⟨a,_⟩|⟨j,hj,hr,a,_⟩|⟨j,hj,hr,_,e1,hd,k1⟩⟩:=hp
       · exact absurd a hall
       · omega
       · refine⟨e1,k1,fun w2 k2=>(Zfu w2 cb R limit (h.ref_after k1 k2) h.rfit hl0 hl1).mono fun e w3 hq=> ?_⟩;rcases hq with⟨a,_⟩|⟨_,a,_⟩|⟨_,_,lo',v,hleast,e2,hr3,k3,f3⟩
         · omega
         · omega
         · have hle:lo=lo':=by
            have a:=ZfM hfirst.1 hfirst.2.1 hfirst.2.2 zeroP;rw[show zeroP::D.past=R.past from h.sim.past.symm,←hc]at a;exact a.unique hleast
           subst hle;have htop:R.past.length-1=D.past.length:=by omega
           refine⟨by rw[e2,hbeg],h.turned' ⟨_,rfl,hd,k1,fun k hk=>.inl hk⟩ k2 ⟨hr3,k3,f3⟩ ⟨h.sim.past,hc,?_,h.sim.puts,h.sim.bd,h.sim.len,h.sim.node,h.sim.room,h.sim.names,h.sim.fresh⟩ (h.good.seats _ (D.begun+1) (by omega)) ⟨h.rfit.pos,h.rfit.pmax,h.rfit.clk0,h.rfit.clk1,by show(R.rdrs++[_]).length≤200;rw[List.length_append,List.length_singleton];omega,h.rfit.npos,h.rfit.nmax,h.rfit.fmax⟩ rfl rfl,k3⟩;show V5 (D.begun+1) (Z9 D.seats j _) (R.rdrs++[⟨lo,R.past.length-1,false⟩]) D.past.length;rw[htop];exact h.sim.rdr.beginS hj hr lo hfirst.1
theorem Zco {l:List Yj}{j:Nat}{x:Yj}(hx:l[j]?=some x)(he:x.ended=false):Yy l j=false:=by
 have hlt:=(List.getElem?_eq_some_iff.mp hx).1;have a:¬(j:Int)<0:=by omega
 have c:¬(l.length:Int)≤(j:Int):=by omega
 simp only[Yy,a,c,decide_false,Bool.false_or,Int.toNat_natCast,hx];exact he
theorem Zii {w:World}{xb cb:Nat}{D:Ze}{R:Zd}(h:ZP w xb cb D R)(m:Int):
 ∃x y z:Int,Calls Tryz.prog 36 #[.pointer (some ⟨xb,0,none⟩),.int .i64 m] w fun e w1=>e=.returned (.tuple #[.agg #[.int .u64 x,.int .u64 y],.int .i64 z])∧
  Xt 37 #[.pointer (some ⟨cb,0,none⟩),.int .i64 m] w w1 xb cb D R (.tuple #[.agg #[.int .u64 x,.int .u64 y],.int .i64 z]):=by
 have hrdr:V5 D.begun D.seats R.rdrs D.past.length:=h.sim.rdr;by_cases hall:∀i,i<6→(D.seats i).reads=true→(D.seats i).num≠m
 · refine⟨0,0,8,(dend w xb D m h.dev).mono fun e w1 hp=> ?_⟩;rcases hp with⟨_,e1,k1⟩|⟨j,hj,hr,hn,_⟩
   · refine⟨e1,k1.mono (fun _=>False.elim),fun w2 k2=>(rend w2 cb R m (h.ref_after (k1.mono (fun _=>False.elim)) k2) h.rfit).mono fun e w3 hq=> ?_⟩;rcases hq with⟨_,e2,b3⟩|⟨j,x,rfl,hx,he,_⟩
     · exact⟨e2,h.stays k1 k2 (Za.of_below b3 _),Za.of_below b3 _⟩
     · obtain⟨i,hi,hr,hn⟩:=hrdr.back j x hx he;exact absurd hn (hall i hi hr)
   · exact absurd hn (hall j hj hr)
 · obtain⟨j0,hj0,hr0,hn0⟩:∃j,j<6∧(D.seats j).reads=true∧(D.seats j).num=m:=by
    false_or_by_contra
    rename_i hn
    exact hall fun i hi hr e=>hn ⟨i,hi,hr,e⟩
   refine⟨(D.seats j0).lo,(D.seats j0).hi,0,(dend w xb D m h.dev).mono fun e w1 hp=> ?_⟩;rcases hp with⟨a,_⟩|⟨j,hj,hr,hn,e1,hd,k1⟩
   · exact absurd a hall
   · have hjj:j=j0:=hrdr.one j j0 hj hj0 hr hr0 (by rw[hn,hn0]);subst hjj;refine⟨e1,k1,fun w2 k2=>(rend w2 cb R m (h.ref_after k1 k2) h.rfit).mono fun e w3 hq=> ?_⟩;obtain⟨q,x,hq1,hx,he,hlo,hhi⟩:=hrdr.seat j hj hr;have hmq:m=q:=by rw[←hn,hq1]
     rcases hq with⟨a,_⟩|⟨q',x',hm',hx',he',e2,hr3,k3⟩
     · rw[hmq,Zco hx he]at a;cases a
     · have hqq:q'=q:=by omega
       subst hqq;rw[hx]at hx';injection hx' with hx';subst hx';refine⟨by rw[e2,hlo,hhi],h.turned' ⟨_,rfl,hd,k1,fun k hk=>.inl hk⟩ k2 ⟨hr3,k3,fun k hk=>.inl (Zdi (R':=R.endR _ x) (R:=R) rfl hk)⟩ ⟨h.sim.past,h.sim.clock,?_,h.sim.puts,h.sim.bd,h.sim.len,h.sim.node,h.sim.room,h.sim.names,h.sim.fresh⟩ (h.good.seats _ D.begun h.good.bmax) ⟨h.rfit.pos,h.rfit.pmax,h.rfit.clk0,h.rfit.clk1,by show(R.rdrs.set _ _).length≤200;rw[List.length_set];exact h.rfit.rmax,h.rfit.npos,h.rfit.nmax,h.rfit.fmax⟩ rfl rfl,k3⟩;exact hrdr.endS hj hr hq1 hx he
theorem Wr.kept' {w w':World}{F:Nat→Prop}{ao:Option Addr}{n:Nat}{ws:List (Int×Int)}(h:Wr w ao n ws)(k:Za F w w')(hF:0<n→∀a,ao=some a→¬F a.block):Wr w' ao n ws:=by
 by_cases hn:0<n
 · exact h.kept k (hF hn)
 · exact⟨h.len,fun j hj=>by have:=h.len;omega⟩
theorem Zfe {w:World}{xb cb:Nat}{D:Ze}{R:Zd}(h:ZP w xb cb D R)(hnn:R.uses.length<9223372036854775807)(ao ao':Option Addr)(n cap cap':Nat)(ws:List (Int×Int))(hw:Wr w ao n ws)(hw':Wr w ao' n ws)(hm:n≤maxLen)(hfar:0<n→∀a,ao'=some a→¬D.fp xb a.block)(hwb:BdW ws):
 ∃x y:Int,Calls Tryz.prog 28 #[.pointer (some ⟨xb,0,none⟩),.slice ao n cap] w fun e w1=>e=.returned (.tuple #[.int .u64 x,.int .i64 y])∧
  Xt 29 #[.pointer (some ⟨cb,0,none⟩),.slice ao' n cap'] w w1 xb cb D R (.tuple #[.int .u64 x,.int .i64 y]):=by
 have hlen:=h.sim.plen;have hwalk:=h.good.walk hnn;have hpm:=h.good.pmax;refine⟨_,_,(Zj6 w xb D ao n cap ws h.dev hwalk hw hm).mono fun e w1 hp=>⟨hp.1,?_⟩⟩;obtain⟨D',hD',hd,k1,f1⟩:=hp.2;have hwd:∀w2,Za (fun _=>False) w1 w2→Wr w2 ao' n ws:=fun w2 k2=>(hw'.kept' k1 hfar).kept k2 fun _ _=>id;have keep:∀w2 w3,Za (fun _=>False) w1 w2→Za (fun _=>False) w2 w3→D'.pu=D.pu→ZR w w3 xb cb D R:=fun w2 w3 k2 k3 hpu=>by
  have hr2:=h.ref_after k1 k2;exact h.turned' ⟨D',hpu,hd,k1,f1⟩ k2 ⟨hr2.kept k3 (fun _ _=>id),k3.mono (fun _=>False.elim),fun _ hx=>.inl hx⟩ h.sim h.good h.rfit rfl rfl
 refine⟨k1,fun w2 k2=> ?_⟩;by_cases h8:8<n
 · rw[DP.commit,if_pos h8]at hD'⊢;refine(ZdM w2 cb ao' n cap' (by omega) hm).mono fun e w3 hq=> ?_;obtain⟨e2,rfl⟩:=hq;exact⟨e2,keep _ _ k2 (Za.refl _ _) hD',Za.refl _ _⟩
 · rw[DP.commit,if_neg h8]at hD'⊢;by_cases hk:ws.all Yl=false
   · rw[if_pos hk]at hD'⊢;refine(Zfj w2 cb ao' n cap' ws (hwd w2 k2) (by omega) hk).mono fun e w3 hq=> ?_;obtain⟨e2,rfl⟩:=hq;exact⟨e2,keep _ _ k2 (Za.refl _ _) hD',Za.refl _ _⟩
   · rw[if_neg hk]at hD'⊢;have hk:ws.all Yl=true:=by cases h:ws.all Yl with
      |true=>rfl
      |false=>exact absurd h hk
     by_cases h7:700≤D.pu.past.length
     · rw[if_pos h7]at hD'⊢;refine(Zd9 w2 cb R ao' n cap' ws (h.ref_after k1 k2) h.rfit (hwd w2 k2) (by omega) hk (by omega)).mono fun e w3 hq=> ?_;obtain⟨e2,rfl⟩:=hq;exact⟨e2,keep _ _ k2 (Za.refl _ _) hD',Za.refl _ _⟩
     · rw[if_neg h7]at hD'⊢;refine(ZdD w2 cb R ao' n cap' ws (h.ref_after k1 k2) h.rfit (hwd w2 k2) (by omega) hk (by omega)).mono fun e w3 hq=> ?_;obtain⟨e2,p,v',l,hp,hr3,ht,hfit,k3,f3⟩:=hq;refine⟨by rw[e2,hlen],h.turned' ⟨D',hD',hd,k1,f1⟩ k2 ⟨hr3,k3,f3⟩ (h.sim.commit hp ht hwb) (h.good.push _ (by omega)) hfit rfl rfl,k3⟩
theorem ZR.from {w wb w':World}{xb cb:Nat}{D:Ze}{R:Zd}(h:ZR wb w' xb cb D R)(k:Za (fun _=>False) w wb):ZR w w' xb cb D R:=by
 obtain⟨D',R',hp,hk,hf,hu⟩:=h;exact⟨D',R',hp,k.trans hk (fun _=>False.elim) (fun _ _=>id),fun i hi=>(hf i hi).imp id fun x=>Nat.le_trans k.size x,hu⟩
theorem ZR.still {w wb w' w2:World}{xb cb:Nat}{D:Ze}{R:Zd}{F:Nat→Prop}(h:ZR wb w' xb cb D R)(k0:Za (fun _=>False) w wb)(k:Za F w' w2)(hF:∀i,F i→w.heap.size≤i∧i<wb.heap.size)(hlt:∀i,pfp xb cb D R i→i<w.heap.size):ZR w w2 xb cb D R:=by
 obtain⟨D',R',hp,hk,hf,hu⟩:=h;refine⟨D',R',hp.kept k fun j hj hfj=> ?_,(k0.trans hk (H:=pfp xb cb D R) (fun _=>False.elim) (fun _ _=>id)).trans k (fun _=>id) (fun i hi hfi=> ?_),fun i hi=>(hf i hi).imp id fun x=>Nat.le_trans k0.size x,hu⟩
 · obtain⟨a,c⟩:=hF j hfj;rcases hf j hj with x|x
   · have:=hlt j x;omega
   · omega
 · have:=(hF i hfi).1;omega
def Zz (w:World)(xb cb:Nat)(kd a b c:Int)(s:ByteArray)(l:Value):World:=
 (w.alloc (.cells #[.pointer (some ⟨xb,0,none⟩),.pointer (some ⟨cb,0,none⟩)] 44)).alloc (.cells #[.int .i64 kd,.int .i64 a,.int .i64 b,.int .i64 c,.string s,l] 37)
theorem ZW (w:World)(xb cb:Nat)(kd a b c:Int)(s:ByteArray)(l:Value):Za (fun _=>False) w (Zz w xb cb kd a b c s l):=(Za.alloc w _ _).allocNew _
theorem YD {w w1:World}{xb cb:Nat}{kd a b c:Int}{s:ByteArray}{l:Value}{F:Nat→Prop}(k:Za F (Zz w xb cb kd a b c s l) w1)(hF:∀i,F i→i<w.heap.size):w1.cell? ⟨w.heap.size,1,none⟩=some (.pointer (some ⟨cb,0,none⟩)):=
 k.keep (fun hf=>by have:=hF _ hf;simp at this) (by simp[Zz])
theorem YR {w w1:World}{xb cb:Nat}{kd a b c:Int}{s:ByteArray}{l:Value}{F:Nat→Prop}(k:Za F (Zz w xb cb kd a b c s l) w1)(hF:∀i,F i→i<w.heap.size):w1.cell? ⟨w.heap.size+1,2,none⟩=some (.int .i64 b):=
 k.keep (fun hf=>by have:=hF _ hf;simp at this;omega) (by simp[Zz])
theorem ZaF (w:World)(xb cb:Nat)(kd a b c:Int)(s:ByteArray)(l:Value):(Zz w xb cb kd a b c s l).heap.size=w.heap.size+2:=by simp[Zz]
theorem Zjc {w1 w3:World}{a b:Value}{T:TypeId}{F:Nat→Prop}(k:Za F (w1.alloc (.cells #[a,b] T)) w3)(hF:∀i,F i→i<w1.heap.size):w3.cell? ⟨w1.heap.size,0,none⟩=some a∧w3.cell? ⟨w1.heap.size,1,none⟩=some b∧w1.heap.size<w3.heap.size:=
 ⟨k.keep (fun hf=>by have:=hF _ hf;simp at this) (by simp),k.keep (fun hf=>by have:=hF _ hf;simp at this) (by simp),by have:=k.size;simp at this;omega⟩
def Yp (w:World)(xb cb:Nat)(D:Ze)(R:Zd)(e:Ending)(w':World):Prop:=e=.returned (.bool true)∧ZR w w' xb cb D R
theorem ZdA (w:World)(pb xb cb:Nat)(a b c:Int)(s:ByteArray)(ao:Option Addr)(n cap:Nat)(D:Ze)(R:Zd)(h:ZP w xb cb D R):
 Calls Tryz.prog 15 #[.pointer (some ⟨pb,0,none⟩),.agg #[.pointer (some ⟨xb,0,none⟩),.pointer (some ⟨cb,0,none⟩)],.agg #[.int .i64 3,.int .i64 a,.int .i64 b,.int .i64 c,.string s,.slice ao n cap]] w fun e w'=>Yp w xb cb D R e w':=by
 have hk:=ZW w xb cb 3 a b c s (.slice ao n cap);obtain⟨r,hr⟩:=Zhr (h.kept hk fun _ _=>id);have H0:Hid (Calls Tryz.prog 31 #[.pointer (some ⟨xb,0,none⟩)] (Zz w xb cb 3 a b c s (.slice ao n cap)) fun e w1=>e=.returned (.int .i64 r)∧Hid (Xt 32 #[.pointer (some ⟨cb,0,none⟩)] (Zz w xb cb 3 a b c s (.slice ao n cap)) w1 xb cb D R (.int .i64 r))):=hr;have HK:=hid hk;have HL:Hid (∀i,D.fp xb i→i<w.heap.size):=h.dev.lt;clear hr hk h;go_enter Tryz.func15,Tryz.ntmps15
 go_wp2_with first
  |(go_at_call 31;refine H0.out.mono ?_;rintro e w1 ⟨rfl,ht⟩;have q1:=YD ht.out.1 HL.out)
  |(go_at_call 32;refine(ht.out.2 _ (Za.refl _ _)).mono ?_;rintro e w3 ⟨rfl,hz,_⟩;have HZ:Hid (ZR (Zz w xb cb 3 a b c s (.slice ao n cap)) w3 xb cb D R):=hz;clear hz)
 go_ret;exact⟨Z6 (by simp),HZ.out.from HK.out⟩
theorem Zer (w:World)(pb xb cb:Nat)(a b c:Int)(s:ByteArray)(ao:Option Addr)(n cap:Nat)(D:Ze)(R:Zd)(h:ZP w xb cb D R):
 Calls Tryz.prog 15 #[.pointer (some ⟨pb,0,none⟩),.agg #[.pointer (some ⟨xb,0,none⟩),.pointer (some ⟨cb,0,none⟩)],.agg #[.int .i64 4,.int .i64 a,.int .i64 b,.int .i64 c,.string s,.slice ao n cap]] w fun e w'=>Yp w xb cb D R e w':=by
 have hk:=ZW w xb cb 4 a b c s (.slice ao n cap);have hp:=h.kept hk fun _ _=>id;have H0:Hid (Calls Tryz.prog 33 #[.pointer (some ⟨xb,0,none⟩)] (Zz w xb cb 4 a b c s (.slice ao n cap)) fun e w1=>e=.returned (.tuple #[.int .u64 (D.past.length:Int),.int .i64 D.clock])∧Zz w xb cb 4 a b c s (.slice ao n cap)=w1):=dnow _ xb D hp.dev hp.dfit;obtain⟨av,cv,hv,_⟩:=h.ref.past.form;have c0:=h.ref.c0;have c1:=h.ref.c1;rw[hv,show R.past.length=D.past.length+1 from h.sim.plen]at c0;rw[show R.clock=D.clock from h.sim.clock]at c1;have hcb:=h.ref.blk.lt;have hpm:=h.dfit.pmax;have HK:=hid hk;have HH:=hid h;clear hp hk h hv;go_enter Tryz.func15,Tryz.ntmps15
 go_wp2_with (go_at_call 33;refine H0.out.mono ?_;rintro e w1 ⟨rfl,rfl⟩;unfold Zz)
 go_ret;exact⟨Z6 (by simp),ZR.same HH.out HK.out (fun _ _=>id)⟩
theorem ZcK (w:World)(pb xb cb:Nat)(a b c:Int)(s:ByteArray)(ao:Option Addr)(n cap:Nat)(D:Ze)(R:Zd)(h:ZP w xb cb D R):
 Calls Tryz.prog 15 #[.pointer (some ⟨pb,0,none⟩),.agg #[.pointer (some ⟨xb,0,none⟩),.pointer (some ⟨cb,0,none⟩)],.agg #[.int .i64 5,.int .i64 a,.int .i64 b,.int .i64 c,.string s,.slice ao n cap]] w fun e w'=>Yp w xb cb D R e w':=by
 have hk:=ZW w xb cb 5 a b c s (.slice ao n cap);obtain⟨x,y,hr⟩:=Zft (h.kept hk fun _ _=>id) b;have H0:Hid (Calls Tryz.prog 34 #[.pointer (some ⟨xb,0,none⟩),.int .i64 b] (Zz w xb cb 5 a b c s (.slice ao n cap)) fun e w1=>e=.returned (.tuple #[.int .i64 x,.int .i64 y])∧Hid (Xt 35 #[.pointer (some ⟨cb,0,none⟩),.int .i64 b] (Zz w xb cb 5 a b c s (.slice ao n cap)) w1 xb cb D R (.tuple #[.int .i64 x,.int .i64 y]))):=hr;have HK:=hid hk;have HL:Hid (∀i,D.fp xb i→i<w.heap.size):=h.dev.lt;clear hr hk h;go_enter Tryz.func15,Tryz.ntmps15
 go_wp2_with first
  |(go_at_call 34;refine H0.out.mono ?_;rintro e w1 ⟨rfl,ht⟩;have q1:=YD ht.out.1 HL.out;have q2:=YR ht.out.1 HL.out)
  |(go_at_call 35;refine(ht.out.2 _ (Za.refl _ _)).mono ?_;rintro e w3 ⟨rfl,hz,_⟩;have HZ:Hid (ZR (Zz w xb cb 5 a b c s (.slice ao n cap)) w3 xb cb D R):=hz;clear hz)
 go_ret;exact⟨Z6 (by simp),HZ.out.from HK.out⟩
theorem ZeZ (w:World)(pb xb cb:Nat)(a b c:Int)(s:ByteArray)(ao:Option Addr)(n cap:Nat)(D:Ze)(R:Zd)(h:ZP w xb cb D R):
 Calls Tryz.prog 15 #[.pointer (some ⟨pb,0,none⟩),.agg #[.pointer (some ⟨xb,0,none⟩),.pointer (some ⟨cb,0,none⟩)],.agg #[.int .i64 6,.int .i64 a,.int .i64 b,.int .i64 c,.string s,.slice ao n cap]] w fun e w'=>Yp w xb cb D R e w':=by
 have hk:=ZW w xb cb 6 a b c s (.slice ao n cap);obtain⟨x,y,z,hr⟩:=Zii (h.kept hk fun _ _=>id) b;have H0:Hid (Calls Tryz.prog 36 #[.pointer (some ⟨xb,0,none⟩),.int .i64 b] (Zz w xb cb 6 a b c s (.slice ao n cap)) fun e w1=>e=.returned (.tuple #[.agg #[.int .u64 x,.int .u64 y],.int .i64 z])∧Hid (Xt 37 #[.pointer (some ⟨cb,0,none⟩),.int .i64 b] (Zz w xb cb 6 a b c s (.slice ao n cap)) w1 xb cb D R (.tuple #[.agg #[.int .u64 x,.int .u64 y],.int .i64 z]))):=hr;have HK:=hid hk;have HL:Hid (∀i,D.fp xb i→i<w.heap.size):=h.dev.lt;have HLR:Hid (∀i,R.fp cb i→i<w.heap.size):=h.ref.lt;have HP:Hid (∀i,pfp xb cb D R i→i<w.heap.size):=h.lt;clear hr hk h;go_enter Tryz.func15,Tryz.ntmps15
 go_wp2_with first
  |(go_at_call 36;refine H0.out.mono ?_;rintro e w1 ⟨rfl,ht⟩;have q1:=YD ht.out.1 HL.out;have q2:=YR ht.out.1 HL.out;have hs1:=ht.out.1.size;have hs2:w.heap.size+2≤w1.heap.size:=Nat.le_trans (Nat.le_of_eq (ZaF _ _ _ _ _ _ _ _ _).symm) hs1;have hs3:w.heap.size<w1.heap.size:=Nat.lt_of_lt_of_le (Nat.lt_add_of_pos_right (Nat.succ_pos 1)) hs2;have hs4:w.heap.size+1<w1.heap.size:=hs2;clear hs1)
  |(go_at_call 37;refine(ht.out.2 _ (Za.alloc _ _ _)).mono ?_;rintro e w3 ⟨rfl,hz,hk3⟩;have HZ:Hid (ZR (Zz w xb cb 6 a b c s (.slice ao n cap)) w3 xb cb D R):=hz;clear hz;have y0:=Zjc hk3 (fun i hi=>Nat.lt_trans (HLR.out i hi) hs3);clear hk3)
 obtain⟨y0,y1,y2⟩:=y0;go_wp2;go_ret;exact⟨Z6 (by simp),HZ.out.still HK.out (Za.alloc _ _ (fun _=>False)) (fun _=>False.elim) HP.out⟩
theorem Zg7 {w1:World}{g cap n:Nat}{ws:List (Int×Int)}(hl:ws.length=n)(h:Row w1 152 2 (.slice (some ⟨g,0,none⟩) (n+2) cap) (n+2) ((ws++[Yq,Yq]).flatMap wrC)):
 Wr w1 (some ⟨g,0,none⟩) n ws∧ZcQ w1 w1 g 0 (ws++[Yq,Yq])∧cap≤maxLen:=by
 have hcell:∀j (hj:j<(ws++[Yq,Yq]).length),w1.cell? ⟨g,j*2,none⟩=some (.int .i64 (ws++[Yq,Yq])[j].1)∧w1.cell? ⟨g,j*2+1,none⟩=some (.int .i32 (ws++[Yq,Yq])[j].2):=by
  intro j hj;refine⟨h.cell rfl (j*2) _ ?_,h.cell rfl (j*2+1) _ ?_⟩
  · have:=ZO wrC 2 (fun _=>rfl) (ws++[Yq,Yq]) j hj 0 (by omega);rw[Nat.add_zero]at this;rw[this];rfl
  · rw[ZO wrC 2 (fun _=>rfl) (ws++[Yq,Yq]) j hj 1 (by omega)];rfl
 have hblk:∃cur,Blk w1 g 152 cur∧cap≤maxLen:=by
  rcases h.shape with⟨e,_⟩|⟨g',cap',cur,e,hb,_,hm,_⟩
  · cases e
  · injection e with e1 _ e2;injection e1 with e1;injection e1 with e1 _ _;subst e1 e2;exact⟨cur,hb,hm⟩
 obtain⟨cur,hb,hm⟩:=hblk;refine⟨⟨hl,fun j hj=>⟨g,0,rfl,?_⟩⟩,⟨Za.refl _ _,fun j hj _=>hcell j hj,fun o=>hb.free o,hb.lt⟩,hm⟩;have hj':j<(ws++[Yq,Yq]).length:=by simp;omega
 have e:(ws++[Yq,Yq])[j]=ws[j]:=List.getElem_append_left hj;have:=hcell j hj';rw[e]at this;simpa using this
theorem ZcQ.kept' {w1 w3:World}{g:Nat}{xs:List (Int×Int)}{F:Nat→Prop}(h:ZcQ w1 w1 g 0 xs)(k:Za F w1 w3)(hF:¬F g):ZcQ w3 w3 g 0 xs:=by
 have hb:=k.block g h.lt hF;refine⟨Za.refl _ _,fun j hj _=> ?_,fun o=> ?_,Nat.lt_of_lt_of_le h.lt k.size⟩
 · obtain⟨c0,c1⟩:=h.cell j hj (Nat.zero_le _);exact⟨(World.cell?_of_block (a:=⟨g,j*2,none⟩) hb).trans c0,(World.cell?_of_block (a:=⟨g,j*2+1,none⟩) hb).trans c1⟩
 · exact(World.frozen?_of_block (a:=⟨g,o,none⟩) hb).trans (h.free o)
theorem Zhc (w:World)(ao:Option Addr)(n cap:Nat)(ws:List (Int×Int))(hw:Wr w ao n ws)(hreach:n*16≤140737488351232)(hno:ao=none→n=0∧cap=0):
 Calls Tryz.prog 27 #[.slice ao n cap] w fun e w'=>Za3 w n ws e w':=by
 cases ao with
 |some a=>exact ZfK w a n cap ws hw hreach
 |none=>
  obtain⟨rfl,rfl⟩:=hno rfl;have:ws=[]:=List.eq_nil_of_length_eq_zero hw.len;subst this;exact ZfC w
def ZM (vps:Value)(a b c:Value)(commits most:Int):Array Value:=#[vps,a,b,c,.int .i64 commits,.int .i64 most]
def Xa (w:World)(pb xb cb:Nat)(D:Ze)(R:Zd)(vps b0 b1 b2:Value)(commits most:Int)(e:Ending)(w':World):Prop:=
 e=.returned (.bool true)∧Blk w' pb 34 (ZM vps b0 b1 b2 (commits+1) most)∧
  ∃D' R',ZP w' xb cb D' R'∧Za (fun k=>k=pb∨pfp xb cb D R k) w w'∧(∀k,pfp xb cb D' R' k→pfp xb cb D R k∨w.heap.size≤k)∧R'.uses.length≤R.uses.length+1
theorem Xa.mk' {w wc w':World}{pb xb cb:Nat}{D:Ze}{R:Zd}{vps b0 b1 b2:Value}{commits most:Int}(hpb:¬pfp xb cb D R pb)
 (k0:Za (fun k=>k=pb) w wc) (hb:Blk wc pb 34 (ZM vps b0 b1 b2 (commits+1) most)) (h:ZR wc w' xb cb D R):
 Xa w pb xb cb D R vps b0 b1 b2 commits most (.returned (.bool true)) w':=by
 obtain⟨D',R',hp,hk,hf,hu⟩:=h;exact⟨rfl,hb.kept hk hpb,D',R',hp,k0.trans hk (fun _=>.inl) (fun _ _=>.inr),fun k hk=>(hf k hk).imp id fun x=>Nat.le_trans k0.size x,hu⟩
theorem Zeq (l:List Int)(x:Int):∀n,YY l x n<(n:Int)
 |0=>by simp[YY]
 |n+1=>by
  have:=Zeq l x n;simp only[YY]
  split<;>omega
theorem Zdt (l m:List Int)(x:Int):∀n,n≤l.length→YY (l++m) x n=YY l x n
 |0,_=>rfl
 |n+1,h=>by
  simp only[YY];rw[List.getElem?_append_left (by omega),Zdt l m x n (by omega)]
theorem ZaS (us:List Int)(x:Int):V2 us x<(us.length:Int):=Zeq us x _
theorem V0 (us:List Int)(x:Int):V2 (us++[x]) x=(us.length:Int):=by
 unfold V2;rw[List.length_append,List.length_singleton,YY,List.getElem?_append_right (Nat.le_refl _)];simp
theorem VH {us:List Int}{x a:Int}(h:a≠x):V2 (us++[x]) a=V2 us a:=by
 unfold V2;rw[List.length_append,List.length_singleton,YY,List.getElem?_append_right (Nat.le_refl _)];have:¬([x][us.length-us.length]?=some a):=by simp;exact fun e=>h e.symm
 rw[if_neg this,Zdt _ _ _ _ (Nat.le_refl _)]
theorem ZbR {l:List Zi}:(l.flatMap (·.nms)).Nodup→(∀nd∈l,nd.nms.Nodup)∧∀(k k':Nat)(nd nd':Zi),l[k]?=some nd→l[k']?=some nd'→k≠k'→∀a∈nd.nms,∀b∈nd'.nms,a≠b:=by
 induction l with
 |nil=>intro _;exact⟨fun _ h=>(by cases h),fun k k' nd nd' h=>by simp at h⟩
 |cons x r ih=>
  intro hn;rw[List.flatMap_cons,List.nodup_append]at hn;obtain⟨h1,h2,h3⟩:=hn;obtain⟨i1,i2⟩:=ih h2;refine⟨fun nd hm=> ?_,fun k k' nd nd' hk hk' hne a ha b hb=> ?_⟩
  · rcases List.mem_cons.mp hm with rfl|hm
    · exact h1
    · exact i1 nd hm
  · match k,k' with
    |0,0=>exact absurd rfl hne
    |0,k'+1=>
     simp at hk hk';subst hk;exact h3 a ha b (List.mem_flatMap.mpr ⟨nd',List.mem_of_getElem? hk',hb⟩)
    |k+1,0=>
     simp at hk hk';subst hk';exact fun e=>h3 b hb a (List.mem_flatMap.mpr ⟨nd,List.mem_of_getElem? hk,ha⟩) e.symm
    |k+1,k'+1=>
     simp at hk hk';exact i2 k k' nd nd' hk hk' (by omega) a ha b hb
theorem Zid {l:List Int}(h:l.Nodup){i j:Nat}{a:Int}(hi:l[i]?=some a)(hj:l[j]?=some a):i=j:=by
 obtain⟨h1,h2⟩:=List.getElem?_eq_some_iff.mp hi;obtain⟨h3,h4⟩:=List.getElem?_eq_some_iff.mp hj;have hp:=List.pairwise_iff_getElem.mp h;rcases Nat.lt_trichotomy i j with x|x|x
 · exact absurd (h2.trans h4.symm) (hp i j h1 h3 x)
 · exact x
 · exact absurd (h4.trans h2.symm) (hp j i h3 h1 x)
theorem ZX.other {l:List Zj}{us:List Int}{s:Zb}{n:ZD}(h:ZX l us s n){nm:Int}(hne:∀a∈n.nms,a≠nm):ZX l (us++[nm]) s n:=
 ⟨h.up,h.hz,h.since,h.ents,h.fls,h.flk,h.wts,h.wtk,h.hist,h.top,h.nml,h.used,fun i j x y a b hx hy ha hb=>by
  rw[VH (hne a (List.mem_of_getElem? ha)),VH (hne b (List.mem_of_getElem? hb))];exact h.order i j x y a b hx hy ha hb⟩
theorem ZX.use {l:List Zj}{us:List Int}{s:Zb}{n:ZD}(h:ZX l us s n){i:Nat}{x:Zu}{nm:Int}(hx:s.ents[i]?=some x)(hm:n.nms[i]?=some nm)(hn:n.nms.Nodup):ZX l (us++[nm]) (s.use i x) n:=by
 obtain⟨hi,hx'⟩:=List.getElem?_eq_some_iff.mp hx;have far:∀(j:Nat)(a:Int),n.nms[j]?=some a→j≠i→a≠nm:=fun j a ha hj e=>by
  subst e;exact hj (Zid hn ha hm)
 refine⟨h.up,h.hz,h.since,?_,h.fls,h.flk,h.wts,h.wtk,h.hist,h.top,?_,?_,?_⟩
 · show n.ents=(s.ents.set i {x with used:=s.uses+1}).map (·.e);rw[List.map_set,h.ents];have:(s.ents.map (·.e))[i]?=some x.e:=by rw[List.getElem?_map,hx];rfl
   obtain⟨hl,he⟩:=List.getElem?_eq_some_iff.mp this;show _=(s.ents.map (·.e)).set i x.e;rw[←he,List.set_getElem_self]
 · show n.nms.length=(s.ents.set i _).length;rw[List.length_set];exact h.nml
 · intro y hy;show y.used≤s.uses+1;rcases List.mem_or_eq_of_mem_set hy with hy|rfl
   · exact Nat.le_succ_of_le (h.used y hy)
   · exact Nat.le_refl _
 · intro p q y z a b hy hz ha hb;have hy':(s.ents.set i {x with used:=s.uses+1})[p]?=some y:=hy;have hz':(s.ents.set i {x with used:=s.uses+1})[q]?=some z:=hz;by_cases hp:p=i
   · subst hp;rw[List.getElem?_set_self hi]at hy';injection hy' with hy';rw[hm]at ha;injection ha with ha;subst ha hy';rw[V0];by_cases hq:q=p
     · subst hq;rw[List.getElem?_set_self hi]at hz';injection hz' with hz';rw[hm]at hb;injection hb with hb;subst hb hz';rw[V0];simp
     · rw[List.getElem?_set_ne (fun e=>hq e.symm)]at hz';rw[VH (far q b hb hq)];have h1:=h.used z (List.mem_of_getElem? hz');have h2:=ZaS us b;show s.uses+1<z.used↔_;omega
   · rw[List.getElem?_set_ne (fun e=>hp e.symm)]at hy';rw[VH (far p a ha hp)];by_cases hq:q=i
     · subst hq;rw[List.getElem?_set_self hi]at hz';injection hz' with hz';rw[hm]at hb;injection hb with hb;subst hb hz';rw[V0];have h1:=h.used y (List.mem_of_getElem? hy');have h2:=ZaS us a;show y.used<s.uses+1↔_;omega
     · rw[List.getElem?_set_ne (fun e=>hq e.symm)]at hz';rw[VH (far q b hb hq)];exact h.order p q y z a b hy' hz' ha hb
theorem Zat (up:Bool)(hz:Nat)(q:ByteArray)(lo hi:Nat)(l:List Zh):∀(n i:Nat)(x:Zh),Xz up hz q lo hi l n=(i:Int)→l[i]?=some x→Xq hz q lo hi x
 |0,i,x,h,_=>by simp only[Xz]at h;omega
 |n+1,i,x,h,hx=>by
  simp only[Xz]at h
  split at h
  · rename_i y hy
    split at h
    · rename_i hc
      obtain rfl:n=i:=by omega
      rw[hy]at hx;injection hx with hx;subst hx;exact hc.2.1
    · exact Zat up hz q lo hi l n i x h hx
  · exact Zat up hz q lo hi l n i x h hx
theorem ZX.ans {l:List Zj}{us:List Int}{s:Zb}{nd:Zi}{t n:Nat}(h:ZX l us s nd.p)(hg:s.Good t n)(q:ByteArray)(lo hi:Nat):Xz nd.up nd.horizon q lo hi nd.ents nd.ents.length=s.ans q lo hi s.ents.length:=by
 have h1:nd.up=s.up:=h.up;have h2:nd.horizon=s.horizon:=h.hz;have h3:nd.ents=s.ents.map (·.e):=h.ents;unfold Zb.ans;rw[h1,h2,h3,List.length_map];cases hu:s.up with
 |true=>rfl
 |false=>rw[(hg.dn hu).1];rfl
theorem Sim.hit {P:DP}{R:Zd}(h:Sim P R){j k i r:Nat}{s:Zb}{nd:Zi}{x:Zu}{y:Yj}{nm:Int}(v:Value)(hj:j<6)(hr:(P.seats j).reads=true)(hn:(P.seats j).num=r)(hy:R.rdrs[r]?=some y)(he:y.ended=false)(hlo:y.lo=(P.seats j).lo)(hhi:y.hi=(P.seats j).hi)
 (hs:P.sites[k]?=some s) (hnd:R.nodes[k]?=some nd) (hx:s.ents[i]?=some x) (hm:nd.nms[i]?=some nm) (ht:max y.lo x.e.fr≤min y.hi (lastE x.e s.horizon)):
 Sim (P.hit j k i s x) ((R.spanR r y (max y.lo x.e.fr) (min y.hi (lastE x.e s.horizon))).pushUse nm v):=by
 obtain⟨hn1,hn2⟩:=ZbR h.names;obtain⟨hk,_⟩:=List.getElem?_eq_some_iff.mp hs;refine⟨h.past,h.clock,h.rdr.cutS hj hr hn hy ht hlo hhi he,h.puts,h.bd,?_,?_,?_,h.names,h.fresh⟩
 · show R.nodes.length=(P.sites.set k _).length;rw[List.length_set];exact h.len
 · intro k' s' nd' hs' hnd';have hs2:(P.sites.set k (s.use i x))[k']?=some s':=hs';have hnd2:R.nodes[k']?=some nd':=hnd';show ZX R.past (R.uses++[nm]) s' nd'.p;by_cases hkk:k'=k
   · subst hkk;rw[List.getElem?_set_self hk]at hs2;injection hs2 with hs2;rw[hnd]at hnd2;injection hnd2 with hnd2;subst hs2 hnd2;exact(h.node _ s nd hs hnd).use hx hm (hn1 nd (List.mem_of_getElem? hnd))
   · rw[List.getElem?_set_ne (fun e=>hkk e.symm)]at hs2;exact(h.node k' s' nd' hs2 hnd2).other fun a ha=>hn2 k' k nd' nd hnd2 hnd hkk a ha nm (List.mem_of_getElem? hm)
 · intro s' hs';rcases List.mem_or_eq_of_mem_set hs' with hs'|rfl
   · exact h.room s' hs'
   · exact h.room s (List.mem_of_getElem? hs)
theorem Sim.miss {P:DP}{R:Zd}(h:Sim P R){j r:Nat}{y:Yj}{en:Zh}(v:Value)(hj:j<6)(hr:(P.seats j).reads=true)(hn:(P.seats j).num=r)(hy:R.rdrs[r]?=some y)(he:y.ended=false)(hlo:y.lo=(P.seats j).lo)(hhi:y.hi=(P.seats j).hi)(hfr:en.fr≤y.hi):
 Sim (P.miss j en) (R.readR r y en v):=by
 have hsp:=h.rdr.span y (List.mem_of_getElem? hy);have hc:=h.rdr.cutS (f:=en.fr) (g:=y.hi) hj hr hn hy (by rw[Nat.min_self];omega) hlo hhi he;rw[Nat.min_self]at hc;refine⟨h.past,h.clock,?_,?_,h.bd,h.len,h.node,h.room,h.names,h.fresh⟩
 · show V5 P.begun (Z9 P.seats j ((P.seats j).cut en.fr (P.seats j).hi)) (R.rdrs.set r {y with lo:=max y.lo en.fr}) P.past.length;rw[←hhi];exact hc
 · show(if R.puts.length<10 then R.puts++[en]else R.puts)=P.joined en;unfold DP.joined;rw[h.puts]
theorem Zeh (q:ByteArray)(W:World)(ts:List (Nat×Nat))(hr:Q.readL q.data.toList=(0,ts))(h8:ts.length≤8)(hks:∀t∈ts,t.1≤3∧t.2≤7):
 Calls Tryz.prog 72 #[.string q] W fun e w'=>∃l,e=.returned (.tuple #[l,.int .i64 0])∧Below W.heap.size W w'∧Zey w' l (Z5 ts) (fun p=>YW p.st ts):=by
 refine(ZbT q W ts hr).mono fun e w' hp=> ?_;obtain⟨g,cap,e1,_,hl,hb⟩:=hp;refine⟨.slice (some ⟨g,0,none⟩) ts.length cap,e1,hb,⟨_,_,_,rfl⟩,fun V hV=> ?_,fun p hp V hV=> ?_⟩
 · refine(Zct g cap ts V (hl.below hV) h8 hks).mono fun e2 w2 h2=> ?_;obtain⟨e3,rfl⟩:=h2;exact⟨e3,Below.refl _ _⟩
 · exact Zis g cap ts p.st V (hl.below hV) h8 hks hp
theorem ZjC {b top:Nat}{s:Nat→Yb}{l:List Yj}(h:V5 b s l top){m:Int}(hall:∀i,i<6→(s i).reads=true→(s i).num≠m):Yy l m=true:=by
 by_cases h0:m<0
 · simp[Yy,h0]
 · by_cases h1:(l.length:Int)≤m
   · simp[Yy,h1]
   · obtain⟨j,rfl⟩:∃j:Nat,m=j:=⟨m.toNat,by omega⟩;have hlt:j<l.length:=by omega
     have he:l[j].ended=true:=by
      cases hh:l[j].ended with
      |true=>rfl
      |false=>
       obtain⟨i,hi,hr,hn⟩:=h.back j l[j] (List.getElem?_eq_getElem hlt) hh;exact absurd hn (hall i hi hr)
     simp only[Yy,h0,h1,decide_false,Bool.false_or,Int.toNat_natCast,List.getElem?_eq_getElem hlt];exact he
theorem Zg5 {w:World}{xb cb:Nat}{D:Ze}{R:Zd}(h:ZP w xb cb D R)(hus:(R.uses.length+1)*8≤140737488355328)(m:Int)(q:ByteArray)(hq:q.size≤maxLen):
 ∃(x:Int)(f:Bool)(z:Int),Calls Tryz.prog 38 #[.pointer (some ⟨xb,0,none⟩),.int .i64 m,.string q] w fun e w1=>e=.returned (.tuple #[.int .i32 x,.bool f,.int .i64 z])∧
  Xt 39 #[.pointer (some ⟨cb,0,none⟩),.int .i64 m,.string q] w w1 xb cb D R (.tuple #[.int .i32 x,.bool f,.int .i64 z]):=by
 by_cases hall:∀i,i<6→(D.seats i).reads=true→(D.seats i).num≠m
 · have hg:=ZjC (s:=D.seats) h.sim.rdr hall;refine⟨0,false,8,(Zf0 w xb D m q h.dev hall).mono fun e w1 hp=> ?_⟩;obtain⟨e1,k1⟩:=hp;refine⟨e1,k1.mono (fun _=>False.elim),fun w2 k2=>(Zfr w2 cb R m q (h.ref_after (k1.mono (fun _=>False.elim)) k2) h.rfit hg).mono fun e w3 hq=> ?_⟩;exact⟨hq.1,h.stays k1 k2 (Za.of_below hq.2 _),Za.of_below hq.2 _⟩
 · obtain⟨j,hj,hr,hn⟩:∃j,j<6∧(D.seats j).reads=true∧(D.seats j).num=m:=by
    false_or_by_contra
    rename_i hn
    exact hall fun i hi hr e=>hn ⟨i,hi,hr,e⟩
   obtain⟨r,x,hnr,hx,he,hlo,hhi⟩:=h.sim.rdr.seat j hj hr;have hnr':(D.seats j).num=r:=hnr;have hlo':x.lo=(D.seats j).lo:=hlo;have hhi':x.hi=(D.seats j).hi:=hhi;have hm:m=r:=by rw[←hn,hnr']
   have hg:Yy R.rdrs m=false:=by rw[hm];exact Zco hx he
   rcases Q.readL_cases q.data.toList with hrd|hrd|⟨ts,hrd,hne,h8,hks⟩
   · refine⟨0,false,3,(ZcV w xb D m q 3 j h.dev hj hr hn hq (by decide) hrd).mono fun e w1 hp=> ?_⟩;obtain⟨e1,k1⟩:=hp;refine⟨e1,k1.mono (fun _=>False.elim),fun w2 k2=>(Zdu w2 cb R m q 3 (h.ref_after (k1.mono (fun _=>False.elim)) k2) h.rfit hg (by decide) ((Zba q w2 3 hq hrd).mono fun e w3 h3=>⟨⟨_,h3.1⟩,h3.2.2⟩)).mono fun e w3 hq=> ?_⟩;exact⟨hq.1,h.stays k1 k2 (Za.of_below hq.2 _),Za.of_below hq.2 _⟩
   · refine⟨0,false,4,(ZcV w xb D m q 4 j h.dev hj hr hn hq (by decide) hrd).mono fun e w1 hp=> ?_⟩;obtain⟨e1,k1⟩:=hp;refine⟨e1,k1.mono (fun _=>False.elim),fun w2 k2=>(Zdu w2 cb R m q 4 (h.ref_after (k1.mono (fun _=>False.elim)) k2) h.rfit hg (by decide) ((Zba q w2 4 hq hrd).mono fun e w3 h3=>⟨⟨_,h3.1⟩,h3.2.2⟩)).mono fun e w3 hq=> ?_⟩;exact⟨hq.1,h.stays k1 k2 (Za.of_below hq.2 _),Za.of_below hq.2 _⟩
   · have hsp:=h.sim.rdr.span x (List.mem_of_getElem? hx);have hlen:=h.sim.plen;have hpl:D.pu.past.length=D.past.length:=rfl;have hq40:q.size≤40:=by have:=Zc8 hrd;rw[Array.length_toList]at this;exact this
     have hone:∀i,i<6→(D.seats i).reads=true→(D.seats i).num=m→i=j:=fun i hi hri hni=>h.sim.rdr.one i j hi hj hri hr (hni.trans hn.symm);have hwalk:=h.good.walk (by omega);have hlh:(D.seats j).lo≤(D.seats j).hi:=by rw[←hlo',←hhi'];exact hsp.1
     have hnl:R.nodes.length=D.nodes.length:=h.sim.len.trans (by show(D.nodes.map _).length=_;simp);have hnp:=h.rfit.npos;obtain⟨k,hk⟩:∃k,k=YZ q.data.toList%R.nodes.length:=⟨_,rfl⟩;have hkl:k<R.nodes.length:=by rw[hk];exact Nat.mod_lt _ hnp
     have hkD:D.pu.nodeN q=k:=by
      show YZ q.data.toList%D.pu.sites.length=k;rw[←h.sim.len,hk]
     obtain⟨nd,hnd⟩:∃nd,R.nodes[k]?=some nd:=⟨_,List.getElem?_eq_getElem hkl⟩;obtain⟨dn,hdn⟩:∃dn,D.nodes[k]?=some dn:=⟨_,List.getElem?_eq_getElem (by omega)⟩;have hs:D.pu.sites[k]?=some dn.p:=by show(D.nodes.map (·.p))[k]?=_;rw[List.getElem?_map,hdn];rfl
     have hns:=h.sim.node k dn.p nd hs hnd;have hgs:=h.good.sites dn.p (List.mem_of_getElem? hs);have hpm:=h.good.pmax;have hents:nd.ents=dn.p.ents.map (·.e):=hns.ents;have hel:nd.ents.length≤1000:=by
      rw[hents,List.length_map];have:=hgs.el;have:=hgs.room6;omega
     have hfi:∀e∈nd.ents,e.Fit:=fun e hem=>by
      rw[hents]at hem;obtain⟨z,hz,rfl⟩:=List.mem_map.mp hem;exact(hgs.es z hz).fit hpm
     have hans:=hns.ans hgs q x.lo x.hi;have hlow:=(ZbI nd.up nd.horizon q x.lo x.hi nd.ents nd.ents.length);by_cases hhit:0≤dn.p.ans q x.lo x.hi dn.p.ents.length
     · obtain⟨i,hi⟩:∃i:Nat,dn.p.ans q x.lo x.hi dn.p.ents.length=i:=⟨_,(Int.toNat_of_nonneg hhit).symm⟩;have hil:i<dn.p.ents.length:=by
        rw[hans,hi]at hlow;have:=hlow.2;rw[hents,List.length_map]at this;omega
       obtain⟨z,hz⟩:∃z,dn.p.ents[i]?=some z:=⟨_,List.getElem?_eq_getElem hil⟩;have hy:nd.ents[i]?=some z.e:=by rw[hents,List.getElem?_map,hz];rfl
       have hnml:nd.nms.length=dn.p.ents.length:=hns.nml;obtain⟨nm,hnm⟩:∃nm,nd.nms[i]?=some nm:=⟨_,List.getElem?_eq_getElem (by omega)⟩;have hhz:nd.horizon=dn.p.horizon:=hns.hz;have han:Xz nd.up nd.horizon q x.lo x.hi nd.ents nd.ents.length=(i:Int):=hans.trans hi;have hmt:=Zat _ _ _ _ _ _ _ _ _ han hy;rw[hhz]at hmt;refine⟨z.e.val,true,0,(Zhe w xb D m q ts j i dn z h.dev hwalk hj hr hn hone hlh hq40 hrd (by rw[hkD];exact hdn) (by rw[←hlo',←hhi'];exact hi) hz).mono fun e w1 hp=>⟨hp.1,hp.2.choose_spec.2.2.1,fun w2 k2=> ?_⟩⟩;have hwr:=Zhw w2 cb R r i q x nd z.e nm (Z5 ts) (fun p=>YW p.st ts) (h.ref_after hp.2.choose_spec.2.2.1 k2) h.rfit hx he hq40 (by rw[←hk];exact hnd) hel hfi han hy hnm hus (Zeh q w2 ts hrd h8 hks);rw[hm];refine hwr.mono fun e w3 hr3=> ?_;obtain⟨e2,v,hb⟩:=hr3;rw[hhz]at hb;have hu1:((R.spanR r x (max x.lo z.e.fr) (min x.hi (lastE z.e dn.p.horizon))).pushUse nm v).uses.length=R.uses.length+1:=by show(R.uses++[nm]).length=_;simp
       refine⟨e2,h.turned hp.2 k2 hb ?_ ?_ ?_ (by omega) h.nx0 ?_,hb.2.1⟩
       · rw[hkD];exact h.sim.hit v hj hr hnr hx he hlo hhi hs hnd hz hnm hmt.2
       · rw[hu1,hkD];exact h.good.hit hs hz
       · refine⟨h.rfit.pos,h.rfit.pmax,h.rfit.clk0,h.rfit.clk1,?_,h.rfit.npos,h.rfit.nmax,h.rfit.fmax⟩;show(R.rdrs.set r _).length≤200;rw[List.length_set];exact h.rfit.rmax
       · rw[hu1];have:=h.nx1;show R.next≤_;omega
     · have hmi:Xz nd.up nd.horizon q x.lo x.hi nd.ents nd.ents.length= -1:=by omega
       have hsh:(D.seats j).hi≤D.past.length:=by rw[←hhi'];exact hsp.2
       obtain⟨p,hp⟩:∃p,R.past[x.hi]?=some p:=⟨_,List.getElem?_eq_getElem (by have:=hsp.2;omega)⟩;obtain⟨hst,hbd⟩:=Zjd h.sim hp;have hen:D.pu.answer q ts (D.seats j).hi=Uf R.past q (Z5 ts) ((fun p:Zj=>YW p.st ts) p) x.hi:=by
        rw[←hhi',h.sim.past];show Uf _ q _ (YW (VU D.pu.past x.hi) ts) _=_;rw[hst]
       have hok:=ZhM (P:=D.pu) (t:=(D.seats j).hi) hrd hsh;obtain⟨en,hEn⟩:∃en,en=D.pu.answer q ts (D.seats j).hi:=⟨_,rfl⟩;have hfr:en.fr≤x.hi:=by rw[hEn,hen];exact ZbW _ _ _
       refine⟨en.val,false,0,?_⟩;have hdr:=ZfY w xb D m q ts j dn h.dev hwalk hj hr hn hone hlh hsh hq40 hrd (by rw[hkD];exact hdn) (by rw[←hlo',←hhi'];omega);rw[←hEn]at hdr hok;refine hdr.mono fun e w1 hd=>⟨hd.1,hd.2.choose_spec.2.2.1,fun w2 k2=> ?_⟩;have hwr:=Zfc w2 cb R r q x p nd (Z5 ts) (fun p=>YW p.st ts) (h.ref_after hd.2.choose_spec.2.2.1 k2) h.rfit hx he hp hq40 (by rw[←hk];exact hnd) hel hfi hmi (by rw[h.sim.puts];exact h.good.qmax) hbd (Zeh q w2 ts hrd h8 hks);rw[←hen,←hEn]at hwr;rw[hm];refine hwr.mono fun e w3 hr3=> ?_;obtain⟨e2,v',hr3,k3,f3⟩:=hr3;refine⟨e2,h.turned' hd.2 k2 ⟨hr3,k3,f3⟩ (h.sim.miss v' hj hr hnr hx he hlo hhi hfr) (h.good.miss hok) ⟨h.rfit.pos,h.rfit.pmax,h.rfit.clk0,h.rfit.clk1,?_,h.rfit.npos,h.rfit.nmax,h.rfit.fmax⟩ rfl rfl,k3⟩;show(R.rdrs.set r _).length≤200;rw[List.length_set];exact h.rfit.rmax
theorem ZhC {w:World}{xb cb:Nat}{D:Ze}{R:Zd}(h:ZP w xb cb D R)(i:Int):
 ∃r:Int,Calls Tryz.prog 43 #[.pointer (some ⟨xb,0,none⟩),.int .i64 i] w fun e w1=>e=.returned (.int .i64 r)∧
  Xt 44 #[.pointer (some ⟨cb,0,none⟩),.int .i64 i] w w1 xb cb D R (.int .i64 r):=by
 have hps:R.puts=D.puts:=h.sim.puts;have hqm:=h.dfit.qmax;have hpl:R.puts.length≤10:=by rw[hps];exact hqm
 by_cases hi:i<0∨(D.puts.length:Int)≤i
 · refine⟨10,(ddrop w xb D i h.dev h.dfit).mono fun e w1 hp=> ?_⟩;rcases hp with⟨_,e1,k1⟩|⟨a,c,_⟩
   · refine⟨e1,k1.mono (fun _=>False.elim),fun w2 k2=>(rdrop w2 cb R i (h.ref_after (k1.mono (fun _=>False.elim)) k2) hpl).mono fun e w3 hq=> ?_⟩;rcases hq with⟨_,e2,rfl⟩|⟨a,c,_⟩
     · exact⟨e2,h.stays k1 k2 (Za.refl _ _),Za.refl _ _⟩
     · rw[hps]at c;omega
   · omega
 · refine⟨0,(ddrop w xb D i h.dev h.dfit).mono fun e w1 hp=> ?_⟩;rcases hp with⟨a,_⟩|⟨_,_,e1,v,hd,k1,f1⟩
   · exact absurd a hi
   · refine⟨e1,k1,fun w2 k2=>(rdrop w2 cb R i (h.ref_after k1 k2) hpl).mono fun e w3 hq=> ?_⟩;rcases hq with⟨a,_⟩|⟨_,_,e2,v',hr3,k3,f3⟩
     · rw[hps]at a;exact absurd a hi
     · have hgd:=h.good.drop i;have hdp:D.pu.drop i=(0,{D.pu with puts:=D.puts.eraseIdx i.toNat}):=by
        unfold DP.drop;rw[if_neg (show¬(i<0∨(D.pu.puts.length:Int)≤i)from hi)];rfl
       rw[hdp]at hgd;refine⟨e2,h.turned' (P:={D.pu with puts:=D.puts.eraseIdx i.toNat}) ⟨_,rfl,hd,k1,f1⟩ k2 ⟨hr3,k3,f3⟩ ⟨h.sim.past,h.sim.clock,h.sim.rdr,?_,h.sim.bd,h.sim.len,h.sim.node,h.sim.room,h.sim.names,h.sim.fresh⟩ hgd ⟨h.rfit.pos,h.rfit.pmax,h.rfit.clk0,h.rfit.clk1,h.rfit.rmax,h.rfit.npos,h.rfit.nmax,h.rfit.fmax⟩ rfl rfl,k3⟩;show R.puts.eraseIdx i.toNat=D.puts.eraseIdx i.toNat;rw[hps]
theorem Zkf {w w1:World}{xb cb:Nat}{kd a b c:Int}{s:ByteArray}{l:Value}{F:Nat→Prop}(k:Za F (Zz w xb cb kd a b c s l) w1)(hF:∀i,F i→i<w.heap.size):w1.cell? ⟨w.heap.size+1,4,none⟩=some (.string s):=
 k.keep (fun hf=>by have:=hF _ hf;simp at this;omega) (by simp[Zz])
theorem ZdT (w:World)(pb xb cb:Nat)(a b c:Int)(s:ByteArray)(ao:Option Addr)(n cap:Nat)(D:Ze)(R:Zd)(h:ZP w xb cb D R)(hus:(R.uses.length+1)*8≤140737488355328)(hs:s.size≤maxLen):
 Calls Tryz.prog 15 #[.pointer (some ⟨pb,0,none⟩),.agg #[.pointer (some ⟨xb,0,none⟩),.pointer (some ⟨cb,0,none⟩)],.agg #[.int .i64 7,.int .i64 a,.int .i64 b,.int .i64 c,.string s,.slice ao n cap]] w fun e w'=>Yp w xb cb D R e w':=by
 have hk:=ZW w xb cb 7 a b c s (.slice ao n cap);obtain⟨x,f,z,hr⟩:=Zg5 (h.kept hk fun _ _=>id) hus b s hs;have H0:Hid (Calls Tryz.prog 38 #[.pointer (some ⟨xb,0,none⟩),.int .i64 b,.string s] (Zz w xb cb 7 a b c s (.slice ao n cap)) fun e w1=>e=.returned (.tuple #[.int .i32 x,.bool f,.int .i64 z])∧Hid (Xt 39 #[.pointer (some ⟨cb,0,none⟩),.int .i64 b,.string s] (Zz w xb cb 7 a b c s (.slice ao n cap)) w1 xb cb D R (.tuple #[.int .i32 x,.bool f,.int .i64 z]))):=hr;have HK:=hid hk;have HL:Hid (∀i,D.fp xb i→i<w.heap.size):=h.dev.lt;clear hr hk h hs hus;go_enter Tryz.func15,Tryz.ntmps15
 go_wp2_with first
  |(go_at_call 38;refine H0.out.mono ?_;rintro e w1 ⟨rfl,ht⟩;have q1:=YD ht.out.1 HL.out;have q2:=YR ht.out.1 HL.out;have q4:=Zkf ht.out.1 HL.out)
  |(go_at_call 39;refine(ht.out.2 _ (Za.refl _ _)).mono ?_;rintro e w3 ⟨rfl,hz,_⟩;have HZ:Hid (ZR (Zz w xb cb 7 a b c s (.slice ao n cap)) w3 xb cb D R):=hz;clear hz)
 go_ret;exact⟨Z6 (by simp),HZ.out.from HK.out⟩
theorem Zhu (w:World)(pb xb cb:Nat)(a b c:Int)(s:ByteArray)(ao:Option Addr)(n cap:Nat)(D:Ze)(R:Zd)(h:ZP w xb cb D R):
 Calls Tryz.prog 16 #[.pointer (some ⟨pb,0,none⟩),.agg #[.pointer (some ⟨xb,0,none⟩),.pointer (some ⟨cb,0,none⟩)],.agg #[.int .i64 9,.int .i64 a,.int .i64 b,.int .i64 c,.string s,.slice ao n cap]] w fun e w'=>Yp w xb cb D R e w':=by
 have hk:=ZW w xb cb 9 a b c s (.slice ao n cap);obtain⟨r,hr⟩:=ZhC (h.kept hk fun _ _=>id) b;have H0:Hid (Calls Tryz.prog 43 #[.pointer (some ⟨xb,0,none⟩),.int .i64 b] (Zz w xb cb 9 a b c s (.slice ao n cap)) fun e w1=>e=.returned (.int .i64 r)∧Hid (Xt 44 #[.pointer (some ⟨cb,0,none⟩),.int .i64 b] (Zz w xb cb 9 a b c s (.slice ao n cap)) w1 xb cb D R (.int .i64 r))):=hr;have HK:=hid hk;have HL:Hid (∀i,D.fp xb i→i<w.heap.size):=h.dev.lt;clear hr hk h;go_enter Tryz.func16,Tryz.ntmps16
 go_wp2_with first
  |(go_at_call 43;refine H0.out.mono ?_;rintro e w1 ⟨rfl,ht⟩;have q1:=YD ht.out.1 HL.out;have q2:=YR ht.out.1 HL.out)
  |(go_at_call 44;refine(ht.out.2 _ (Za.refl _ _)).mono ?_;rintro e w3 ⟨rfl,hz,_⟩;have HZ:Hid (ZR (Zz w xb cb 9 a b c s (.slice ao n cap)) w3 xb cb D R):=hz;clear hz)
 go_ret;exact⟨Z6 (by simp),HZ.out.from HK.out⟩
structure Zgf (W w1:World)(n g cp:Nat)(ws:List (Int×Int)):Prop where
 room:n+2≤cp
 new:W.heap.size≤g
 left:ZcQ w1 w1 g 0 (ws++[Yq,Yq])
 most:cp≤maxLen
 kept:Za (fun _=>False) W w1
theorem Zeb {W:World}{xb cb:Nat}{D:Ze}{R:Zd}{ao:Option Addr}{n cap:Nat}{ws:List (Int×Int)}(h:ZP W xb cb D R)(hu:R.uses.length<9223372036854775807)(hw:Wr W ao n ws)(hreach:n*16≤140737488351232)(hno:ao=none→n=0∧cap=0)
 (hfar:0<n→∀a,ao=some a→¬pfp xb cb D R a.block) (hwb:BdW ws):
 Calls Tryz.prog 27 #[.slice ao n cap] W fun e w1=>∃(g cp:Nat)(x y:Int),e=.returned (.slice (some ⟨g,0,none⟩) n cp)∧Hid (Zgf W w1 n g cp ws)∧
  Hid (Calls Tryz.prog 28 #[.pointer (some ⟨xb,0,none⟩),.slice (some ⟨g,0,none⟩) n cp] w1 fun e w2=>e=.returned (.tuple #[.int .u64 x,.int .i64 y])∧
   Hid (Xt 29 #[.pointer (some ⟨cb,0,none⟩),.slice ao n cap] w1 w2 xb cb D R (.tuple #[.int .u64 x,.int .i64 y]))):=by
 refine(Zhc W ao n cap ws hw hreach hno).mono fun e w1 hp=> ?_;obtain⟨g,cp,e1,hcp,hg,hrow,hk⟩:=hp;obtain⟨hwr,hleft,hm⟩:=Zg7 hw.len hrow;have hn:n≤maxLen:=by unfold maxLen;omega
 obtain⟨x,y,hc⟩:=Zfe (h.kept hk fun _ _=>id) hu (some ⟨g,0,none⟩) ao n cp cap ws hwr (hw.kept hk fun _ _=>id) hn (fun hn a ha hd=>hfar hn a ha (.inl hd)) hwb;exact⟨g,cp,x,y,e1,⟨hcp,hg,hleft,hm,hk⟩,hc⟩
theorem ZeU {w wc W w1 w3:World}{xb cb pb g n cp cap:Nat}{D:Ze}{R:Zd}{ao:Option Addr}{ws:List (Int×Int)}(hfar:0<n→∀a,ao=some a→¬pfp xb cb D R a.block∧a.block≠pb∧a.block<wc.heap.size)(hlt:∀i,pfp xb cb D R i→i<w.heap.size)
 (hsz:wc.heap.size=w.heap.size) (hw:Wr wc ao n ws) (kW:Za (fun _=>False) wc W) (hro:Zgf W w1 n g cp ws) (ht:ZR w1 w3 xb cb D R):Hid (Calls Tryz.prog 30 #[.slice (some ⟨g,0,none⟩) n cp,.slice ao n cap] w3 fun e w4=>Zdo w3 g e w4):=by
 obtain⟨_,_,_,hk,_⟩:=ht;have hg:wc.heap.size≤g:=Nat.le_trans kW.size hro.new;have hwr:Wr w3 ao n ws:=((hw.kept kW fun _ _=>id).kept hro.kept fun _ _=>id).kept' hk fun hn a ha=>(hfar hn a ha).1;exact ZhL w3 g n cp ao cap ws hwr (fun hn a ha=>by have:=(hfar hn a ha).2.2;omega) hro.room hro.most (hro.left.kept' hk fun hp=>by have:=hlt g hp;omega)
theorem ZjP (w:World)(pb xb cb:Nat)(a b c:Int)(s:ByteArray)(ao:Option Addr)(n cap:Nat)(ws:List (Int×Int))(D:Ze)(R:Zd)(vps b0 b1 b2:Value)(commits most:Int)(h:ZP w xb cb D R)(hu:R.uses.length<9223372036854775807)
 (hblk:Blk w pb 34 (ZM vps b0 b1 b2 commits most)) (hpb:¬pfp xb cb D R pb) (hc0:0≤commits) (hc1:commits≤4611686018427387904) (hw:Wr w ao n ws) (hreach:n*16≤140737488351232) (hno:ao=none→n=0∧cap=0)
 (hfar:0<n→∀a,ao=some a→¬pfp xb cb D R a.block∧a.block≠pb∧a.block<w.heap.size) (hwb:BdW ws):
 Calls Tryz.prog 14 #[.pointer (some ⟨pb,0,none⟩),.agg #[.pointer (some ⟨xb,0,none⟩),.pointer (some ⟨cb,0,none⟩)],.agg #[.int .i64 2,.int .i64 a,.int .i64 b,.int .i64 c,.string s,.slice ao n cap]] w fun e w'=>Xa w pb xb cb D R vps b0 b1 b2 commits most e w':=by
 have hpl:=hblk.lt;have c4:w.cell? ⟨pb,4,none⟩=some (.int .i64 commits):=hblk.cell 4;have c5:w.cell? ⟨pb,5,none⟩=some (.int .i64 most):=hblk.cell 5;have f4:=hblk.free 4;obtain⟨wc,hwc⟩:∃wc,wc=w.setCell ⟨pb,4,none⟩ (.int .i64 (commits+1)):=⟨_,rfl⟩;have kc:Za (fun k=>k=pb) w wc:=by rw[hwc];exact Za.setCell w ⟨pb,4,none⟩ _
 have hsz:wc.heap.size=w.heap.size:=by rw[hwc];simp[World.setCell]
 have hbc:Blk wc pb 34 (ZM vps b0 b1 b2 (commits+1) most):=by rw[hwc];exact hblk.set 4 _
 have hpc:ZP wc xb cb D R:=h.kept kc fun j hj e=>by rw[e]at hj;exact hpb hj
 have hwr:Wr wc ao n ws:=hw.kept' kc fun hn a ha e=>(hfar hn a ha).2.1 e;have HM:Hid (∀w',ZR wc w' xb cb D R→Xa w pb xb cb D R vps b0 b1 b2 commits most (.returned (.bool true)) w'):=fun w' ht=>Xa.mk' hpb kc hbc ht;have HP:=hid hpc;have HWC:=hid hwc;have HSZ:=hid hsz;have d4:wc.cell? ⟨pb,4,none⟩=some (.int .i64 (commits+1)):=hbc.cell 4;have d5:wc.cell? ⟨pb,5,none⟩=some (.int .i64 most):=hbc.cell 5;have HD:Hid (wc.cell? ⟨pb,4,none⟩=some (.int .i64 (commits+1))∧wc.cell? ⟨pb,5,none⟩=some (.int .i64 most)):=⟨d4,d5⟩;by_cases hlt:most<commits+1
 · clear h hu hpc hwr hw hfar hno hreach hbc hblk hwc hsz kc d4 d5;go_enter Tryz.func14,Tryz.ntmps14
   go_wp2_with fail
   go_quiet (fail)
   go_wp2;go_ret;rw[←HWC.out];exact HM.out _ (ZR.same HP.out (((Za.alloc _ _ (fun _=>False)).allocNew _).drewN _) (fun _ _=>id))
 · have HRO:Hid (∀W,Za (fun _=>False) wc W→Calls Tryz.prog 27 #[.slice ao n cap] W fun e w1=>∃(g cp:Nat)(x y:Int),e=.returned (.slice (some ⟨g,0,none⟩) n cp)∧Hid (Zgf W w1 n g cp ws)∧
    Hid (Calls Tryz.prog 28 #[.pointer (some ⟨xb,0,none⟩),.slice (some ⟨g,0,none⟩) n cp] w1 fun e w2=>e=.returned (.tuple #[.int .u64 x,.int .i64 y])∧
     Hid (Xt 29 #[.pointer (some ⟨cb,0,none⟩),.slice ao n cap] w1 w2 xb cb D R (.tuple #[.int .u64 x,.int .i64 y])))):=
    fun W hk=>Zeb (hpc.kept hk fun _ _=>id) hu (hwr.kept hk fun _ _=>id) hreach hno (fun hn a ha=>(hfar hn a ha).1) hwb
   have HFAR:Hid (0<n→∀a,ao=some a→¬pfp xb cb D R a.block∧a.block≠pb∧a.block<wc.heap.size):=by rw[hsz];exact hfar
   have HWR:=hid hwr;have HLT:Hid (∀i,pfp xb cb D R i→i<w.heap.size):=h.lt;clear h hu hpc hwr hw hfar hno hreach hbc hblk hwc hsz kc d4 d5;go_enter Tryz.func14,Tryz.ntmps14
   go_wp2_with fail
   go_quiet (fail)
   rw[←HWC.out];obtain⟨W,hW⟩:∃W,W=(Zz wc xb cb 2 a b c s (.slice ao n cap)).drewN nq:=⟨_,rfl⟩;have kW:Za (fun _=>False) wc W:=by rw[hW];exact(ZW _ _ _ _ _ _ _ _ _).drewN _
   have z0:W.cell? ⟨w.heap.size,0,none⟩=some (.pointer (some ⟨xb,0,none⟩)):=by rw[hW,←HSZ.out];show(Zz wc xb cb 2 a b c s (.slice ao n cap)).cell? _=_;simp[Zz]
   have z1:W.cell? ⟨w.heap.size,1,none⟩=some (.pointer (some ⟨cb,0,none⟩)):=by rw[hW,←HSZ.out];show(Zz wc xb cb 2 a b c s (.slice ao n cap)).cell? _=_;simp[Zz]
   have z5:W.cell? ⟨w.heap.size+1,5,none⟩=some (.slice ao n cap):=by rw[hW,←HSZ.out];show(Zz wc xb cb 2 a b c s (.slice ao n cap)).cell? _=_;simp[Zz]
   have hWs:W.heap.size=w.heap.size+2:=by rw[hW,←HSZ.out];exact ZaF _ _ _ _ _ _ _ _ _
   unfold Zz at hW;rw[←hW];have HZ:Hid (W.cell? ⟨w.heap.size,0,none⟩=some (.pointer (some ⟨xb,0,none⟩))∧W.cell? ⟨w.heap.size,1,none⟩=some (.pointer (some ⟨cb,0,none⟩))∧W.cell? ⟨w.heap.size+1,5,none⟩=some (.slice ao n cap)):=⟨z0,z1,z5⟩;have HKW:=hid kW;have HWS:=hid hWs;clear hW kW hWs
   go_wp2_with first
    |(go_at_call 27;refine(HRO.out _ HKW.out).mono ?_;rintro e w1 ⟨g,cp,x,y,rfl,hro,hdc⟩;have y0:=hro.out.kept.keep id HZ.out.1;have y1:=hro.out.kept.keep id HZ.out.2.1;have y5:=hro.out.kept.keep id HZ.out.2.2)
    |(go_at_call 28;refine hdc.out.mono ?_;rintro e w2 ⟨rfl,ht⟩;have x1:=ht.out.1.keep (fun hf=>Nat.lt_irrefl _ (HLT.out _ (.inl hf))) y1;have x5:=ht.out.1.keep (fun hf=>Nat.not_succ_lt_self (HLT.out _ (.inl hf))) y5)
    |(go_at_call 29;refine(ht.out.2 _ (Za.refl _ _)).mono ?_;rintro e w3 ⟨rfl,hz,hk3⟩;have HT:Hid (ZR w1 w3 xb cb D R):=hz;clear hz;have v5:=hk3.keep (fun hf=>Nat.not_succ_lt_self (HLT.out _ (.inr hf))) x5;have HST:=ZeU (cap:=cap) HFAR.out HLT.out HSZ.out HWR.out HKW.out hro.out HT.out;clear hk3)
    |(go_at_call 30;refine HST.out.mono ?_;rintro e w4 ⟨rfl,hk4⟩;have HK4:Hid (Za (fun x=>x=g) w3 w4):=hk4;clear hk4)
   go_ret;refine HM.out _ (HT.out.still (HKW.out.trans hro.out.kept (fun _=>id) (fun _ _=>id)) HK4.out (fun i hi=> ?_) (by rw[HSZ.out];exact HLT.out));subst hi;exact⟨Nat.le_trans HKW.out.size hro.out.new,hro.out.left.lt⟩
theorem Tryz.infoPair :(Tryz.prog.info? 44).map (fun i=>(i.zero,i.size,i.bytes))=some (some (.agg #[.pointer none,.pointer none]),2,16):=by kernel_rfl
theorem ZfO {r:Int}(h1:1≤r)(h2:r≤6):(V8 r).Good 0 0:=
 ⟨h1,h2,Nat.le_refl _,by simp[V8],by simp[V8],by simp[V8],by simp[V8];omega,by simp[V8],by simp[V8],by simp[V8],by simp[V8],by simp[V8]⟩
theorem ZgK (r:Int)(n:Nat)(vn:Value):(Xj r n vn).pu.sites=List.replicate n (V8 r):=by simp[Ze.pu,Xj,Ym]
theorem Zh9 {r:Int}{n:Nat}(vn:Value)(h1:1≤n)(h2:n≤3)(h3:1≤r)(h4:r≤6):(Xj r n vn).pu.Good 0:=by
 have e:=ZgK r n vn;refine⟨by simp[Ze.pu,Xj],by simp[Ze.pu,Xj],by simp[Ze.pu,Xj],by simp[Ze.pu,Xj],by simp[Ze.pu,Xj],by rw[e,List.length_replicate];omega,by rw[e,List.length_replicate];omega,fun s hs=> ?_,by simp[Ze.pu,Xj]⟩;rw[e]at hs;obtain rfl:=List.eq_of_mem_replicate hs;exact ZfO h3 h4
theorem Zhy (n:Nat):(List.replicate n upN).flatMap (·.nms)=[]:=by
 rw[List.flatMap_eq_nil_iff];intro x hx;obtain rfl:=List.eq_of_mem_replicate hx;rfl
theorem Zj2 (r:Int)(n:Nat)(vd vp vn:Value):Sim (Xj r n vd).pu (XK r n vp vn):=by
 have en:=ZgK r n vd;have nn:(XK r n vp vn).nodes.flatMap (·.nms)=[]:=Zhy n;refine⟨rfl,rfl,⟨rfl,?_,?_,?_,rfl,?_⟩,rfl,fun p hp=>(by simp[Ze.pu,Xj]at hp),?_,?_,?_,by rw[nn];exact List.nodup_nil,by rw[nn];intro x hx;cases hx⟩
 · intro i _ h;cases h
 · intro j x h;simp[XK]at h
 · intro i k _ _ h;cases h
 · intro x h;simp[XK]at h
 · rw[en,List.length_replicate];show(List.replicate n upN).length=n;rw[List.length_replicate]
 · intro k s nd hs hnd;rw[en]at hs;obtain rfl:=List.eq_of_mem_replicate (List.mem_of_getElem? hs);obtain rfl:=List.eq_of_mem_replicate (List.mem_of_getElem? (show(List.replicate n upN)[k]?=some nd from hnd));exact⟨rfl,rfl,Nat.le_refl _,rfl,rfl,by simp[V8],rfl,by simp[V8],rfl,by show 0<1;omega,rfl,by simp[V8],by simp[V8]⟩
 · intro s hs;rw[en]at hs;obtain rfl:=List.eq_of_mem_replicate hs;rfl
theorem Zka (r:Int)(n:Nat)(vp vn:Value)(h1:1≤n)(h3:n≤3):(XK r n vp vn).Fit:=by
 refine⟨by simp[XK],by simp[XK],by simp[XK],by simp[XK],by simp[XK],?_,?_,?_⟩
 · show 0<(List.replicate n upN).length;rw[List.length_replicate];omega
 · show(List.replicate n upN).length≤3;rw[List.length_replicate];omega
 · intro nd h;have:nd=upN:=List.eq_of_mem_replicate h;subst this;exact⟨by simp[upN,zeroN],by simp[upN,zeroN],by simp[upN,zeroN]⟩
theorem Zi6 {w w1 w2:World}{r:Int}{n:Nat}{xb:Nat}{vd vp vn:Value}(h1:1≤n)(h3:n≤3)(h4:1≤r)(h5:r≤6)(hd:Dev w1 xb (Xj r n vd))(hx:w.heap.size≤xb)(hv:∀x,vd.ownBlock=some x→w.heap.size≤x)(hL:Za9 w1 w2 r n vp vn):
 ZP w2 xb w1.heap.size (Xj r n vd) (XK r n vp vn)∧(∀k,pfp xb w1.heap.size (Xj r n vd) (XK r n vp vn) k→w.heap.size≤k∧k<w2.heap.size):=by
 have hp:ZP w2 xb w1.heap.size (Xj r n vd) (XK r n vp vn):=⟨hd.kept hL.kept (fun _ _=>id),hL.ref,Zj2 r n vd vp vn,Zh9 vd h1 h3 h4 h5,Zka r n vp vn h1 h3,Int.le_refl _,Int.le_refl _,fun k hk hr=>by
  have:=hd.lt k hk;have:=hL.new k hr;omega⟩
 refine⟨hp,fun k hk=>⟨?_,hp.lt k hk⟩⟩;rcases hk with hk|hk
 · rcases ZjY hk with e|e
   · rw[e];exact hx
   · exact hv k e
 · have:=hL.new k hk;have:=hd.blk.lt;omega
def Vf (w:World)(pb:Nat)(vps b0 b1 b2:Value)(commits most:Int)(m:Nat)(xs:List Value)(e:Ending)(w':World):Prop:=
 e=.returned (.bool true)∧(Za (fun _=>False) w w'∨∃(xb cb:Nat)(D:Ze)(R:Zd)(v:Value),ZP w' xb cb D R∧R.uses.length=0∧Row w' 44 2 v (m+1) (xs++[.pointer (some ⟨xb,0,none⟩),.pointer (some ⟨cb,0,none⟩)])∧
  Blk w' pb 34 (ZM v b0 b1 b2 commits most)∧Za (fun k=>k=pb∨vps.ownBlock=some k) w w'∧(∀k,pfp xb cb D R k→w.heap.size≤k)∧
  (∀k,v.ownBlock=some k→vps.ownBlock=some k∨w.heap.size≤k)∧(∀k,pfp xb cb D R k→v.ownBlock≠some k))
theorem Zh7 {w w2 w3:World}{pb xb cb:Nat}{D:Ze}{R:Zd}{vps b0 b1 b2 v:Value}{commits most:Int}{m:Nat}{xs:List Value}{o:Obj}(hblk:Blk w pb 34 (ZM vps b0 b1 b2 commits most))(hrow:Row w 44 2 vps m xs)
 (k2:Za (fun _=>False) w w2) (hp:ZP w2 xb cb D R) (h0:R.uses.length=0) (hf:∀k,pfp xb cb D R k→w.heap.size≤k∧k<w2.heap.size)
 (hA:Zc (w2.alloc o) w3 44 2 vps v m 1 xs [.pointer (some ⟨xb,0,none⟩),.pointer (some ⟨cb,0,none⟩)]):
 Vf w pb vps b0 b1 b2 commits most m xs (.returned (.bool true)) (w3.setCell ⟨pb,0,none⟩ v):=by
 have hA:=hA.of_alloc;have hvlt:=hrow.lt;have hpl:=hblk.lt;have k3:Za (fun k=>vps.ownBlock=some k) w w3:=k2.trans hA.kept (fun _=>False.elim) (fun _ _=>id);have blk3:Blk w3 pb 34 (ZM vps b0 b1 b2 commits most):=hblk.kept k3 fun he=>hrow.ne_block hblk (by decide) he;have kS:=Za.setCell w3 ⟨pb,0,none⟩ v;have hp3:ZP w3 xb cb D R:=hp.kept hA.kept fun j hj he=>by have:=(hf j hj).1;have:=hvlt j he;omega
 refine⟨rfl,.inr ⟨xb,cb,D,R,v,hp3.kept kS fun j hj he=> ?_,h0,hA.row.kept kS fun j hj he=> ?_,blk3.set 0 v,k3.trans kS (fun _=>.inr) (fun _ _=>.inl),fun k hk=>(hf k hk).1,fun k hk=> ?_,fun k hk he=> ?_⟩⟩
 · have:=(hf j hj).1;simp at he;omega
 · subst he;exact Row.ne_block hA.row blk3 (by decide) hj
 · rcases hA.own with h|h
   · left;rw[←h];exact hk
   · right;have:=h k hk;have:=k2.size;omega
 · obtain⟨a,c⟩:=hf k hk;rcases hA.own with h|h
   · rw[h]at he;have:=hvlt k he;omega
   · have:=h k he;omega
theorem ZdK (a b:Option Addr):∀u∈[Value.pointer a,Value.pointer b],u.oneCell'=true:=by
 intro u hu;simp at hu;rcases hu with rfl|rfl<;>rfl
theorem cell_two_new (w:World)(a b:Value)(t:TypeId):∀j u,[a,b][j]?=some u→(w.alloc (.cells #[a,b] t)).cell? ((⟨w.heap.size,0,none⟩:Addr).add j)=some u:=by
 intro j u hj
 match j,hj with
 |0,hj=>simp at hj;subst hj;simp[Addr.add]
 |1,hj=>simp at hj;subst hj;simp[Addr.add]
 |j+2,hj=>simp at hj
theorem Zf7 {w w1 w2:World}{o:Obj}{pb q:Nat}{c:Int}{vps b0 b1 b2:Value}{commits most:Int}{m:Nat}{xs:List Value}(h1:1≤q)(h2:q≤3)(h3:1≤c)(h4:c≤6)(hblk:Blk w pb 34 (ZM vps b0 b1 b2 commits most))(hrow:Row w 44 2 vps m xs)
 (hd:∃vd,Xo (w.alloc o) w1 c q vd) (hL:∃vp vn,Za9 w1 w2 c q vp vn):
 w2.cell? ⟨pb,0,none⟩=some vps∧pb<w2.heap.size∧Hid (∀o,Row (w2.alloc o) 44 2 vps m xs)∧
  Hid (∀(o:Obj)(w3:World)(v:Value),Zc (w2.alloc o) w3 44 2 vps v m 1 xs [.pointer (some ⟨w.heap.size+1,0,none⟩),.pointer (some ⟨w1.heap.size,0,none⟩)]→
   w3.cell? ⟨pb,0,none⟩=some vps∧w3.frozen? ⟨pb,0,none⟩=false∧Vf w pb vps b0 b1 b2 commits most m xs (.returned (.bool true)) (w3.setCell ⟨pb,0,none⟩ v)):=by
 obtain⟨vp,vn,hL⟩:=hL;obtain⟨vd,hd⟩:=hd;have hsz:(w.alloc o).heap.size=w.heap.size+1:=by simp
 have hdv:=hd.dev;rw[hsz]at hdv;have k1:Za (fun _=>False) w w1:=(Za.alloc w o (fun _=>False)).trans hd.kept (fun _=>id) (fun _ _=>id);have k2:Za (fun _=>False) w w2:=k1.trans hL.kept (fun _=>id) (fun _ _=>id);have blk2:=hblk.kept k2 id;have hp:=Zi6 (w:=w) h1 h2 h3 h4 hdv (Nat.le_succ _) (fun x hx=>by have:=hd.own x hx;omega) hL;refine⟨blk2.cell 0,blk2.lt,fun o=>(hrow.kept k2 fun _ _=>id).kept (Za.alloc w2 o (fun _=>False)) (fun _ _=>id),fun o w3 v hA=> ?_⟩;have blk3:Blk w3 pb 34 (ZM vps b0 b1 b2 commits most):=blk2.kept hA.of_alloc.kept fun he=>(hrow.kept k2 fun _ _=>id).ne_block blk2 (by decide) he;exact⟨blk3.cell 0,blk3.free 0,Zh7 hblk hrow k2 hp.1 rfl hp.2 hA⟩
theorem Zb0 (w:World)(pb:Nat)(kd a b c:Int)(s:ByteArray)(ao:Option Addr)(n cap:Nat)(vps b0 b1 b2:Value)(commits most:Int)(m:Nat)(xs:List Value)(r:Int)
 (h0:∀W,Calls Tryz.prog 23 #[.int .i64 b,.int .i64 c] W fun e w'=>e=.returned (.tuple #[.pointer none,.int .i64 r])∧W=w')
 (h1:∀W,Calls Tryz.prog 24 #[.int .i64 b,.int .i64 c] W fun e w'=>e=.returned (.tuple #[.pointer none,.int .i64 r])∧W=w'):
 Calls Tryz.prog 11 #[.pointer (some ⟨pb,0,none⟩),.agg #[.int .i64 kd,.int .i64 a,.int .i64 b,.int .i64 c,.string s,.slice ao n cap]] w fun e w'=>Vf w pb vps b0 b1 b2 commits most m xs e w':=by
 have H0:=hid h0;have H1:=hid h1;clear h0 h1;go_enter Tryz.func11,Tryz.ntmps11
 go_wp2_with first
  |(go_at_call 23;refine(H0.out _).mono ?_;rintro e w1 ⟨rfl,rfl⟩)
  |(go_at_call 24;refine(H1.out _).mono ?_;rintro e w1 ⟨rfl,rfl⟩)
 go_ret;exact⟨rfl,.inl (Za.alloc _ _ _)⟩
theorem Zeg (w:World)(pb:Nat)(kd a c:Int)(q:Nat)(s:ByteArray)(ao:Option Addr)(n cap:Nat)(vps b0 b1 b2:Value)(commits most:Int)(m:Nat)(xs:List Value)(h1:1≤q)(h2:q≤3)(h3:1≤c)(h4:c≤6)
 (hblk:Blk w pb 34 (ZM vps b0 b1 b2 commits most)) (hrow:Row w 44 2 vps m xs) (hm:(m+1)*16≤140737488355328):
 Calls Tryz.prog 11 #[.pointer (some ⟨pb,0,none⟩),.agg #[.int .i64 kd,.int .i64 a,.int .i64 (q:Int),.int .i64 c,.string s,.slice ao n cap]] w fun e w'=>Vf w pb vps b0 b1 b2 commits most m xs e w':=by
 obtain⟨i0,hi,hz0,hz1,hz2⟩:=info_parts Tryz.infoPair;have HI:Hid (Tryz.prog.info? 44=some i0∧i0.zero=some (.agg #[.pointer none,.pointer none])∧i0.size=2∧i0.bytes=16):=⟨hi,hz0,hz1,hz2⟩;clear hi hz0 hz1 hz2;obtain⟨av,cv,hv,_⟩:=hrow.form;have HR:Hid (Row w 44 2 (.slice av m cv) m xs):=by rw[←hv];exact hrow
 have HB:Hid (Blk w pb 34 (ZM (.slice av m cv) b0 b1 b2 commits most)):=by rw[←hv];exact hblk
 have hpl:=hblk.lt;subst hv;have HN0:Hid (∀W,Calls Tryz.prog 23 #[.int .i64 (q:Int),.int .i64 c] W fun e w'=>e=.returned (.tuple #[.pointer (some ⟨W.heap.size,0,none⟩),.int .i64 0])∧Hid (∃vd,Xo W w' c q vd)):=fun W=>dnew q c W h1 h2 h3 h4;have HN1:Hid (∀W,Calls Tryz.prog 24 #[.int .i64 (q:Int),.int .i64 c] W fun e w'=>e=.returned (.tuple #[.pointer (some ⟨W.heap.size,0,none⟩),.int .i64 0])∧Hid (∃vp vn,Za9 W w' c q vp vn)):=fun W=>rnew q c W h1 h2 h3 h4;have b1':m+1≤maxLen:=by unfold maxLen;omega
 have HA0:Hid (∀w1,Za (fun _=>False) (w.alloc (.cells #[.int .i64 kd,.int .i64 a,.int .i64 (q:Int),.int .i64 c,.string s,.slice ao n cap] 37)) w1→w1.cell? ⟨w.heap.size,2,none⟩=some (.int .i64 (q:Int))∧w1.cell? ⟨w.heap.size,3,none⟩=some (.int .i64 c)):=fun w1 k=>⟨k.keep id (by simp),k.keep id (by simp)⟩;clear hblk hrow;go_enter Tryz.func11,Tryz.ntmps11
 go_wp2_with first
  |(go_at_call 23;refine(HN0.out _).mono ?_;rintro e w1 ⟨rfl,hd⟩;obtain⟨y2,y3⟩:=HA0.out _ (have⟨_,x⟩:=hd.out;x.kept))
  |(go_at_call 24;refine(HN1.out _).mono ?_;rintro e w2 ⟨rfl,hL⟩;obtain⟨p0,hp2,HROW,HAFT⟩:=Zf7 h1 h2 h3 h4 HB.out HR.out hd.out hL.out)
  |(at_builtin;go_must (refine Zf _ rfl (.tmp 41) (.tmp 45) 27 rfl 44 i0 (.agg #[.pointer none,.pointer none]) 2 16 Tryz.underlying27 HI.out.1 HI.out.2.1 HI.out.2.2.1 HI.out.2.2.2 rfl (by decide) (.slice av m cv) m xs rfl (HROW.out _) ⟨w2.heap.size,0,none⟩ 1 1 [.pointer (some ⟨w.heap.size+1,0,none⟩),.pointer (some ⟨w1.heap.size,0,none⟩)] rfl rfl (cell_two_new w2 _ _ _) (ZdK _ _) b1' hm ?_);intro v' w3 hA;obtain⟨r0,r1,r2⟩:=HAFT.out _ _ _ hA;have HDONE:Hid (Vf w pb (.slice av m cv) b0 b1 b2 commits most m xs (.returned (.bool true)) (w3.setCell ⟨pb,0,none⟩ v')):=r2;clear r2;obtain⟨ao',cap',hv',_⟩:=hA.row.form;clear hA;subst hv')
 go_ret;exact HDONE.out
theorem Zj0 (w:World)(pb:Nat)(kd a b c:Int)(s:ByteArray)(ao:Option Addr)(n cap:Nat)(vps b0 b1 b2:Value)(commits most:Int)(m:Nat)(xs:List Value)
 (hblk:Blk w pb 34 (ZM vps b0 b1 b2 commits most)) (hrow:Row w 44 2 vps m xs) (hm:(m+1)*16≤140737488355328):
 Calls Tryz.prog 11 #[.pointer (some ⟨pb,0,none⟩),.agg #[.int .i64 kd,.int .i64 a,.int .i64 b,.int .i64 c,.string s,.slice ao n cap]] w fun e w'=>Vf w pb vps b0 b1 b2 commits most m xs e w':=by
 by_cases hb:b<1∨3<b
 · exact Zb0 w pb kd a b c s ao n cap vps b0 b1 b2 commits most m xs 1 (fun W=>ZfV b c W hb) (fun W=>Zf8 b c W hb)
 · by_cases hc:c<1∨6<c
   · exact Zb0 w pb kd a b c s ao n cap vps b0 b1 b2 commits most m xs 2 (fun W=>Zhp b c W (by omega) (by omega) hc) (fun W=>ZhV b c W (by omega) (by omega) hc)
   · obtain⟨q,rfl⟩:∃q:Nat,b=q:=⟨b.toNat,by omega⟩;exact Zeg w pb kd a c q s ao n cap vps b0 b1 b2 commits most m xs (by omega) (by omega) (by omega) (by omega) hblk hrow hm
end Go.Proofs.YtpfcacedpkaihaaGreat
