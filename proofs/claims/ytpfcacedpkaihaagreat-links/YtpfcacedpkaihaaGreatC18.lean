import Derived.Test.YtpfcacedpkaihaaGreatC10
import Derived.Test.YtpfcacedpkaihaaGreatC7
namespace Go.Proofs.YtpfcacedpkaihaaGreat
open Go.RowKit
set_option maxRecDepth 100000
set_option maxHeartbeats 16000000
def Xk (q:ByteArray):Int:=Z5 (Q.readL q.data.toList).2
def ZfQ (K:Int)(q:ByteArray):Bool:=bits .and .u8 K (Xk q) !=0
def Xx (x y:Zu):Bool:=if x.e.op !=y.e.op then y.e.op else if x.e.op then decide ((x.used:Int)<(y.used:Int))else decide ((x.e.till:Int)<(y.e.till:Int))
def ZE (l:List Zu):Nat→Nat
 |0=>0
 |n+1=>match l[n]?,l[ZE l n]? with
  |some x,some y=>if Xx x y then n else ZE l n
  |_,_=>ZE l n
theorem VK (l:List Zu)(n:Nat):ZE l n=0∨ZE l n<n:=by
 induction n with
 |zero=>simp[ZE]
 |succ n ih=>
  simp only[ZE]
  split
  · split<;>omega
  · omega
def YT (t:Nat)(K:Int)(x:Zu):Zu:=if x.e.op=true∧x.e.kn<t∧ZfQ K x.e.q=true then {x with e:={x.e with op:=false,till:=t}}else x
def Ye (l:List (Nat×Int))(c:Nat×Int):List (Nat×Int):=if l.length+1≤6 then l++[c]else(l++[c]).tail
def YV (l:List (Nat×Int))(t:Nat):Int:=l.foldl (fun K c=>if c.1=t then c.2 else K) 0
def ZB (l:List (Nat×Int))(t:Nat):Bool:=l.any fun c=>decide (c.1=t)
def Yu (l:List (Nat×Int))(t:Nat):Option Int:=(l.find? fun c=>decide (c.1=t)).map (·.2)
namespace Zb
def use (p:Zb)(j:Nat)(x:Zu):Zb:={p with uses:=p.uses+1,ents:=p.ents.set j {x with used:=p.uses+1}}
def merge (p:Zb)(j:Nat)(x:Zu)(e:Zh):Zb:={p with ents:=p.ents.set j ⟨ZT x.e e,x.used⟩}
def remove (p:Zb)(i:Nat):Zb:={p with ents:=p.ents.eraseIdx i}
def lay0 (p:Zb)(e:Zh):Zb:={p with uses:=p.uses+1,ents:=p.ents++[⟨e,p.uses+1⟩]}
def lay (p:Zb)(e:Zh):Zb:=if p.room≤(p.ents.length:Int)then(p.remove (ZE p.ents p.ents.length)).lay0 e else p.lay0 e
def sameI (p:Zb)(e:Zh):Option Nat:=p.ents.findIdx? fun x=>decide (Z0 x.e e)
def caughtGo (l:List (Nat×Int))(K:Int):Nat→Nat→Zh→Option Zh
 |0,_,e=>some e
 |n+1,t,e=>match Yu l t with
  |none=>none
  |some k=>caughtGo l K n (t+1) (if e.op=true∧(bits .and .u8 k K !=0)=true then {e with op:=false,till:=t}else e)
def caught (p:Zb)(e:Zh):Option Zh:=
 if e.op=false∨p.horizon≤e.kn then some e
 else(caughtGo p.hists (Xk e.q) (p.horizon-e.kn) (e.kn+1) e).map fun y=>if y.op then {y with kn:=p.horizon}else y
def store (p:Zb)(e:Zh):Zb×Bool:=
 if p.up=false then(p,false)else
 match p.caught e with
 |none=>(p,false)
 |some y=>match p.sameI y with
  |some j=>match p.ents[j]? with
   |some x=>((p.merge j x y).use j ⟨ZT x.e y,x.used⟩,true)
   |none=>(p,true)
  |none=>(p.lay y,true)
def ans (p:Zb)(q:ByteArray)(lo hi:Nat)(n:Nat):Int:=Xz true p.horizon q lo hi (p.ents.map (·.e)) n
def hearOne (p:Zb)(K:Int):Zb:={p with horizon:=p.horizon+1,hists:=Ye p.hists (p.horizon+1,K),ents:=p.ents.map (YT (p.horizon+1) K)}
def dropNext (p:Zb):Zb:={p with waits:=p.waits.filter fun c=>decide (c.1≠p.horizon+1)}
def hearGo :Nat→Zb→Zb
 |0,p=>p
 |n+1,p=>if ZB p.waits (p.horizon+1)=true then hearGo n (p.dropNext.hearOne (YV p.waits (p.horizon+1)))else p.dropNext
def hear (p:Zb)(K:Int):Zb:=hearGo 4 (p.hearOne K)
def arrive (p:Zb)(t:Nat)(K:Int):Zb:=
 if p.up=false∨t≤p.horizon then p
 else if t=p.horizon+1 then p.hear K
 else if p.horizon+5<t∨ZB p.waits t=true then p
 else {p with waits:=p.waits++[(t,K)]}
def rise (p:Zb)(hz:Nat):Zb:={up:=true,room:=p.room,horizon:=hz,hists:=[],waits:=[],ents:=[],uses:=0,flight:=p.flight}
def fall (p:Zb):Zb:={up:=false,room:=p.room,horizon:=0,hists:=[],waits:=[],ents:=[],uses:=0,flight:=p.flight}
def lags (p:Zb)(t:Nat):Bool:=p.up&&decide (p.horizon+40<t)
def age (p:Zb)(t:Nat):Zb:={p with flight:=p.flight.filter fun c=>decide (t<c.1+100)}
def clear (p:Zb):Zb:={p with flight:=[]}
def send (p:Zb)(c:Nat×Int):Zb:=if 12≤p.flight.length then p else {p with flight:=p.flight++[c]}
def tell (p:Zb)(t:Nat)(K:Int):Zb:=(if(p.age t).lags t then(p.age t).fall.clear else p.age t).send (t,K)
def take (p:Zb)(i:Nat):Zb:={p with flight:=p.flight.eraseIdx i}
def copy (p:Zb)(c:Nat×Int):Zb:={p with flight:=p.flight++[c]}
structure Ok (p:Zb)(B:Nat):Prop where
 hz:p.horizon≤B
 hl:p.hists.length≤6
 wl:p.waits.length≤1000
 el:p.ents.length≤1000
 eq:∀x∈p.ents,x.e.q.size≤maxLen
theorem recallL_len {l:List (Nat×Int)}{c:Nat×Int}(h:l.length≤6):(Ye l c).length≤6:=by
 unfold Ye
 split
 · simp;omega
 · simp;omega
theorem hearE_q (t:Nat)(K:Int)(x:Zu):(YT t K x).e.q=x.e.q:=by unfold YT;split<;>rfl
theorem Ok.hearOne {p:Zb}{B:Nat}(h:p.Ok B)(K:Int):(p.hearOne K).Ok (B+1):=by
 refine⟨Nat.succ_le_succ h.hz,recallL_len h.hl,h.wl,by simpa[Zb.hearOne]using h.el,fun x hx=> ?_⟩;simp only[Zb.hearOne,List.mem_map]at hx;obtain⟨y,hy,rfl⟩:=hx;rw[hearE_q];exact h.eq y hy
theorem Ok.dropNext {p:Zb}{B:Nat}(h:p.Ok B):p.dropNext.Ok B:=⟨h.hz,h.hl,Nat.le_trans (List.length_filter_le _ _) h.wl,h.el,h.eq⟩
end Zb
structure DP where
 clock:Int
 past:List Zj
 begun:Nat
 seats:Nat→Yb
 puts:List Zh
 sites:List Zb
def Ze.pu (D:Ze):DP:=⟨D.clock,D.past,D.begun,D.seats,D.puts,D.nodes.map (·.p)⟩
def Z2 (w:World)(b:Nat)(D:Ze)(P:DP)(w':World):Prop:=∃D':Ze,D'.pu=P∧Zv w b D w' D'
namespace DP
def site? (P:DP)(i:Int):Option Zb:=if i<0 then none else P.sites[i.toNat]?
def put (P:DP)(i:Int)(p:Zb):DP:={P with sites:=P.sites.set i.toNat p}
def evict (P:DP)(k i:Int):Int×DP:=match P.site? k with
 |none=>(9,P)
 |some s=>if i<0∨(s.ents.length:Int)≤i then(10,P)else(0,P.put k (s.remove i.toNat))
def lose (P:DP)(k i:Int):Int×DP:=match P.site? k with
 |none=>(9,P)
 |some s=>if i<0∨(s.flight.length:Int)≤i then(10,P)else(0,P.put k (s.take i.toNat))
def copy (P:DP)(k i:Int):Int×DP:=match P.site? k with
 |none=>(9,P)
 |some s=>if i<0 then(10,P)else match s.flight[i.toNat]? with
  |none=>(10,P)
  |some c=>if 12≤s.flight.length then(6,P)else(0,P.put k (s.copy c))
def deliver (P:DP)(k i:Int):Int×DP:=match P.site? k with
 |none=>(9,P)
 |some s=>if i<0 then(10,P)else match s.flight[i.toNat]? with
  |none=>(10,P)
  |some c=>(0,P.put k ((s.take i.toNat).arrive c.1 c.2))
def restart (P:DP)(k:Int):Int×DP:=match P.site? k with
 |none=>(9,P)
 |some s=>(0,P.put k s.fall.clear)
def keysOf (P:DP)(t:Nat):Int:=(P.past[t]?.map Zj.keys).getD 0
def askS (P:DP)(s:Zb):Zb:=if s.up=false then s.rise P.past.length else if s.horizon<P.past.length then s.hear (P.keysOf s.horizon)else s
def ask (P:DP)(k:Int):Nat×Int×DP:=match P.site? k with
 |none=>(0,9,P)
 |some s=>((P.askS s).horizon,0,P.put k (P.askS s))
def nodeN (P:DP)(q:ByteArray):Nat:=YZ q.data.toList%P.sites.length
def store (P:DP)(i:Int):Bool×Int×DP:=if i<0 then(false,10,P)else match P.puts[i.toNat]? with
 |none=>(false,10,P)
 |some e=>match P.sites[P.nodeN e.q]? with
  |none=>(false,0,P)
  |some s=>((s.store e).2,0,{P with puts:=P.puts.eraseIdx i.toNat,sites:=P.sites.set (P.nodeN e.q) (s.store e).1})
def drop (P:DP)(i:Int):Int×DP:=if i<0∨(P.puts.length:Int)≤i then(10,P)else(0,{P with puts:=P.puts.eraseIdx i.toNat})
def nextP (P:DP)(ws:List (Int×Int)):Zj:=Yd ⟨if P.past.length=0 then fun _=>0 else(P.past[P.past.length-1]?.map Zj.st).getD fun _=>0,0,P.clock⟩ ws
def push (P:DP)(q:Zj):DP:={P with past:=P.past++[q],sites:=P.sites.map fun s=>s.tell (P.past.length+1) q.keys}
def commit (P:DP)(n:Nat)(ws:List (Int×Int)):Nat×Int×DP:=
 if 8<n then(0,3,P)else if ws.all Yl=false then(0,5,P)else if 700≤P.past.length then(0,6,P)else(P.past.length+1,0,P.push (P.nextP ws))
end DP
structure Zb.Walk (p:Zb):Prop where
 ok:p.Ok 900000
 el:p.ents.length≤900
 r1:1≤p.room
 r2:p.room≤1000
 us:p.uses<9223372036854775807
 fl:p.flight.length≤1000
 fs:∀c∈p.flight,c.1≤1000000
 es:∀x∈p.ents,x.e.Fit∧x.e.fr≤lastE x.e p.horizon
structure Ze.Walk (D:Ze):Prop where
 fit:D.Fit
 n1:0<D.nodes.length
 n3:D.nodes.length≤3
 nodes:∀nd∈D.nodes,nd.p.Walk
 putq:∀e∈D.puts,e.q.size≤40
theorem Z2.of_kept {w w':World}{b:Nat}{D:Ze}(h:Dev w b D)(hk:Za (fun _=>False) w w'):Z2 w b D D.pu w':=⟨D,rfl,Zv.of_kept h hk⟩
theorem Ze.pu_site {D:Ze}{k:Nat}{nd:Zn}(h:D.nodes[k]?=some nd):D.pu.site? (k:Int)=some nd.p:=by
 unfold DP.site?;rw[if_neg (by omega)];show(D.nodes.map (·.p))[((k:Nat):Int).toNat]?=some nd.p;rw[Int.toNat_natCast,List.getElem?_map,h];rfl
theorem Ze.pu_none {D:Ze}{i:Int}(h:i<0∨(D.nodes.length:Int)≤i):D.pu.site? i=none:=by
 unfold DP.site?;by_cases h0:i<0
 · rw[if_pos h0]
 · rw[if_neg h0];show(D.nodes.map (·.p))[i.toNat]?=none;rw[List.getElem?_eq_none_iff,List.length_map];omega
theorem Ze.pu_put (D:Ze)(k:Nat)(nd:Zn):(D.putN k nd).pu=D.pu.put (k:Int) nd.p:=by
 unfold Ze.pu Ze.putN DP.put;simp[List.map_set]
structure Yt (e:Zh)(top:Nat):Prop where
 q40:e.q.size≤40
 kn:e.kn≤top
 till:e.till≤top
 cl:e.op=false→e.fr<e.till
 opn:e.op=true→e.fr≤e.kn
theorem Yt.more {e:Zh}{t t':Nat}(h:Yt e t)(ht:t≤t'):Yt e t':=⟨h.q40,Nat.le_trans h.kn ht,Nat.le_trans h.till ht,h.cl,h.opn⟩
theorem Yt.last {e:Zh}{t:Nat}(h:Yt e t)(hz:Nat):e.fr≤lastE e hz:=by
 unfold lastE;cases ho:e.op with
 |true=>have:=h.opn ho;simp;omega
 |false=>have:=h.cl ho;simp;omega
theorem Yt.fit {e:Zh}{t:Nat}(h:Yt e t)(ht:t≤700):e.Fit:=⟨fun ho=>by have:=h.cl ho;omega,by have:=h.till;omega,by have:=h.kn;omega⟩
structure Zb.Good (p:Zb)(top n:Nat):Prop where
 room1:1≤p.room
 room6:p.room≤6
 hz:p.horizon≤top
 hl:p.hists.length≤6
 ws:∀c∈p.waits,p.horizon+1<c.1∧c.1≤p.horizon+5∧c.1≤top
 wn:(p.waits.map (·.1)).Nodup
 el:(p.ents.length:Int)≤p.room
 es:∀x∈p.ents,Yt x.e top
 fl:p.flight.length≤12
 fs:∀c∈p.flight,c.1≤top
 us:p.uses≤n
 dn:p.up=false→p.ents=[]∧p.waits=[]∧p.horizon=0
theorem ZbA :∀(n a:Nat)(l:List Nat),l.Nodup→(∀x∈l,a≤x∧x<a+n)→l.length≤n
 |0,a,l,_,h=>by
  cases l with
  |nil=>simp
  |cons x r=>have:=h x (List.mem_cons_self ..);omega
 |n+1,a,l,hn,h=>by
  have h1:(l.erase (a+n)).length≤n:=by
   refine ZbA n a _ (hn.erase _) fun x hx=> ?_;have hx':=(List.Nodup.mem_erase_iff hn).mp hx;have:=h x hx'.2;have:=hx'.1;omega
  have h2:l.length≤(l.erase (a+n)).length+1:=by
   by_cases hm:a+n∈l
   · rw[List.length_erase_of_mem hm];omega
   · rw[List.erase_of_not_mem hm];omega
  omega
theorem Zb.Good.wl {p:Zb}{top n:Nat}(h:p.Good top n):p.waits.length≤4:=by
 have:=ZbA 4 (p.horizon+2) (p.waits.map (·.1)) h.wn fun x hx=>by
  obtain⟨c,hc,rfl⟩:=List.mem_map.mp hx;have:=h.ws c hc;omega
 simpa using this
theorem Zb.Good.walk {p:Zb}{top n:Nat}(h:p.Good top n)(ht:top≤700)(hn:n<9223372036854775807):p.Walk:=by
 have h1:=h.hz;have h2:=h.hl;have h3:=h.wl;have h4:=h.el;have h5:=h.room6;have h6:=h.fl;have h7:=h.us;have h8:=h.room1;refine⟨⟨by omega,h2,by omega,by omega,fun x hx=> ?_⟩,by omega,h8,by omega,by omega,by omega,fun c hc=> ?_,fun x hx=>⟨(h.es x hx).fit ht,(h.es x hx).last _⟩⟩
 · have:=(h.es x hx).q40;unfold maxLen;omega
 · have:=h.fs c hc;omega
theorem Zb.Good.more {p:Zb}{t t' n n':Nat}(h:p.Good t n)(ht:t≤t')(hn:n≤n'):p.Good t' n':=
 ⟨h.room1,h.room6,Nat.le_trans h.hz ht,h.hl,fun c hc=>⟨(h.ws c hc).1,(h.ws c hc).2.1,Nat.le_trans (h.ws c hc).2.2 ht⟩,h.wn,h.el,fun x hx=>(h.es x hx).more ht,h.fl,fun c hc=>Nat.le_trans (h.fs c hc) ht,Nat.le_trans h.us hn,h.dn⟩
theorem Zb.Good.remove {p:Zb}{t n:Nat}(h:p.Good t n)(i:Nat):(p.remove i).Good t n:=by
 have hle:=List.length_eraseIdx_le p.ents i;refine⟨h.room1,h.room6,h.hz,h.hl,h.ws,h.wn,?_,fun x hx=>h.es x (List.mem_of_mem_eraseIdx hx),h.fl,h.fs,h.us,fun hu=>⟨?_,(h.dn hu).2⟩⟩
 · have:=h.el;show((p.ents.eraseIdx i).length:Int)≤p.room;omega
 · show p.ents.eraseIdx i=[];rw[(h.dn hu).1];rfl
theorem Zb.Good.take {p:Zb}{t n:Nat}(h:p.Good t n)(i:Nat):(p.take i).Good t n:=by
 have hle:=List.length_eraseIdx_le p.flight i;refine⟨h.room1,h.room6,h.hz,h.hl,h.ws,h.wn,h.el,h.es,?_,fun c hc=>h.fs c (List.mem_of_mem_eraseIdx hc),h.us,h.dn⟩;have:=h.fl;show(p.flight.eraseIdx i).length≤12;omega
theorem Zb.Good.copy {p:Zb}{t n i:Nat}{c:Nat×Int}(h:p.Good t n)(hl:p.flight.length<12)(hc:p.flight[i]?=some c):(p.copy c).Good t n:=by
 refine⟨h.room1,h.room6,h.hz,h.hl,h.ws,h.wn,h.el,h.es,?_,fun x hx=> ?_,h.us,h.dn⟩
 · show(p.flight++[c]).length≤12;simp;omega
 · have hx':x∈p.flight++[c]:=hx;rw[List.mem_append,List.mem_singleton]at hx';rcases hx' with hx'|rfl
   · exact h.fs x hx'
   · exact h.fs x (List.mem_of_getElem? hc)
theorem Zb.Good.bare {p:Zb}{t n:Nat}(h:p.Good t n)(u:Bool)(z:Nat)(hz:z≤t)(hu:u=false→z=0)(l:List (Nat×Int))(hl:l.length≤12)(hs:∀c∈l,c.1≤t):(⟨u,p.room,z,[],[],[],0,l⟩:Zb).Good t n:=
 ⟨h.room1,h.room6,hz,by simp,fun c hc=>(by cases hc),by simp,by have:=h.room1;simp;omega,fun x hx=>(by cases hx),hl,hs,Nat.zero_le _,fun hu'=>⟨rfl,rfl,hu hu'⟩⟩
theorem Zb.Good.rise {p:Zb}{t n z:Nat}(h:p.Good t n)(hz:z≤t):(p.rise z).Good t n:=h.bare true z hz (fun e=>by cases e) p.flight h.fl h.fs
theorem Zb.Good.fell {p:Zb}{t n:Nat}(h:p.Good t n):p.fall.clear.Good t n:=h.bare false 0 (Nat.zero_le _) (fun _=>rfl) [] (by simp) (fun c hc=>(by cases hc))
theorem Zb.Good.age {p:Zb}{t n:Nat}(h:p.Good t n)(s:Nat):(p.age s).Good t n:=by
 have hle:=List.length_filter_le (fun c:Nat×Int=>decide (s<c.1+100)) p.flight;refine⟨h.room1,h.room6,h.hz,h.hl,h.ws,h.wn,h.el,h.es,?_,fun c hc=>h.fs c (List.mem_filter.mp hc).1,h.us,h.dn⟩;have:=h.fl;show(p.flight.filter _).length≤12;omega
theorem Zb.Good.send {p:Zb}{t n:Nat}(h:p.Good t n)(c:Nat×Int)(hc:c.1≤t):(p.send c).Good t n:=by
 unfold Zb.send
 split
 · exact h
 · rename_i h12
   refine⟨h.room1,h.room6,h.hz,h.hl,h.ws,h.wn,h.el,h.es,?_,fun x hx=> ?_,h.us,h.dn⟩
   · show(p.flight++[c]).length≤12;simp;omega
   · have hx':x∈p.flight++[c]:=hx;rw[List.mem_append,List.mem_singleton]at hx';rcases hx' with hx'|rfl
     · exact h.fs x hx'
     · exact hc
theorem Zb.Good.tell {p:Zb}{t n:Nat}(h:p.Good t n)(K:Int):(p.tell (t+1) K).Good (t+1) n:=by
 unfold Zb.tell;have h1:=(h.more (Nat.le_succ t) (Nat.le_refl n)).age (t+1)
 split
 · exact h1.fell.send _ (Nat.le_refl _)
 · exact h1.send _ (Nat.le_refl _)
theorem Yt.hear {x:Zu}{t s:Nat}(K:Int)(h:Yt x.e t)(hs:s≤t):Yt (YT s K x).e t:=by
 unfold YT
 split
 · rename_i hc
   exact⟨h.q40,h.kn,hs,fun _=>by have:=h.opn hc.1;show x.e.fr<s;omega,fun e=>by cases e⟩
 · exact h
theorem ZdL {l:List (Nat×Int)}(f:Nat×Int→Bool)(h:(l.map (·.1)).Nodup):((l.filter f).map (·.1)).Nodup:=
 h.sublist (List.Sublist.map _ List.filter_sublist)
structure Zb.Near (p:Zb)(top n:Nat):Prop where
 room1:1≤p.room
 room6:p.room≤6
 hz:p.horizon≤top
 hl:p.hists.length≤6
 ws:∀c∈p.waits,p.horizon<c.1∧c.1≤p.horizon+5∧c.1≤top
 wn:(p.waits.map (·.1)).Nodup
 el:(p.ents.length:Int)≤p.room
 es:∀x∈p.ents,Yt x.e top
 fl:p.flight.length≤12
 fs:∀c∈p.flight,c.1≤top
 us:p.uses≤n
 up:p.up=true
theorem Zb.Good.near {p:Zb}{t n:Nat}(h:p.Good t n)(hup:p.up=true)(hz:p.horizon<t)(K:Int):(p.hearOne K).Near t n:=by
 refine⟨h.room1,h.room6,hz,recallL_len h.hl,fun c hc=> ?_,h.wn,by simpa[Zb.hearOne]using h.el,fun x hx=> ?_,h.fl,h.fs,h.us,hup⟩
 · have:=h.ws c hc;exact⟨this.1,by have:=this.2.1;show c.1≤p.horizon+1+5;omega,this.2.2⟩
 · simp only[Zb.hearOne,List.mem_map]at hx;obtain⟨y,hy,rfl⟩:=hx;exact(h.es y hy).hear K hz
theorem Zb.Near.dropped {p:Zb}{t n:Nat}(h:p.Near t n):p.dropNext.Good t n:=by
 refine⟨h.room1,h.room6,h.hz,h.hl,fun c hc=> ?_,ZdL _ h.wn,h.el,h.es,h.fl,h.fs,h.us,fun hu=>by have hu':p.up=false:=hu;rw[h.up]at hu';cases hu'⟩;obtain⟨h1,h2⟩:=List.mem_filter.mp hc;have:=h.ws c h1;have h3:c.1≠p.horizon+1:=by simpa using h2
 exact⟨by show p.horizon+1<c.1;omega,this.2⟩
theorem Zb1 {l:List (Nat×Int)}{t:Nat}(h:ZB l t=true):∃c∈l,c.1=t:=by
 unfold ZB at h;rw[List.any_eq_true]at h;obtain⟨c,hc,he⟩:=h;exact⟨c,hc,by simpa using he⟩
theorem Zb.Near.go {t n:Nat}:∀(m:Nat)(p:Zb),p.Near t n→p.waits.length≤m→(Zb.hearGo m p).Good t n
 |0,p,h,hm=>by
  have e:p.waits=[]:=List.eq_nil_of_length_eq_zero (by omega);refine⟨h.room1,h.room6,h.hz,h.hl,fun c hc=> ?_,h.wn,h.el,h.es,h.fl,h.fs,h.us,fun hu=>by have hu':p.up=false:=hu;rw[h.up]at hu';cases hu'⟩;have hc':c∈p.waits:=hc;rw[e]at hc';cases hc'
 |m+1,p,h,hm=>by
  unfold Zb.hearGo
  split
  · rename_i hw
    obtain⟨c,hc,he⟩:=Zb1 hw;have hct:=(h.ws c hc).2.2;have hlt:p.dropNext.horizon<t:=by show p.horizon<t;omega
    refine Zb.Near.go m _ (h.dropped.near h.up hlt _) ?_;show(p.waits.filter _).length≤m;have h1:(p.waits.filter fun c=>decide (c.1≠p.horizon+1)).length<p.waits.length:=by
     rw[List.length_filter_lt_length_iff_exists];exact⟨c,hc,by simpa using he⟩
    omega
  · exact h.dropped
theorem Zb.Good.hear {p:Zb}{t n:Nat}(h:p.Good t n)(hup:p.up=true)(hz:p.horizon<t)(K:Int):(p.hear K).Good t n:=
 Zb.Near.go 4 _ (h.near hup hz K) h.wl
theorem Zb.Good.arrive {p:Zb}{t n:Nat}(h:p.Good t n)(s:Nat)(K:Int)(hs:s≤t):(p.arrive s K).Good t n:=by
 unfold Zb.arrive
 split
 · exact h
 · rename_i h1
   have hup:p.up=true:=by cases hu:p.up with
    |true=>rfl
    |false=>exact absurd (.inl hu) h1
   have hlt:p.horizon<s:=by
    have:=mt Or.inr h1;omega
   split
   · exact h.hear hup (by omega) K
   · split
     · exact h
     · rename_i h2 h3
       have hnw:ZB p.waits s=false:=by cases hb:ZB p.waits s with
        |false=>rfl
        |true=>exact absurd (.inr hb) h3
       have hle:s≤p.horizon+5:=by
        have:=mt Or.inl h3;omega
       refine⟨h.room1,h.room6,h.hz,h.hl,fun c hc=> ?_,?_,h.el,h.es,h.fl,h.fs,h.us,fun hu=>by have hu':p.up=false:=hu;rw[hup]at hu';cases hu'⟩
       · have hc':c∈p.waits++[(s,K)]:=hc;rw[List.mem_append,List.mem_singleton]at hc';rcases hc' with hc'|rfl
         · exact h.ws c hc'
         · exact⟨by show p.horizon+1<s;omega,hle,hs⟩
       · show((p.waits++[(s,K)]).map (·.1)).Nodup;rw[List.map_append,List.nodup_append];refine⟨h.wn,by simp,fun a ha b hb=> ?_⟩;obtain⟨c,hc,rfl⟩:=List.mem_map.mp ha;simp at hb;subst hb;intro e;have:ZB p.waits c.1=true:=by
          unfold ZB;rw[List.any_eq_true];exact⟨c,hc,by simp⟩
         rw[e,hnw]at this;cases this
theorem Zb.Good.use {p:Zb}{t n j:Nat}{x:Zu}(h:p.Good t n)(hx:p.ents[j]?=some x):(p.use j x).Good t (n+1):=by
 refine⟨h.room1,h.room6,h.hz,h.hl,h.ws,h.wn,by show((p.ents.set j _).length:Int)≤p.room;rw[List.length_set];exact h.el,fun y hy=> ?_,h.fl,h.fs,Nat.succ_le_succ h.us,fun hu=> ?_⟩
 · rcases List.mem_or_eq_of_mem_set hy with hy|rfl
   · exact h.es y hy
   · exact h.es x (List.mem_of_getElem? hx)
 · have:=(h.dn hu).1;rw[this]at hx;cases hx
theorem Yt.merged {x p:Zh}{t:Nat}(hx:Yt x t)(hp:Yt p t)(hf:x.fr=p.fr):Yt (ZT x p) t:=by
 refine⟨hx.q40,?_,?_,fun ho=> ?_,fun ho=> ?_⟩
 · have:=hx.kn;have:=hp.kn;show max x.kn p.kn≤t;omega
 · show(if x.op&& !p.op then p.till else x.till)≤t
   split
   · exact hp.till
   · exact hx.till
 · have ho':(x.op&&p.op)=false:=ho;show x.fr<(if x.op&& !p.op then p.till else x.till);cases h1:x.op with
   |false=>simp;exact hx.cl h1
   |true=>
    rw[h1]at ho';have h2:p.op=false:=by simpa using ho'
    rw[h2];simp;rw[hf];exact hp.cl h2
 · have ho':(x.op&&p.op)=true:=ho;have h1:x.op=true:=by cases h1:x.op with
    |true=>rfl
    |false=>rw[h1]at ho';cases ho'
   have:=hx.opn h1;show x.fr≤max x.kn p.kn;omega
theorem Zb.Good.merge {p:Zb}{t n j:Nat}{x:Zu}{e:Zh}(h:p.Good t n)(hx:p.ents[j]?=some x)(he:Yt e t)(hf:x.e.fr=e.fr):(p.merge j x e).Good t n:=by
 refine⟨h.room1,h.room6,h.hz,h.hl,h.ws,h.wn,by show((p.ents.set j _).length:Int)≤p.room;rw[List.length_set];exact h.el,fun y hy=> ?_,h.fl,h.fs,h.us,fun hu=> ?_⟩
 · rcases List.mem_or_eq_of_mem_set hy with hy|rfl
   · exact h.es y hy
   · exact(h.es x (List.mem_of_getElem? hx)).merged he hf
 · have:=(h.dn hu).1;rw[this]at hx;cases hx
theorem Zb.Good.lay0 {p:Zb}{t n:Nat}{e:Zh}(h:p.Good t n)(he:Yt e t)(hup:p.up=true)(hl:(p.ents.length:Int)<p.room):(p.lay0 e).Good t (n+1):=by
 refine⟨h.room1,h.room6,h.hz,h.hl,h.ws,h.wn,by show((p.ents++[_]).length:Int)≤p.room;simp;omega,fun y hy=> ?_,h.fl,h.fs,Nat.succ_le_succ h.us,fun hu=>by have hu':p.up=false:=hu;rw[hup]at hu';cases hu'⟩;have hy':y∈p.ents++[⟨e,p.uses+1⟩]:=hy;rw[List.mem_append,List.mem_singleton]at hy';rcases hy' with hy'|rfl
 · exact h.es y hy'
 · exact he
theorem Zb.Good.lay {p:Zb}{t n:Nat}{e:Zh}(h:p.Good t n)(he:Yt e t)(hup:p.up=true):(p.lay e).Good t (n+1):=by
 unfold Zb.lay
 split
 · rename_i hf
   have hpos:0<p.ents.length:=by have:=h.room1;omega
   have hlt:ZE p.ents p.ents.length<p.ents.length:=by rcases VK p.ents p.ents.length with h1|h1<;>omega
   refine(h.remove _).lay0 he hup ?_;show((p.ents.eraseIdx _).length:Int)<p.room;rw[List.length_eraseIdx_of_lt hlt];have:=h.el;omega
 · rename_i hf
   exact h.lay0 he hup (by omega)
theorem V9 {l:List (Nat×Int)}{K:Int}{t:Nat}:∀(m s:Nat)(e y:Zh),Zb.caughtGo l K m s e=some y→Yt e t→(e.op=true→e.kn<s)→s+m≤t+1→Yt y t∧y.q=e.q∧y.fr=e.fr∧y.kn=e.kn
 |0,s,e,y,h,he,_,_=>by
  simp only[Zb.caughtGo,Option.some.injEq]at h;subst h;exact⟨he,rfl,rfl,rfl⟩
 |m+1,s,e,y,h,he,hk,hm=>by
  simp only[Zb.caughtGo]at h;cases hw:Yu l s with
  |none=>rw[hw]at h;cases h
  |some k=>
   rw[hw]at h;dsimp only at h
   split at h
   · rename_i hc
     have h1:Yt ({e with op:=false,till:=s}:Zh) t:=⟨he.q40,he.kn,by show s≤t;omega,fun _=>by have:=he.opn hc.1;have:=hk hc.1;show e.fr<s;omega,fun ho=>by cases ho⟩;obtain⟨r1,r2,r3,r4⟩:=V9 m (s+1) _ y h h1 (fun ho=>by cases ho) (by omega);exact⟨r1,r2,r3,r4⟩
   · exact V9 m (s+1) e y h he (fun ho=>by have:=hk ho;omega) (by omega)
theorem Zb.Good.caught {p:Zb}{t n:Nat}{e y:Zh}(h:p.Good t n)(he:Yt e t)(hc:p.caught e=some y):Yt y t∧y.q=e.q∧y.fr=e.fr:=by
 unfold Zb.caught at hc
 split at hc
 · injection hc with hc;subst hc;exact⟨he,rfl,rfl⟩
 · rename_i h1
   have hlt:e.kn<p.horizon:=by have:=mt Or.inr h1;omega
   cases hg:Zb.caughtGo p.hists (Xk e.q) (p.horizon-e.kn) (e.kn+1) e with
   |none=>rw[hg]at hc;cases hc
   |some z=>
    rw[hg]at hc;simp only[Option.map_some,Option.some.injEq]at hc;have hz:=h.hz;obtain⟨r1,r2,r3,r4⟩:=V9 _ _ e z hg he (fun _=>by omega) (by omega);subst hc
    split
    · rename_i ho
      refine⟨⟨r1.q40,hz,r1.till,fun e1=> ?_,fun _=> ?_⟩,r2,r3⟩
      · have e2:z.op=false:=e1;rw[ho]at e2;cases e2
      · have:=r1.opn ho;show z.fr≤p.horizon;omega
    · exact⟨r1,r2,r3⟩
theorem Zb.Good.store {p:Zb}{t n:Nat}{e:Zh}(h:p.Good t n)(he:Yt e t):(p.store e).1.Good t (n+1):=by
 unfold Zb.store
 split
 · exact h.more (Nat.le_refl _) (Nat.le_succ _)
 · rename_i hup
   have hup':p.up=true:=by cases hu:p.up with
    |true=>rfl
    |false=>exact absurd hu hup
   cases hc:p.caught e with
   |none=>exact h.more (Nat.le_refl _) (Nat.le_succ _)
   |some y=>
    dsimp only;have hy:=h.caught he hc;cases hs:p.sameI y with
    |none=>exact h.lay hy.1 hup'
    |some j=>
     dsimp only;cases hx:p.ents[j]? with
     |none=>exact h.more (Nat.le_refl _) (Nat.le_succ _)
     |some x=>
      dsimp only;have hsm:Z0 x.e y:=by
       unfold Zb.sameI at hs;rw[List.findIdx?_eq_some_iff_getElem]at hs;obtain⟨hj,h1,_⟩:=hs;rw[List.getElem?_eq_getElem hj]at hx;injection hx with hx;subst hx;simpa using h1
      refine(h.merge hx hy.1 hsm.2).use ?_;show(p.ents.set j _)[j]?=_;rw[List.getElem?_set_self (List.getElem?_eq_some_iff.mp hx).1]
end Go.Proofs.YtpfcacedpkaihaaGreat
