import Derived.Test.YtpfcacedpkaihaaGreatC40
import Derived.Test.YtpfcacedpkaihaaGreatC39
namespace Go.Proofs.YtpfcacedpkaihaaGreat
open Go.RowKit
set_option maxRecDepth 100000
set_option maxHeartbeats 16000000
theorem hs6 {W:World}{g o b f:Nat}{e:Zh}{v:Value}(hne:b≠g)(h:W.cell? ⟨b,f,none⟩=some v):(set6 W g o e).cell? ⟨b,f,none⟩=some v:=
 (World.cell?_of_block (a:=⟨b,f,none⟩) ((Zac W g o e).block b (World.block_lt_of_cell? W _ h) hne)).trans h
theorem kdrew {W w:World}{n:Nat}(h:Za (fun _=>False) (W.drewN n) w):Za (fun _=>False) W w:=((Za.refl (fun _=>False) W).drewN n).trans h (fun _=>id) (fun _ _=>id)
theorem Zfv {W:World}{b k ge j:Nat}{R:Zd}{nd:Zi}(h:Ref W b R)(hnd:R.nodes[k]?=some nd)(hg:nd.en.ownBlock=some ge)(hj:j<nd.ents.length)(M:Zh):Zs W b R (set6 W ge (j*6) M) (R.putN k (nd.setEnts (nd.ents.set j M) nd.en)):=
 h.turnEnts hnd _ ((Zac W ge (j*6) M).mono fun i hi=>by rw[hg,hi]) (by rw[List.length_set];exact(h.ents nd (List.mem_of_getElem? hnd)).set6 hg hj M)
theorem ZS {w:World}{a:Addr}{v:Value}(h:w.cell? a=some v):w.drew.cell? a=some v:=h
def XR (w:World)(b:Nat)(R:Zd)(i k:Nat)(nd:Zi)(p:Zh)(e:Ending)(w':World):Prop:=
 e=.returned (.tuple #[.bool true,.int .i64 0])∧
 ((∃(j:Nat)(x:Zh)(nm:Int)(v vs:Value),nd.ents[j]?=some x∧nd.nms[j]?=some nm∧Z0 x p∧(∀(t:Nat)(y:Zh),t<j→nd.ents[t]?=some y→¬Z0 y p)∧
  Zs w b R w' (((R.setPuts (R.puts.eraseIdx i) v).putN k (nd.setEnts (nd.ents.set j (ZT x p)) nd.en)).pushUse nm vs))∨
  ((∀(t:Nat)(y:Zh),nd.ents[t]?=some y→¬Z0 y p)∧∃(nd1:Zi)(v ve vm vs:Value),
   (((nd.ents.length:Int)<R.room∧nd1=nd)∨(R.room≤(nd.ents.length:Int)∧∃v1 v2,nd1=nd.without (XH R.uses nd).toNat v1 v2))∧
   Zs w b R w' {((R.setPuts (R.puts.eraseIdx i) v).putN k ((nd1.setEnts (nd1.ents++[p]) ve).setNms (nd1.nms++[R.next]) vm)).pushUse R.next vs with next:=R.next+1}))
theorem VB {l:List Zh}{p x:Zh}{j:Nat}(h:∀(t:Nat)(y:Zh),t<j→l[t]?=some y→¬Z0 y p)(hx:l[j]?=some x)(hn:¬Z0 x p):∀(t:Nat)(y:Zh),t<j+1→l[t]?=some y→¬Z0 y p:=by
 intro t y ht hy;by_cases e:t=j
 · subst e;rw[hx]at hy;injection hy with hy;subst hy;exact hn
 · exact h t y (by omega) hy
theorem Vr {w w1:World}{b:Nat}{R:Zd}{v:Value}{l:List Zh}{p:Zh}(hB:Za (fun _=>False) (w.alloc (.cells (Z8 p) 55)) w1∧Zs w b R (w1.setCell ⟨b,5,none⟩ v) (R.setPuts l v))(h:Ref w b R)(hv:∀x,v.ownBlock=some x→w.heap.size<x):
 Zq w b R (w1.setCell ⟨b,5,none⟩ v) (R.setPuts l v) w.heap.size p:=by
 have hbl:=h.blk.lt;refine⟨hB.2,((Blk.new w _ _).kept hB.1 id).kept (Za.setCell w1 _ _) (by simp only;omega),?_⟩;rintro(e|⟨r,hr,he⟩)
 · omega
 · by_cases hz:r.v=v
   · have:=hv _ (by rw[←hz];exact he);omega
   · have hm:r∈R.rows:=by
      simp only[Zd.rows,Zd.setPuts,List.mem_cons]at hr⊢;rcases hr with rfl|rfl|rfl|rfl|rfl|hr
      · exact .inl rfl
      · exact .inr (.inl rfl)
      · exact .inr (.inr (.inl rfl))
      · exact absurd rfl hz
      · exact .inr (.inr (.inr (.inr (.inl rfl))))
      · exact .inr (.inr (.inr (.inr (.inr hr))))
     have:=(h.all.row r hm).lt _ he;omega
theorem VL {w W w3:World}{b P:Nat}{R R':Zd}{p:Zh}{n:Nat}(h:Zq w b R W R' P p)(k:Za (fun _=>False) (W.drewN n) w3):Zq w b R w3 R' P p:=h.same (((Za.refl (fun _=>False) W).drewN n).trans k (fun _=>id) (fun _ _=>id))
theorem Zb7 {w w2 w':World}{e:TypeId}{size:Nat}{v v':Value}{n m:Nat}{xs news:List Value}(k:Za (fun _=>False) w w2)(h:Zc w2 w' e size v v' n m xs news):Zc w w' e size v v' n m xs news:=by
 refine⟨h.row,k.trans h.kept (fun _=>False.elim) (fun _ _=>id),?_⟩;rcases h.own with e|e
 · exact .inl e
 · exact .inr fun j hj=>Nat.le_trans k.size (e j hj)
theorem ZcU {w W W2 w':World}{b k g P:Nat}{R R2:Zd}{nd1:Zi}{p:Zh}{v':Value}(h:Zq w b R W R2 P p)(hk:Za (fun _=>False) W W2)(hnd:R2.nodes[k]?=some nd1)(ho:R2.vn.ownBlock=some g)(hA:Zc W2 w' 55 6 nd1.en v' nd1.ents.length 1 (nd1.ents.flatMap Zk) (Zk p)):
 (∀f u,W.cell? ⟨g,f,none⟩=some u→w'.cell? ⟨g,f,none⟩=some u)∧(∀f u,W.cell? ⟨b,f,none⟩=some u→w'.cell? ⟨b,f,none⟩=some u)∧(∀f,w'.frozen? ⟨g,f,none⟩=false)∧Zq w b R (w'.setCell ⟨g,k*7+5,none⟩ v') (R2.putN k (nd1.setEnts (nd1.ents++[p]) v')) P p∧Blk w' P 55 (Z8 p):=by
 have hA2:=Zb7 hk hA;have hr:=h.bec.1.ents nd1 (List.mem_of_getElem? hnd);have hg:¬nd1.en.ownBlock=some g:=fun e=>hr.ne_row h.bec.1.nodes (by decide) g e ho;have hb:¬nd1.en.ownBlock=some b:=fun e=>hr.ne_block h.bec.1.blk (by decide) e;refine⟨fun f u hc=>hA2.kept.keep hg hc,fun f u hc=>hA2.kept.keep hb hc,fun f=>(h.bec.1.nodes.kept hA2.kept fun j hj he=> ?_).free ho f,h.next (h.bec.1.pushEnt hnd ho p v' hA2),h.box.kept hA2.kept fun e=>h.away (.inr ⟨_,YG (List.mem_of_getElem? hnd) (List.mem_of_getElem? (i:=2) rfl),e⟩)⟩;rw[ho]at hj;injection hj with hj;exact hg (by rw[hj];exact he)
theorem ZeK {w W W2 w':World}{b k g P:Nat}{R R2:Zd}{nd1:Zi}{p:Zh}{x:Int}{v':Value}(h:Zq w b R W R2 P p)(hk:Za (fun _=>False) W W2)(hnd:R2.nodes[k]?=some nd1)(ho:R2.vn.ownBlock=some g)(hA:Zc W2 w' 3 1 nd1.nm v' nd1.nms.length 1 (ZQ nd1.nms) [.int .i64 x]):
 (∀f u,W.cell? ⟨g,f,none⟩=some u→w'.cell? ⟨g,f,none⟩=some u)∧(∀f u,W.cell? ⟨b,f,none⟩=some u→w'.cell? ⟨b,f,none⟩=some u)∧(∀f,w'.frozen? ⟨g,f,none⟩=false)∧Zq w b R (w'.setCell ⟨g,k*7+6,none⟩ v') (R2.putN k (nd1.setNms (nd1.nms++[x]) v')) P p:=by
 have hA2:=Zb7 hk hA;have hr:=h.bec.1.nms nd1 (List.mem_of_getElem? hnd);have hg:¬nd1.nm.ownBlock=some g:=fun e=>hr.ne_row h.bec.1.nodes (by decide) g e ho;have hb:¬nd1.nm.ownBlock=some b:=fun e=>hr.ne_block h.bec.1.blk (by decide) e;refine⟨fun f u hc=>hA2.kept.keep hg hc,fun f u hc=>hA2.kept.keep hb hc,fun f=>(h.bec.1.nodes.kept hA2.kept fun j hj he=> ?_).free ho f,h.next (h.bec.1.pushNm hnd ho x v' hA2)⟩;rw[ho]at hj;injection hj with hj;exact hg (by rw[hj];exact he)
theorem Za4 {w W W2 w':World}{b P:Nat}{R R2:Zd}{p:Zh}{x:Int}{v':Value}(h:Zq w b R W R2 P p)(hk:Za (fun _=>False) W W2)(hA:Zc W2 w' 3 1 R2.vs v' R2.uses.length 1 (ZQ R2.uses) [.int .i64 x]):
 Za (fun j=>R2.vs.ownBlock=some j) W w'∧(∀f u,W.cell? ⟨b,f,none⟩=some u→w'.cell? ⟨b,f,none⟩=some u)∧(∀f,w'.frozen? ⟨b,f,none⟩=false)∧Zs w b R (w'.setCell ⟨b,6,none⟩ v') (R2.pushUse x v'):=by
 have hA2:=Zb7 hk hA;have hb:¬R2.vs.ownBlock=some b:=fun e=>h.bec.1.uses.ne_block h.bec.1.blk (by decide) e;exact⟨hA2.kept,fun f u hc=>hA2.kept.keep hb hc,fun f=>(h.bec.1.blk.kept hA2.kept hb).free f,h.bec.trans (h.bec.1.pushUse x v' hA2)⟩
theorem ZfR {w:World}{b k:Nat}{R:Zd}{nd:Zi}(h:Ref w b R)(hn:nd∈R.nodes)(hk:nd.nm.ownBlock=some k):R.vs.ownBlock≠some k:=by
 have hm:(⟨3,1,nd.nm,nd.nms.length,ZQ nd.nms⟩:Yw)∈R.nodes.flatMap Z3:=List.mem_flatMap.mpr ⟨nd,hn,List.mem_of_getElem? (i:=3) rfl⟩;obtain⟨i,hi,e⟩:=List.getElem_of_mem hm;exact h.all.sep (i+5) 4 _ ⟨3,1,R.vs,R.uses.length,ZQ R.uses⟩ (by show(R.nodes.flatMap Z3)[i]?=_;rw[List.getElem?_eq_getElem hi,e]) rfl (by omega) k hk
theorem VV {W:World}{b k g n cap:Nat}{R2:Zd}{nd1:Zi}(h:Ref W b R2)(hnd:R2.nodes[k]?=some nd1)(hv:R2.vn=.slice (some ⟨g,0,none⟩) n cap)(ho:R2.vn.ownBlock=some g):
 W.cell? ⟨b,3,none⟩=some (.slice (some ⟨g,0,none⟩) n cap)∧W.cell? ⟨g,k*7+5,none⟩=some nd1.en∧W.cell? ⟨g,k*7+6,none⟩=some nd1.nm:=by
 obtain⟨hk,hnd'⟩:=List.getElem?_eq_some_iff.mp hnd;exact⟨by rw[h.c3,hv],h.nodes.cell ho _ _ (by rw[Zy R2.nodes k hk 5 (by omega),hnd'];rfl),h.nodes.cell ho _ _ (by rw[Zy R2.nodes k hk 6 (by omega),hnd'];rfl)⟩
theorem Zip (us:List Int)(nd:Zi)(h:0<nd.ents.length):∃q:Nat,XH us nd=(q:Int)∧q<nd.ents.length:=by
 unfold XH
 split
 · rename_i h0
   have:=Ze0 nd.ents nd.ents.length;exact⟨(ZF nd.ents nd.ents.length).toNat,by omega,by omega⟩
 · have:=ZeN us nd.nms nd.ents.length;exact⟨Yv us nd.nms nd.ents.length,rfl,by omega⟩
end Go.Proofs.YtpfcacedpkaihaaGreat
