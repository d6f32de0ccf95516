import Derived.Test.YtpfcacedpkaihaaGreatC53
import Derived.Test.YtpfcacedpkaihaaGreatC50
import Derived.Test.YtpfcacedpkaihaaGreatC43
namespace Go.Proofs.YtpfcacedpkaihaaGreat
open Go.RowKit
set_option maxRecDepth 100000
set_option maxHeartbeats 16000000
theorem Ve.from {w W w':World}{pb:Nat}{vps bv b1 b2:Value}{commits most:Int}{bn:Nat}{vals:List Value}{cn:Nat}{cvals:List Value}(h:Ve W pb vps bv b1 b2 commits most bn vals cn cvals w')(k:Za (fun _=>False) w W):Ve w pb vps bv b1 b2 commits most bn vals cn cvals w':=by
 obtain⟨w4,w5,v,u,lE,lC,m,n,xs,ys,hm,hn,k4,hl,hf,hp,hl2,hf2,hq⟩:=h;have s:=k.size;exact⟨w4,w5,v,u,lE,lC,m,n,xs,ys,hm,hn,k.trans k4 (fun _=>id) (fun _ _=>id),hl,fun j hj=>Nat.le_trans s (hf j hj),hp,hl2,fun j hj=>Nat.le_trans s (hf2 j hj),hq⟩
theorem XA.from {w W w':World}{pb:Nat}{vps bv b1 b2:Value}{commits most:Int}{bn:Nat}{vals:List Value}(h:XA W pb vps bv b1 b2 commits most bn vals w')(k:Za (fun _=>False) w W):XA w pb vps bv b1 b2 commits most bn vals w':=by
 obtain⟨w4,u,lM,m,xs,hm,k4,hl,hn,hp⟩:=h;have s:=k.size;exact⟨w4,u,lM,m,xs,hm,k.trans k4 (fun _=>id) (fun _ _=>id),hl,fun j hj=>Nat.le_trans s (hn j hj),hp⟩
def bX (bv b1 b2:Value)(nA nB nC:List ZV)(k:Nat):Prop:=XX bv nA k∨XX b1 nB k∨XX b2 nC k
structure Yx (w0 W:World)(most:Int)(k:Nat)(ps:List Z7)(vps bv b1 b2:Value)(commits:Int)(nA nB nC:List ZV):Prop where
 inv:Inv w0.heap.size (bX bv b1 b2 nA nB nC) w0 W w0.heap.size ps vps bv b1 b2 commits most
 a:Yi shE W bv nA
 b:Yi shM W b1 nB
 c:Yi shC W b2 nC
 low:∀j,bX bv b1 b2 nA nB nC j→w0.heap.size≤j
 r1:ps.length≤k
 r2:0≤commits
 r3:commits≤(k:Int)
 ra:nA.length≤k
 rb:nB.length≤k
 rc:nC.length≤k
 ru:∀p∈ps,p.R.uses.length≤k
def ZcJ (w0:World)(most:Int)(k:Nat)(W:World):Prop:=∃ps vps bv b1 b2 commits nA nB nC,Yx w0 W most k ps vps bv b1 b2 commits nA nB nC
section
variable {w0 W W':World} {most:Int} {k:Nat} {ps:List Z7} {vps bv b1 b2:Value} {commits:Int} {nA nB nC:List ZV}
theorem Yx.kept (h:Yx w0 W most k ps vps bv b1 b2 commits nA nB nC)(hk:Za (fun _=>False) W W'):Yx w0 W' most k ps vps bv b1 b2 commits nA nB nC:=
 ⟨h.inv.kept hk,h.a.kept hk fun _ _=>id,h.b.kept hk fun _ _=>id,h.c.kept hk fun _ _=>id,h.low,h.r1,h.r2,h.r3,h.ra,h.rb,h.rc,h.ru⟩
theorem Yx.more (h:Yx w0 W most k ps vps bv b1 b2 commits nA nB nC):Yx w0 W most (k+1) ps vps bv b1 b2 commits nA nB nC:=
 ⟨h.inv,h.a,h.b,h.c,h.low,by have:=h.r1;omega,h.r2,by have:=h.r3;omega,by have:=h.ra;omega,by have:=h.rb;omega,by have:=h.rc;omega,fun p hp=>Nat.le_succ_of_le (h.ru p hp)⟩
theorem Yx.spost {e:Ending}(h:Yx w0 W most k ps vps bv b1 b2 commits nA nB nC)(hp:SPost w0.heap.size (bX bv b1 b2 nA nB nC) w0 W w0.heap.size ps bv b1 b2 commits most e W'):e=.returned (.bool true)∧ZcJ w0 most (k+1) W':=by
 obtain⟨e1,hk,ps',vps',commits',hi',l1,l2,l3⟩:=hp;have r1:=h.r1;have r2:=h.r2;have r3:=h.r3;exact⟨e1,ps',vps',bv,b1,b2,commits',nA,nB,nC,hi',h.a.kept hk (fun b hb hn=>hn (.inl hb)),h.b.kept hk (fun b hb hn=>hn (.inr (.inl hb))),h.c.kept hk (fun b hb hn=>hn (.inr (.inr hb))),h.low,by omega,by omega,by omega,Nat.le_succ_of_le h.ra,Nat.le_succ_of_le h.rb,Nat.le_succ_of_le h.rc,l3 k h.ru⟩
theorem Yx.books {v u1 u2:Value}{mA mB mC:List ZV}(h:Yx w0 W most k ps vps bv b1 b2 commits nA nB nC)(ha:Yi shE W' v mA)(hb:Yi shM W' u1 mB)(hc:Yi shC W' u2 mC)(hp:Blk W' w0.heap.size 34 (ZM vps v u1 u2 commits most))
 (hk:Za (fun j=>j=w0.heap.size∨bX bv b1 b2 nA nB nC j) W W') (hX:∀j,bX v u1 u2 mA mB mC j→bX bv b1 b2 nA nB nC j∨W.heap.size≤j) (la:mA.length≤k+1) (lb:mB.length≤k+1) (lc:mC.length≤k+1):ZcJ w0 most (k+1) W':=by
 obtain⟨z1,z2⟩:=h.inv.book (X':=bX v u1 u2 mA mB mC) hk h.low hp hX (by
  rintro j (hj|hj|hj)
  · exact ha.lt j hj
  · exact hb.lt j hj
  · exact hc.lt j hj)
 have r1:=h.r1;have r3:=h.r3;exact⟨ps,vps,v,u1,u2,commits,mA,mB,mC,z1,ha,hb,hc,z2,by omega,h.r2,by omega,la,lb,lc,fun p hp=>Nat.le_succ_of_le (h.ru p hp)⟩
theorem Yx.puts {v:Value}{m:Nat}(h:Yx w0 W most k ps vps bv b1 b2 commits nA nB nC)(hm:m≤1000)(hp:YM shE (fun v=>ZM vps v b1 b2 commits most) W w0.heap.size bv nA.length (nA.map Xs) ZH m v W'):ZcJ w0 most (k+1) W':=by
 have hno:∀j,ZH.ownBlock≠some j:=fun j=>by simp[ZH,Value.ownBlock]
 obtain⟨mA,z1,z2,z3⟩:=h.a.note ZdO (B:=W.heap.size) h.a.lt (Nat.le_refl _) (fun j hj=>absurd hj (hno j)) h.inv.blk hm hp;have hn:Row W shE.te 6 ZH 0 []:=Row.nil _ _ _;refine h.books z1 (h.b.other ZdV ZiA h.a.row hn h.inv.blk hp.kept) (h.c.other ZdQ Zjj h.a.row hn h.inv.blk hp.kept) hp.blk (hp.kept.mono ?_) ?_ (by rw[z2];have:=h.ra;omega) (Nat.le_succ_of_le h.rb) (Nat.le_succ_of_le h.rc)
 · rintro j (hj|hj|hj)
   · exact .inl hj
   · exact .inr (.inl (.inl hj))
   · exact absurd hj (hno j)
 · rintro j (hj|hj|hj)
   · exact(z3 j hj).imp .inl id
   · exact .inl (.inr (.inl hj))
   · exact .inl (.inr (.inr hj))
theorem Yx.flight (h:Yx w0 W most k ps vps bv b1 b2 commits nA nB nC)(hp:XA W w0.heap.size vps bv b1 b2 commits most nB.length (nB.map Xs) W'):ZcJ w0 most (k+1) W':=by
 obtain⟨w4,u,lM,m,xs,hm,k4,hl,hn,hp⟩:=hp;have h4:=h.kept k4;have s4:=k4.size;obtain⟨mB,z1,z2,z3⟩:=h4.b.note ZdV (B:=W.heap.size) h.b.lt s4 hn h4.inv.blk hm hp;refine h.books (h4.a.other ZdO far_ME h4.b.row hl h4.inv.blk hp.kept) z1 (h4.c.other ZdQ far_MC h4.b.row hl h4.inv.blk hp.kept) hp.blk (k4.trans hp.kept (fun _=>False.elim) ?_) ?_ (Nat.le_succ_of_le h.ra) (by rw[z2];have:=h.rb;omega) (Nat.le_succ_of_le h.rc)
 · rintro j hj (hj'|hj'|hj')
   · exact .inl hj'
   · exact .inr (.inr (.inl (.inl hj')))
   · have:=hn j hj';omega
 · rintro j (hj|hj|hj)
   · exact .inl (.inl hj)
   · exact(z3 j hj).imp (fun x=>.inr (.inl x)) id
   · exact .inl (.inr (.inr hj))
theorem Yx.look (h:Yx w0 W most k ps vps bv b1 b2 commits nA nB nC)(hp:Ve W w0.heap.size vps bv b1 b2 commits most nA.length (nA.map Xs) nC.length (nC.map Xs) W'):ZcJ w0 most (k+1) W':=by
 obtain⟨w4,w5,v,u,lE,lC,m,n,xs,ys,hm,hn,k4,hl,hf,hp,hl2,hf2,hq⟩:=hp;have h4:=h.kept k4;have s4:=k4.size;have s5:=hp.kept.size;obtain⟨mA,z1,z2,z3⟩:=h4.a.note ZdO (B:=W.heap.size) h.a.lt s4 hf h4.inv.blk hm hp;have b5:=h4.b.other ZdV ZiA h4.a.row hl h4.inv.blk hp.kept;have c5:=h4.c.other ZdQ Zjj h4.a.row hl h4.inv.blk hp.kept;obtain⟨mC,y1,y2,y3⟩:=c5.note ZdQ (B:=W.heap.size) h.c.lt (Nat.le_trans s4 s5) hf2 hp.blk hn hq;refine h.books (z1.other ZdO far_CE c5.row hl2 hp.blk hq.kept) (b5.other ZdV far_CM c5.row hl2 hp.blk hq.kept) y1 hq.blk ((k4.trans hp.kept (H:=fun j=>j=w0.heap.size∨bX bv b1 b2 nA nB nC j) (fun _=>False.elim) ?_).trans hq.kept (fun _=>id) ?_) ?_ (by rw[z2];have:=h.ra;omega) (Nat.le_succ_of_le h.rb) (by rw[y2];have:=h.rc;omega)
 · rintro j hj (hj'|hj'|hj')
   · exact .inl hj'
   · exact .inr (.inl (.inl hj'))
   · have:=hf j hj';omega
 · rintro j hj (hj'|hj'|hj')
   · exact .inl hj'
   · exact .inr (.inr (.inr (.inl hj')))
   · have:=hf2 j hj';omega
 · rintro j (hj|hj|hj)
   · exact(z3 j hj).imp .inl id
   · exact .inl (.inr (.inl hj))
   · exact(y3 j hj).imp (fun x=>.inr (.inr x)) id
theorem Yx.whole {e:Ending}(h:Yx w0 W most k ps vps bv b1 b2 commits nA nB nC)(hp:Xg W b2 nC e W'):e=.returned (.bool true)∧Yx w0 W' most k ps vps bv b1 b2 commits nA nB nC:=by
 obtain⟨e1,hc,hk⟩:=hp;have hx:∀j,(∃x∈nC,YF x j)→XX b2 nC j:=fun j ⟨x,hx,hj⟩=>.inr ⟨x,hx,.inr hj⟩;have ht:∀j,(∃x∈nC,YF x j)→∃c,Blk W j 5 c:=by
  rintro j ⟨x,hx,hj⟩;obtain⟨i,hi,rfl⟩:=List.getElem_of_mem hx;exact(h.c.each i hi).elem hj
 have oth:∀{T:YE}{b:Value}{ns:List ZV},Yi T W b ns→T.te≠5→T.tl≠5→T.tn≠5→Yi T W' b ns:=by
  intro T b ns hb h1 h2 h3;refine hb.kept hk fun j hj hcj=> ?_;obtain⟨U,c,hU,hU'⟩:=hb.type hj;obtain⟨c',hc'⟩:=ht j hcj;have:=(hU.type hc').1;rcases hU' with rfl|rfl|rfl
  · exact h1 this
  · exact h2 this
  · exact h3 this
 have hpb:¬(∃x∈nC,YF x w0.heap.size):=fun hj=>by
  obtain⟨c',hc'⟩:=ht _ hj;exact absurd (h.inv.blk.type hc').1 (by decide)
 have ha:=oth h.a (by decide) (by decide) (by decide);have hb:=oth h.b (by decide) (by decide) (by decide);obtain⟨z1,z2⟩:=h.inv.book (X':=bX bv b1 b2 nA nB nC) (hk.mono fun j hj=>.inr (.inr (.inr (hx j hj)))) h.low (h.inv.blk.kept hk hpb) (fun j hj=>.inl hj) (by
  rintro j (hj|hj|hj)
  · exact ha.lt j hj
  · exact hb.lt j hj
  · exact hc.lt j hj)
 exact⟨e1,z1,ha,hb,hc,z2,h.r1,h.r2,h.r3,h.ra,h.rb,h.rc,h.ru⟩
end
theorem ZhE {w0 W:World}{most:Int}{k:Nat}(hI:ZcJ w0 most k W)(o:OpE)(ho:Zcj w0.heap.size w0 o)(hk0:1≤o.kd)(hk1:o.kd≤19)(hkm:(k+1)*72≤140737488351232):
 Calls Tryz.prog 9 #[.pointer (some ⟨w0.heap.size,0,none⟩),.agg #[.int .i64 o.kd,.int .i64 o.a,.int .i64 o.b,.int .i64 o.c,.string o.s,.slice o.ao o.n o.cap]] W fun e w'=>e=.returned (.bool true)∧ZcJ w0 most (k+1) w':=by
 obtain⟨ps,vps,bv,b1,b2,commits,nA,nB,nC,hS⟩:=hI;have hi:=hS.inv;have r1:=hS.r1;have r3:=hS.r3;have ra:=hS.ra;have rb:=hS.rb;have rc:=hS.rc;have ru:=hS.ru;by_cases h19:o.kd=19
 · rw[h19];exact(Zep W w0.heap.size o.a o.b o.c o.s o.ao o.n o.cap ho.str).mono fun e w' hp=>⟨hp.1,_,_,_,_,_,_,_,_,_,(hS.kept hp.2).more⟩
 by_cases h16:o.kd=1∨o.kd=2∨o.kd=3∨o.kd=4∨o.kd=5∨o.kd=6
 · exact(ZdX hi o ho h16 (by omega) hS.r2 (by omega) (fun p hp=>by have:=ru p hp;omega)).mono fun e w' hp=>hS.spost hp
 by_cases hps:ps.length=0
 · exact(Zca hi o.kd o.a o.b o.c o.s o.ao o.n o.cap hps (by omega) (by omega)).mono fun e w' hp=>hS.spost hp
 have hp0:0<ps.length:=by omega
 have hpm:ps.length≤4611686018427387904:=by omega
 have each:∀{W1:World}{i:Nat}{p:Z7},ps[i]?=some p→Za (fun _=>False) W W1→ZP W1 p.xb p.cb p.D p.R∧p.R.uses.length<3000000000000:=fun {W1 i p} hget hk=>⟨(hi.each p (List.mem_of_getElem? hget)).kept hk fun _ _=>id,by have:=ru p (List.mem_of_getElem? hget);omega⟩;have turned:∀{W1:World}{i:Nat}{p:Z7}{e:Ending}{w':World},ps[i]?=some p→Za (fun _=>False) W W1→Yp W1 p.xb p.cb p.D p.R e w'→e=.returned (.bool true)∧Hid (SPost w0.heap.size (bX bv b1 b2 nA nB nC) w0 W w0.heap.size ps bv b1 b2 commits most (.returned (.bool true)) w'):=fun {W1 i p e w'} hget hk hp=>⟨hp.1,(SPost.of_turned (hi.kept hk) hget hp.2).from hk⟩;by_cases h7:o.kd=7
 · refine(ZaU hi o.kd o.a o.b o.c o.s o.ao o.n o.cap hp0 hpm (by omega) (by omega) ho.a0 ho.a1 fun W xb cb D R hR hp=> ?_).mono fun e w' hp=>hS.spost hp;rw[h7];obtain⟨p,hp',rfl⟩:=hR;exact ZdT W w0.heap.size xb cb _ _ _ _ _ _ _ D _ hp (by have:=ru p hp';omega) ho.str
 by_cases h8:o.kd=8
 · refine(VZ hi o.kd o.a o.b o.c o.s o.ao o.n o.cap hp0 hpm (by omega) (by omega) ho.a0 ho.a1 (fun w'=>∃m,m≤1000∧X7 W w0.heap.size vps bv b1 b2 commits most nA.length (nA.map Xs) m w') fun W1 i p hget hk=> ?_).mono fun e w' hp=> ?_
   · rw[h8];obtain⟨hpp,_⟩:=each hget hk;refine(Zhb W1 w0.heap.size p.xb p.cb _ _ _ _ _ _ _ p.D p.R vps bv b1 b2 commits most nA.length (nA.map Xs) hpp (hi.kept hk).blk (hS.kept hk).a.row (by omega)).mono fun e w' hp=> ?_;have:=hpp.dfit.qmax;exact⟨hp.1,p.D.puts.length,by omega,hp.2.out.from hk⟩
   · obtain⟨e1,m,hm,hpp⟩:=hp;obtain⟨v,hg⟩:=Zgj hpp;exact⟨e1,hS.puts hm hg⟩
 by_cases h12:o.kd=12
 · refine(VZ hi o.kd o.a o.b o.c o.s o.ao o.n o.cap hp0 hpm (by omega) (by omega) ho.a0 ho.a1 (fun w'=>Ve W w0.heap.size vps bv b1 b2 commits most nA.length (nA.map Xs) nC.length (nC.map Xs) w') fun W1 i p hget hk=> ?_).mono fun e w' hp=>⟨hp.1,hS.look hp.2⟩;rw[h12];obtain⟨hpp,hu⟩:=each hget hk;have hSk:=hS.kept hk;exact(Zh1 W1 w0.heap.size p.xb p.cb _ _ _ _ _ _ _ p.D p.R vps bv b1 b2 commits most nA.length (nA.map Xs) nC.length (nC.map Xs) hpp hu (hi.kept hk).blk hSk.a.row hSk.c.row (by omega) (by omega)).mono fun e w' hp=>⟨hp.1,hp.2.out.from hk⟩
 by_cases h13:o.kd=13
 · refine(Zcm hi o.kd o.a o.b o.c o.s o.ao o.n o.cap hp0 hpm (by omega) (by omega) ho.a0 ho.a1 (fun w'=>XA W w0.heap.size vps bv b1 b2 commits most nB.length (nB.map Xs) w') fun W1 i p hget hk=> ?_).mono fun e w' hp=>⟨hp.1,hS.flight hp.2⟩;rw[h13];obtain⟨hpp,hu⟩:=each hget hk;have hSk:=hS.kept hk;exact(ZdJ W1 w0.heap.size p.xb p.cb _ _ _ _ _ _ _ p.D p.R vps bv b1 b2 commits most nB.length (nB.map Xs) hpp hu (hi.kept hk).blk hSk.b.row (by omega)).mono fun e w' hp=>⟨hp.1,hp.2.out.from hk⟩
 by_cases hmem:o.kd≤11
 · refine(VZ hi o.kd o.a o.b o.c o.s o.ao o.n o.cap hp0 hpm (by omega) (by omega) ho.a0 ho.a1 (fun w'=>SPost w0.heap.size (bX bv b1 b2 nA nB nC) w0 W w0.heap.size ps bv b1 b2 commits most (.returned (.bool true)) w') fun W1 i p hget hk=> ?_).mono fun e w' hp=>⟨hp.1,(hS.spost hp.2).2⟩;obtain⟨hpp,hu⟩:=each hget hk;have hc:o.kd=9∨o.kd=10∨o.kd=11:=by omega
   rcases hc with e|e|e
   · rw[e];exact(Zhu W1 w0.heap.size p.xb p.cb _ _ _ _ _ _ _ p.D p.R hpp).mono fun e w' hp=>turned hget hk hp
   · rw[e];exact(ZfP W1 w0.heap.size p.xb p.cb _ _ _ _ _ _ _ p.D p.R hpp hu).mono fun e w' hp=>turned hget hk hp
   · rw[e];exact(ZfH W1 w0.heap.size p.xb p.cb _ _ _ _ _ _ _ p.D p.R hpp hu).mono fun e w' hp=>turned hget hk hp
 · refine(Zcm hi o.kd o.a o.b o.c o.s o.ao o.n o.cap hp0 hpm (by omega) (by omega) ho.a0 ho.a1 (fun w'=>SPost w0.heap.size (bX bv b1 b2 nA nB nC) w0 W w0.heap.size ps bv b1 b2 commits most (.returned (.bool true)) w') fun W1 i p hget hk=> ?_).mono fun e w' hp=>⟨hp.1,(hS.spost hp.2).2⟩;obtain⟨hpp,hu⟩:=each hget hk;have hc:o.kd=14∨o.kd=15∨o.kd=16∨o.kd=17∨o.kd=18:=by omega
   rcases hc with e|e|e|e|e
   · rw[e];exact(ZcI W1 w0.heap.size p.xb p.cb _ _ _ _ _ _ _ p.D p.R hpp hu).mono fun e w' hp=>turned hget hk hp
   · rw[e];exact(ZfZ W1 w0.heap.size p.xb p.cb _ _ _ _ _ _ _ p.D p.R hpp hu).mono fun e w' hp=>turned hget hk hp
   · rw[e];exact(Zf2 W1 w0.heap.size p.xb p.cb _ _ _ _ _ _ _ p.D p.R hpp hu).mono fun e w' hp=>turned hget hk hp
   · rw[e];exact(Zht W1 w0.heap.size p.xb p.cb _ _ _ _ _ _ _ p.D p.R hpp hu).mono fun e w' hp=>turned hget hk hp
   · rw[e];exact(ZcL W1 w0.heap.size p.xb p.cb _ _ _ _ _ _ _ p.D p.R hpp hu).mono fun e w' hp=>turned hget hk hp
theorem Zed (w:World)(ks:List Int)(t:TypeId):Ks (w.alloc (.cells (ks.map fun x=>Value.int .i64 x).toArray t)) w.heap.size ks:=
 ⟨by simp,fun j h=>by rw[World.cell?_alloc_at _ _ _ _ rfl];simp[h]⟩
theorem Zju (k:Nat):¬bX ZH ZH ZH [] [] [] k:=by
 rintro(h|h|h)<;>exact ZhH k h
theorem Zdr (w0:World)(ao:Option Addr)(n cap kb kcap:Nat)(ks:List Int)(most:Int)(os:List OpE)(hsc:Sc w0 ao n os)(hks:Ks w0 kb ks)(hkn:ks.length≤100)(hkk:∀x∈ks,1≤x∧x≤19)(hn:n*72≤140737488351232)(hok:∀o∈os,Zcj w0.heap.size w0 o):
 Calls Tryz.prog 8 #[.slice ao n cap,.slice (some ⟨kb,0,none⟩) ks.length kcap,.int .i64 most] w0 fun e w'=>Zdq n (ZcJ w0 most) e w':=by
 have hl:=hsc.len;refine lplays w0 ao n cap kb kcap os ks most (ZcJ w0 most) (fun k W=>ZcJ w0 most (k+1) W) hsc hks (by omega) hkn ?_ ?_ ?_ ?_ ?_ ?_
 · rintro k W ⟨ps,vps,bv,b1,b2,commits,nA,nB,nC,hS⟩;exact hS.inv.below
 · exact⟨[],ZH,ZH,ZH,ZH,0,[],[],[],Zh2 w0 _ _ Zju,Yi.nil _ _,Yi.nil _ _,Yi.nil _ _,fun j hj=>absurd hj (Zju j),by simp,by omega,by simp,by simp,by simp,by simp,fun p hp=>(by cases hp)⟩
 · rintro k W W' ⟨ps,vps,bv,b1,b2,commits,nA,nB,nC,hS⟩ hk;exact⟨ps,vps,bv,b1,b2,commits,nA,nB,nC,hS.kept hk⟩
 · rintro k W ⟨ps,vps,bv,b1,b2,commits,nA,nB,nC,hS⟩;exact⟨ps,vps,bv,b1,b2,commits,nA,nB,nC,hS.more⟩
 · intro k W hk hI hany;obtain⟨x,hx,he⟩:=List.any_eq_true.mp hany;have he':os[k].kd=x:=by simpa using he
   have:=hkk x hx;exact ZhE hI os[k] (hok _ (List.getElem_mem hk)) (by omega) (by omega) (by omega)
 · rintro k W hk ⟨ps,vps,bv,b1,b2,commits,nA,nB,nC,hS⟩;have ra:=hS.ra;have rb:=hS.rb;have rc:=hS.rc;refine(ZjU W w0.heap.size vps bv b1 b2 commits most nA nB nC hS.inv.blk hS.a hS.b hS.c (by omega) (by omega) (by omega)).mono fun e w' hp=> ?_;obtain⟨e1,hS'⟩:=hS.whole hp;exact⟨e1,ps,vps,bv,b1,b2,commits,nA,nB,nC,hS'⟩
theorem links_any (w:World)(ao:Option Addr)(n cap:Nat)(os:List OpE)(hsc:Sc w ao n os)(hn:n*72≤140737488351232)(hok:∀o∈os,Zcj w.heap.size w o):
 Calls Tryz.prog 6 #[.slice ao n cap] w fun e w'=>LawPost w e w':=by
 have HPL:Hid (Calls Tryz.prog 8 #[.slice ao n cap,.slice (some ⟨w.heap.size,0,none⟩) 15 15,.int .i64 (n:Int)] (w.alloc (.cells #[.int .i64 1,.int .i64 2,.int .i64 5,.int .i64 6,.int .i64 7,.int .i64 9,.int .i64 10,.int .i64 11,.int .i64 12,.int .i64 13,.int .i64 14,.int .i64 15,.int .i64 16,.int .i64 17,.int .i64 18] 3)) fun e w'=>e=.returned (.bool true)∧Hid (Below w.heap.size w w')):=by
  refine(Zdr _ ao n cap w.heap.size 15 [1,2,5,6,7,9,10,11,12,13,14,15,16,17,18] (n:Int) os (hsc.alloc _) (Zed w [1,2,5,6,7,9,10,11,12,13,14,15,16,17,18] 3) (by decide) (by decide) hn (fun o ho=>(hok o ho).alloc _)).mono fun e w' hp=> ?_;obtain⟨e1,ps,vps,bv,b1,b2,commits,nA,nB,nC,hS⟩:=hp;exact⟨e1,Zbx hS.inv.below⟩
 clear hsc hok;go_enter Tryz.func6,Tryz.ntmps6
 go_wp2_with (go_at_call 8;refine HPL.out.mono ?_;rintro e w1 ⟨rfl,hb⟩)
 go_ret;exact⟨rfl,hb.out⟩
theorem all_any (w:World)(ao:Option Addr)(n cap:Nat)(os:List OpE)(hsc:Sc w ao n os)(hn:n*72≤140737488351232)(hok:∀o∈os,Zcj w.heap.size w o):
 Calls Tryz.prog 7 #[.slice ao n cap] w fun e w'=>LawPost w e w':=by
 have HPL:Hid (Calls Tryz.prog 8 #[.slice ao n cap,.slice (some ⟨w.heap.size,0,none⟩) 19 19,.int .i64 (n:Int)] (w.alloc (.cells #[.int .i64 1,.int .i64 2,.int .i64 3,.int .i64 4,.int .i64 5,.int .i64 6,.int .i64 7,.int .i64 8,.int .i64 9,.int .i64 10,.int .i64 11,.int .i64 12,.int .i64 13,.int .i64 14,.int .i64 15,.int .i64 16,.int .i64 17,.int .i64 18,.int .i64 19] 3)) fun e w'=>e=.returned (.bool true)∧Hid (Below w.heap.size w w')):=by
  refine(Zdr _ ao n cap w.heap.size 19 [1,2,3,4,5,6,7,8,9,10,11,12,13,14,15,16,17,18,19] (n:Int) os (hsc.alloc _) (Zed w [1,2,3,4,5,6,7,8,9,10,11,12,13,14,15,16,17,18,19] 3) (by decide) (by decide) hn (fun o ho=>(hok o ho).alloc _)).mono fun e w' hp=> ?_;obtain⟨e1,ps,vps,bv,b1,b2,commits,nA,nB,nC,hS⟩:=hp;exact⟨e1,Zbx hS.inv.below⟩
 clear hsc hok;go_enter Tryz.func7,Tryz.ntmps7
 go_wp2_with (go_at_call 8;refine HPL.out.mono ?_;rintro e w1 ⟨rfl,hb⟩)
 go_ret;exact⟨rfl,hb.out⟩
end Go.Proofs.YtpfcacedpkaihaaGreat
