import Derived.Test.YtpfcacedpkaihaaGreatC23
import Derived.Test.YtpfcacedpkaihaaGreatC38
import Derived.Test.YtpfcacedpkaihaaGreatC36
namespace Go.Proofs.YtpfcacedpkaihaaGreat
open Go.RowKit
set_option maxRecDepth 100000
set_option maxHeartbeats 16000000
theorem Tryz.infoNotes :(Tryz.prog.info? 49).map (fun i=>(i.zero,i.size,i.bytes))=some (some (.slice none 0 0),1,24):=by kernel_rfl
def V7 (lV:Value)(n:Nat)(g:Nat):Prop:=lV.ownBlock=some g∨n≤g
theorem Zkl {w0 w:World}{lo:Option Addr}{m lc i zb:Nat}{xs:List Value}{x:Value}(hS:SE w0 lo m lc i zb xs w)(hN:IsN w0 lo m lc w x)(hz:(Value.slice lo m lc).ownBlock≠some zb)(hzb:zb<w0.heap.size):
 ∃(N:Nat)(ad:Nat→Option Addr)(cp:Nat→Nat),x=.slice (some ⟨N,0,none⟩) 4 4∧w0.heap.size≤N∧Blk w N 51 (Vs m ad cp)∧Four w zb m ad (V7 (.slice lo m lc) w0.heap.size)∧ad 0=lo:=by
 obtain⟨N,a1,a2,a3,e,hNs,hb,⟨g1,c1,e1,r1⟩,⟨g2,c2,e2,r2⟩,⟨g3,c3,e3,r3⟩⟩:=hN;subst e1 e2 e3;refine⟨N,fun k=>if k=0 then lo else if k=1 then some ⟨g1,0,none⟩else if k=2 then some ⟨g2,0,none⟩else some ⟨g3,0,none⟩,fun k=>if k=0 then lc else if k=1 then c1 else if k=2 then c2 else c3,e,hNs,hb,⟨fun k hk h0=> ?_⟩,rfl⟩;have lrow:∀g q,lo=some ⟨g,0,none⟩→q≤lc→V7 (.slice lo m lc) w0.heap.size g∧g≠zb∧∃c,Blk w g 55 c∧q*6≤c.size:=by
  intro g q hg hq;subst hg;refine⟨.inl rfl,fun e=>hz (by rw[←e];rfl),?_⟩;rcases hS.row.shape with⟨e,_⟩|⟨g',cap,cur,e,hb',_,_,hs,_⟩
  · cases e
  · injection e with q1 _ q2;injection q1 with q1;injection q1 with q1 _ _;subst q1 q2;exact⟨cur,hb',by rw[hs];exact Nat.mul_le_mul_right _ hq⟩
 have use:∀q g,((lo=some ⟨g,0,none⟩∧m+q≤lc)∨(w0.heap.size≤g∧∃c,Blk w g 55 c∧(m+q)*6≤c.size))→V7 (.slice lo m lc) w0.heap.size g∧g≠zb∧∃c,Blk w g 55 c∧(m+q)*6≤c.size:=by
  rintro q g (⟨h1,h2⟩|⟨h1,h2⟩)
  · exact lrow g (m+q) h1 h2
  · exact⟨.inr h1,by omega,h2⟩
 have hk4:k=0∨k=1∨k=2∨k=3:=by omega
 rcases hk4 with rfl|rfl|rfl|rfl
 · obtain⟨g,cap,hv,_,_⟩:=hS.row.block (by omega);injection hv with q1 _ q2;have hml:m≤lc:=by
    rcases hS.row.shape with⟨_,h,_⟩|⟨_,cap',_,e',_,hc,_⟩
    · omega
    · injection e' with _ _ q3;omega
   exact⟨g,q1,lrow g (m+0) q1 hml⟩
 · exact⟨g1,rfl,use 1 g1 r1⟩
 · exact⟨g2,rfl,use 2 g2 r2⟩
 · exact⟨g3,rfl,use 3 g3 r3⟩
def ZeA (ad:Nat→Option Addr)(m:Nat)(b:Nat):Prop:=∃k,k<4∧0<m+k∧ad k=some ⟨b,0,none⟩
structure Zbc (B:Nat)(w0 wr:World)(lV:Value)(N zb m bn:Nat)(ad:Nat→Option Addr)(cp:Nat→Nat)(q j:Nat):Prop where
 kept:Za (ZeA ad m) w0 wr
 four:Four wr zb m ad (V7 lV B)
 own:∀b,ZeA ad m b→V7 lV B b∧b≠zb∧b≠N
 nb:Blk wr N 51 (Vs m ad cp)
 z:Blk wr zb 55 (Vq bn)
 done:∀k,k<4→∀t,t<m+k→(k<q∨(k=q∧t<j))→∃g,ad k=some ⟨g,0,none⟩∧Mk bn wr g t
theorem Zbc.next {B:Nat}{w0 wr W':World}{lV:Value}{N zb m bn:Nat}{ad:Nat→Option Addr}{cp:Nat→Nat}{q j g:Nat}{c:Array Value}(h:Zbc B w0 wr lV N zb m bn ad cp q j)(hq:q<4)(hj:j<m+q)(hg:ad q=some ⟨g,0,none⟩)(hb:Blk wr g 55 c)(hs:(m+q)*6≤c.size)
 (hW:W'.heap=(st6 wr g (j*6) (.string mq) (.int .i32 0) (.int .u64 0) (.int .u64 (bn:Int)) (.bool false) (.int .u64 0)).heap) (h1:W'.os=wr.os) (h2:W'.tape=wr.tape) (h3:W'.output=wr.output):Zbc B w0 W' lV N zb m bn ad cp q (j+1):=by
 have hs':(j+1)*6≤c.size:=Nat.le_trans (Nat.mul_le_mul_right 6 hj) hs;obtain⟨k0,m1,m2,c',b',e'⟩:=ZiE (i:=bn) hb hs' _ rfl;have kk:Za (fun k=>k=g) wr W':=⟨h1,h2,h3,by rw[hW];exact k0.size,fun i hi hn=>by rw[hW];exact k0.block i hi hn⟩;have ho:ZeA ad m g:=⟨q,hq,by omega,hg⟩;obtain⟨_,o2,o3⟩:=h.own g ho;refine⟨h.kept.trans kk (fun _=>id) (fun b _ e=>e▸ho),h.four.keep fun g' d hd=> ?_,h.own,h.nb.kept kk fun e=>o3 e.symm,h.z.kept kk fun e=>o2 e.symm,fun k hk t ht hd=> ?_⟩
 · by_cases e:g'=g
   · subst e;obtain⟨_,rfl⟩:=hb.type hd;exact⟨c',b'.same (by rw[hW]),by omega⟩
   · exact⟨d,hd.kept kk e,Nat.le_refl _⟩
 · by_cases e:k=q∧t=j
   · obtain⟨rfl,rfl⟩:=e;exact⟨g,hg,m1.same (by rw[hW])⟩
   · obtain⟨g',e1,e2⟩:=h.done k hk t ht (by omega);exact⟨g',e1,(m2 g' t e2).same (by rw[hW])⟩
theorem Zdn (w:World):w.drew.heap=w.heap:=rfl
theorem ZgF (w:World):w.drew.os=w.os:=rfl
theorem Zdm (w:World):w.drew.tape=w.tape:=rfl
theorem Ze1 (w:World):w.drew.output=w.output:=rfl
theorem Zbc.step {B:Nat}{w0 wr:World}{lV:Value}{N zb m bn:Nat}{ad:Nat→Option Addr}{cp:Nat→Nat}{q j g:Nat}{c:Array Value}(h:Zbc B w0 wr lV N zb m bn ad cp q j)(hq:q<4)(hj:j<m+q)(hg:ad q=some ⟨g,0,none⟩)(hb:Blk wr g 55 c)(hs:(m+q)*6≤c.size):
 Zbc B w0 (st6 wr g (j*6) (.string mq) (.int .i32 0) (.int .u64 0) (.int .u64 (bn:Int)) (.bool false) (.int .u64 0)).drew lV N zb m bn ad cp q (j+1):=
 h.next (W':=(st6 wr g (j*6) (.string mq) (.int .i32 0) (.int .u64 0) (.int .u64 (bn:Int)) (.bool false) (.int .u64 0)).drew) hq hj hg hb hs (Zdn _) ((ZgF _).trans (ZaN ..).os) ((Zdm _).trans (ZaN ..).tape) ((Ze1 _).trans (ZaN ..).output)
theorem Zbc.turn {B:Nat}{w0 wr:World}{lV:Value}{N zb m bn:Nat}{ad:Nat→Option Addr}{cp:Nat→Nat}{q:Nat}(h:Zbc B w0 wr lV N zb m bn ad cp q (m+q)):Zbc B w0 wr lV N zb m bn ad cp (q+1) 0:=by
 refine⟨h.kept,h.four,h.own,h.nb,h.z,fun k hk t ht hd=>h.done k hk t ht ?_⟩;rcases hd with hd|hd
 · by_cases e:k=q
   · subst e;exact .inr ⟨rfl,ht⟩
   · exact .inl (by omega)
 · omega
theorem Vy (a:Option Addr)(n c:Nat):∀u∈[Value.slice a n c],u.oneCell'=true:=by
 intro u hu;simp at hu;subst hu;rfl
theorem cell_one_new (w:World)(a:Value)(t:TypeId):∀j u,[a][j]?=some u→(w.alloc (.cells #[a] t)).cell? ((⟨w.heap.size,0,none⟩:Addr).add j)=some u:=by
 intro j u hj
 match j,hj with
 |0,hj=>simp at hj;subst hj;simp[Addr.add]
 |j+1,hj=>simp at hj
def Zdc (w:World)(pb:Nat)(vps bv b1 b2:Value)(commits most:Int)(bn:Nat)(vals:List Value)(lV:Value)(m:Nat)(e:Ending)(w':World):Prop:=
 e=.returned (.tuple #[])∧∃(N:Nat)(ad:Nat→Option Addr)(cp:Nat→Nat)(v:Value),Blk w' N 51 (Vs m ad cp)∧w.heap.size≤N∧
  (∀k,k<4→∀t,t<m+k→∃g,ad k=some ⟨g,0,none⟩∧V7 lV w.heap.size g∧Mk bn w' g t)∧
  Row w' 49 1 v (bn+1) (vals++[.slice (some ⟨N,0,none⟩) 4 4])∧Blk w' pb 34 (ZM vps v b1 b2 commits most)∧
  Za (fun k=>k=pb∨bv.ownBlock=some k∨lV.ownBlock=some k) w w'∧(∀k,v.ownBlock=some k→bv.ownBlock=some k∨w.heap.size≤k)
theorem ZeX (w:World)(pb:Nat)(vps bv b1 b2:Value)(commits most:Int)(bn:Nat)(vals:List Value)(lo:Option Addr)(m lc:Nat)(xs:List Value)(hblk:Blk w pb 34 (ZM vps bv b1 b2 commits most))(hbv:Row w 49 1 bv bn vals)(hbn:(bn+1)*24≤140737488355328)(hl:Row w 55 6 (.slice lo m lc) m xs)(hm:m≤1000000):
 Calls Tryz.prog 42 #[.pointer (some ⟨pb,1,none⟩),.slice lo m lc] w fun e w'=>Zdc w pb vps bv b1 b2 commits most bn vals (.slice lo m lc) m e w':=by
 obtain⟨ba,bc,hbf,_⟩:=hbv.form;subst hbf;have hb:w.cell? ⟨pb,1,none⟩=some (.slice ba bn bc):=hblk.cell 1;have HB:=hid hblk;have HBV:=hid hbv;have HNB:Hid (∀k,(Value.slice lo m lc).ownBlock=some k→k≠pb∧(Value.slice ba bn bc).ownBlock≠some k):=fun k hk=>⟨fun e=>hl.ne_block hblk (by decide) (by rw[←e];exact hk),fun e=>hl.ne_row hbv (by decide) k hk e⟩;have hpl:=hblk.lt;clear hblk hbv;have H0:Hid (∀W,Calls Tryz.prog 19 #[.int .i64 (bn:Int)] W fun e w'=>e=.returned (.agg #[.string mq,.int .i32 0,.int .u64 0,.int .u64 (bn:Int),.bool false,.int .u64 0])∧Za (fun _=>False) W w'):=fun W=>ZbO W bn (by omega);have HL:=hid hl;clear hl;go_enter Tryz.func42,Tryz.ntmps42
 go_wp2_with (go_at_call 19;refine(H0.out _).mono ?_;rintro e w1 ⟨rfl,hk1⟩)
 obtain⟨W,hW⟩:∃W,W=w1.alloc (.cells #[.string mq,.int .i32 0,.int .u64 0,.int .u64 (bn:Int),.bool false,.int .u64 0] 55):=⟨_,rfl⟩;have kW:Za (fun _=>False) w W:=by rw[hW];exact hk1.allocNew _
 have zW:Blk W w1.heap.size 55 (Vq bn):=by rw[hW];exact Blk.new _ _ _
 have hzb:w1.heap.size<W.heap.size:=by rw[hW];simp
 have hws:=hk1.size;rw[←hW];have HKW:=hid kW;have HZW:=hid zW;have hlt:∀k,(Value.slice lo m lc).ownBlock=some k→k<w.heap.size:=HL.out.lt;have HLT:=hid hlt;clear hW kW zW hk1 hlt;generalize w1.heap.size=zb at*
 have HSE:Hid (SE W lo m lc bn zb xs W):=⟨Za.refl _ _,HL.out.kept HKW.out (fun _ _=>id),HZW.out⟩;have HNZ:Hid ((Value.slice lo m lc).ownBlock≠some zb):=fun e=>by have:=HLT.out _ e;omega
 go_cut [5] (fun v wx=>Hid (SE W lo m lc bn zb xs wx∧IsN W lo m lc wx v))
 case first=>
  refine wp_region_any (by kernel_rfl) ?_;refine Zb8 (w0:=W) (lo:=lo) (m:=m) (lc:=lc) (i:=bn) (zb:=zb) (xs:=xs) (fun k hk=>Nat.lt_of_lt_of_le (HLT.out k hk) HKW.out.size) HNZ.out hm rfl rfl rfl rfl ⟨HSE.out.kept.drewN 1,HSE.out.row.same (fun _ _=>rfl),HSE.out.z.same rfl⟩ fun a w' s1 s2 s3 s4 s5=> ?_;obtain⟨tm,df⟩:=a
  try dsimp only at s1 s2 s3 s5
  subst s2;obtain⟨x0,x1,x2,x3,x4,x5,x6,x7,x8,x9,x10,x11,x12,x13,x14,x15,x16,x17,x18,x19,x20,x21,x22,x23,x24,x25,x26,x27,x28,x29,x30,x31,x32,x33,x34,x35,x36,x37,x38,x39,x40,x41,x42,x43,x44,x45,x46,x47,x48,x49,x50,x51,x52,x53,x54,x55,x56,x57,x58,x59,x60,x61,x62,hx⟩:=ZgA s1;subst hx;clear s1;have e0:x0=_:=s3 0 (by omega)
  try dsimp at e0
  subst e0;have e1:x1=_:=s3 1 (by omega)
  try dsimp at e1
  subst e1;have e2:x2=_:=s3 2 (by omega)
  try dsimp at e2
  subst e2;have e3:x3=_:=s3 3 (by omega)
  try dsimp at e3
  subst e3;have e4:x4=_:=s3 4 (by omega)
  try dsimp at e4
  subst e4;have e6:x6=_:=s3 6 (by omega)
  try dsimp at e6
  subst e6;have e7:x7=_:=s3 7 (by omega)
  try dsimp at e7
  subst e7;have e8:x8=_:=s3 8 (by omega)
  try dsimp at e8
  subst e8;have e9:x9=_:=s3 9 (by omega)
  try dsimp at e9
  subst e9;have e10:x10=_:=s3 10 (by omega)
  try dsimp at e10
  subst e10;have e11:x11=_:=s3 11 (by omega)
  try dsimp at e11
  subst e11;have e12:x12=_:=s3 12 (by omega)
  try dsimp at e12
  subst e12;have e13:x13=_:=s3 13 (by omega)
  try dsimp at e13
  subst e13;have e31:x31=_:=s3 31 (by omega)
  try dsimp at e31
  subst e31;have e32:x32=_:=s3 32 (by omega)
  try dsimp at e32
  subst e32;have e33:x33=_:=s3 33 (by omega)
  try dsimp at e33
  subst e33;have e34:x34=_:=s3 34 (by omega)
  try dsimp at e34
  subst e34;have e35:x35=_:=s3 35 (by omega)
  try dsimp at e35
  subst e35;have e36:x36=_:=s3 36 (by omega)
  try dsimp at e36
  subst e36;have e37:x37=_:=s3 37 (by omega)
  try dsimp at e37
  subst e37;have e38:x38=_:=s3 38 (by omega)
  try dsimp at e38
  subst e38;have e39:x39=_:=s3 39 (by omega)
  try dsimp at e39
  subst e39;have e40:x40=_:=s3 40 (by omega)
  try dsimp at e40
  subst e40;have e41:x41=_:=s3 41 (by omega)
  try dsimp at e41
  subst e41;have e42:x42=_:=s3 42 (by omega)
  try dsimp at e42
  subst e42;have e43:x43=_:=s3 43 (by omega)
  try dsimp at e43
  subst e43;have e44:x44=_:=s3 44 (by omega)
  try dsimp at e44
  subst e44;have e45:x45=_:=s3 45 (by omega)
  try dsimp at e45
  subst e45;have e46:x46=_:=s3 46 (by omega)
  try dsimp at e46
  subst e46;have e47:x47=_:=s3 47 (by omega)
  try dsimp at e47
  subst e47;have e48:x48=_:=s3 48 (by omega)
  try dsimp at e48
  subst e48;have e49:x49=_:=s3 49 (by omega)
  try dsimp at e49
  subst e49;have e50:x50=_:=s3 50 (by omega)
  try dsimp at e50
  subst e50;have e51:x51=_:=s3 51 (by omega)
  try dsimp at e51
  subst e51;have e52:x52=_:=s3 52 (by omega)
  try dsimp at e52
  subst e52;have e53:x53=_:=s3 53 (by omega)
  try dsimp at e53
  subst e53;have e54:x54=_:=s3 54 (by omega)
  try dsimp at e54
  subst e54;have e55:x55=_:=s3 55 (by omega)
  try dsimp at e55
  subst e55;have e56:x56=_:=s3 56 (by omega)
  try dsimp at e56
  subst e56;have e57:x57=_:=s3 57 (by omega)
  try dsimp at e57
  subst e57;have e58:x58=_:=s3 58 (by omega)
  try dsimp at e58
  subst e58;have e59:x59=_:=s3 59 (by omega)
  try dsimp at e59
  subst e59;have e60:x60=_:=s3 60 (by omega)
  try dsimp at e60
  subst e60;have e61:x61=_:=s3 61 (by omega)
  try dsimp at e61
  subst e61;have e62:x62=_:=s3 62 (by omega)
  try dsimp at e62
  subst e62;have HS5:Hid (SE W lo m lc bn zb xs w'∧IsN W lo m lc w' x5):=⟨s4,s5⟩;clear s3 s4 s5;go_wp2
  go_meet
  case rel=>exact HS5
 case rest=>
  obtain⟨hS,hN⟩:=hcut.out;obtain⟨N,ad,cp,e5,hNs,hNb,hF,_⟩:=Zkl hS hN HNZ.out hzb;subst e5;have hown:∀b,ZeA ad m b→V7 (.slice lo m lc) W.heap.size b∧b≠zb∧b≠N:=by
   rintro b ⟨k,hk,h0,e⟩;obtain⟨g,h1,h2,h3,c,h4,_⟩:=hF.room k hk h0;rw[e]at h1;injection h1 with h1;injection h1 with h1 _ _;subst h1;refine⟨h2,h3,fun e=> ?_⟩;subst e;exact absurd (h4.type hNb).1 (by decide)
  have HOV:Hid (Zbc W.heap.size wc wc (.slice lo m lc) N zb m bn ad cp 0 0):=⟨Za.refl _ _,hF,hown,hNb,hS.z,fun k _ t _ hd=>by omega⟩;have HSC:=hid hS;clear hS hN hNb hF hown hcut;go_wp2
  go_loopw [6] (fun k wr=>∃q:Nat,q≤4∧k=.int .i64 q∧Hid (Zbc W.heap.size wc wr (.slice lo m lc) N zb m bn ad cp q 0)) (fun k _=>4-(intOf k).toNat)
  case atStart=>exact⟨0,by omega,rfl,HOV⟩
  case round=>
   obtain⟨q,hq,rfl,HO⟩:=hrel;by_cases hq4:q<4
   · have hq0:(0:Int)≤(q:Int):=by omega
     have hq1:(q:Int)<4:=by omega
     go_wp2
     go_loopw [7] (fun j wy=>∃t:Nat,t≤m+q∧j=.int .i64 t∧Hid (Zbc W.heap.size wc wy (.slice lo m lc) N zb m bn ad cp q t)) (fun j _=>m+q-(intOf j).toNat)
     case atStart=>exact⟨0,Nat.zero_le _,rfl,HO⟩
     case round=>
      obtain⟨t,ht,rfl,HO2⟩:=hrel;have nq:wr.cell? ⟨N,q,none⟩=some (.slice (ad q) (m+q) (cp q)):=by rw[HO2.out.nb.cell];exact Zag m ad cp q hq4
      by_cases htm:t<m+q
      · obtain⟨g,hg,_,hgz,c,hbc,hcs⟩:=HO2.out.four.room q hq4 (by omega);have hcs':(t+1)*6≤c.size:=Nat.le_trans (Nat.mul_le_mul_right 6 htm) hcs;have c0:wr.cell? ⟨g,t*6,none⟩=some c[t*6]:=by rw[hbc.cell];exact Array.getElem?_eq_getElem (by omega)
        have c1:wr.cell? ⟨g,t*6+1,none⟩=some c[t*6+1]:=by rw[hbc.cell];exact Array.getElem?_eq_getElem (by omega)
        have c2:wr.cell? ⟨g,t*6+2,none⟩=some c[t*6+2]:=by rw[hbc.cell];exact Array.getElem?_eq_getElem (by omega)
        have c3:wr.cell? ⟨g,t*6+3,none⟩=some c[t*6+3]:=by rw[hbc.cell];exact Array.getElem?_eq_getElem (by omega)
        have c4:wr.cell? ⟨g,t*6+4,none⟩=some c[t*6+4]:=by rw[hbc.cell];exact Array.getElem?_eq_getElem (by omega)
        have c5:wr.cell? ⟨g,t*6+5,none⟩=some c[t*6+5]:=by rw[hbc.cell];exact Array.getElem?_eq_getElem (by omega)
        generalize c[t*6]=y0 at c0;generalize c[t*6+1]=y1 at c1;generalize c[t*6+2]=y2 at c2;generalize c[t*6+3]=y3 at c3;generalize c[t*6+4]=y4 at c4;generalize c[t*6+5]=y5 at c5;have f0:=hbc.free (t*6);have f1:=hbc.free (t*6+1);have f2:=hbc.free (t*6+2);have f3:=hbc.free (t*6+3);have f4:=hbc.free (t*6+4);have f5:=hbc.free (t*6+5);have z0:wr.cell? ⟨zb,0,none⟩=some (.string mq):=HO2.out.z.cell 0;have z1:wr.cell? ⟨zb,1,none⟩=some (.int .i32 0):=HO2.out.z.cell 1;have z2:wr.cell? ⟨zb,2,none⟩=some (.int .u64 0):=HO2.out.z.cell 2;have z3:wr.cell? ⟨zb,3,none⟩=some (.int .u64 (bn:Int)):=HO2.out.z.cell 3;have z4:wr.cell? ⟨zb,4,none⟩=some (.bool false):=HO2.out.z.cell 4;have z5:wr.cell? ⟨zb,5,none⟩=some (.int .u64 0):=HO2.out.z.cell 5;have HNX:Hid (Zbc W.heap.size wc (st6 wr g (t*6) (.string mq) (.int .i32 0) (.int .u64 0) (.int .u64 (bn:Int)) (.bool false) (.int .u64 0)).drew (.slice lo m lc) N zb m bn ad cp q (t+1)):=HO2.out.step hq4 htm hg hbc hcs;rw[hg]at nq;have ht0:(0:Int)≤(t:Int):=by omega
        have ht1:(t:Int)<((m+q:Nat):Int):=by omega
        have hgN:g≠N:=(HO2.out.own g ⟨q,hq4,by omega,hg⟩).2.2;have hNg:N≠g:=Ne.symm hgN;have hzg:zb≠g:=Ne.symm hgz;clear hbc hcs hcs' hg
        go_wp2_with fail
        go_region_held3 (fun w'=>w'.cell? ⟨N,q,none⟩=some (.slice (some ⟨g,0,none⟩) (m+q) (cp q))∧w'.cell? ⟨zb,0,none⟩=some (.string mq)∧w'.cell? ⟨zb,1,none⟩=some (.int .i32 0)∧w'.cell? ⟨zb,2,none⟩=some (.int .u64 0)∧w'.cell? ⟨zb,3,none⟩=some (.int .u64 (bn:Int))∧w'.cell? ⟨zb,4,none⟩=some (.bool false)∧w'.cell? ⟨zb,5,none⟩=some (.int .u64 0)) (go_keep) (fail)
        all_goals
         go_wp2
         go_roundw
         case rel=>exact⟨t+1,by omega,by go_num,HNX⟩
         case measure=>simp[intOf];omega
      · have htt:t=m+q:=by omega
        subst htt;go_wp2
        go_roundw
        case rel=>exact⟨q+1,by omega,by go_num,HO2.out.turn⟩
        case measure=>simp[intOf];omega
   · have hqq:q=4:=by omega
     subst hqq;have hkw:Za (fun k=>(Value.slice lo m lc).ownBlock=some k) w wr:=by
      have k1:Za (fun k=>(Value.slice lo m lc).ownBlock=some k) w wc:=HKW.out.trans HSC.out.kept (fun _=>False.elim) (fun _ _=>id);refine k1.trans HO.out.kept (fun _=>id) (fun k hk hf=> ?_);rcases(HO.out.own k hf).1 with h1|h1
      · exact h1
      · have:=HKW.out.size;omega
     have hBr:Blk wr pb 34 (ZM vps (.slice ba bn bc) b1 b2 commits most):=HB.out.kept hkw fun e=>(HNB.out _ e).1 rfl;have hVr:Row wr 49 1 (.slice ba bn bc) bn vals:=HBV.out.kept hkw fun j hj e=>(HNB.out _ e).2 hj;have HKR:=hid hkw;have HBR:=hid hBr;have HVR:=hid hVr;have cb:wr.cell? ⟨pb,1,none⟩=some (.slice ba bn bc):=hBr.cell 1;have hpr:=hBr.lt;obtain⟨i0,hi,hz0,hz1,hz2⟩:=info_parts Tryz.infoNotes;have HI:Hid (Tryz.prog.info? 49=some i0∧i0.zero=some (.slice none 0 0)∧i0.size=1∧i0.bytes=24):=⟨hi,hz0,hz1,hz2⟩;have HROW:Hid (∀o,Row (wr.alloc o) 49 1 (.slice ba bn bc) bn vals):=fun o=>hVr.kept (Za.alloc wr o (fun _=>False)) (fun _ _=>id);have HFIN:Hid (∀(o:Obj)(w3:World)(v:Value),Zc (wr.alloc o) w3 49 1 (.slice ba bn bc) v bn 1 vals [.slice (some ⟨N,0,none⟩) 4 4]→w3.cell? ⟨pb,1,none⟩=some (.slice ba bn bc)∧w3.frozen? ⟨pb,1,none⟩=false∧Zdc w pb vps (.slice ba bn bc) b1 b2 commits most bn vals (.slice lo m lc) m (.returned (.tuple #[])) (w3.setCell ⟨pb,1,none⟩ v)):=by
      intro o w3 v hA;have hA:=hA.of_alloc;have b3:Blk w3 pb 34 (ZM vps (.slice ba bn bc) b1 b2 commits most):=hBr.kept hA.kept fun e=>hVr.ne_block hBr (by decide) e;have n3:Blk w3 N 51 (Vs m ad cp):=HO.out.nb.kept hA.kept fun e=>hVr.ne_block HO.out.nb (by decide) e;have kS:=Za.setCell w3 ⟨pb,1,none⟩ v;have hsz:=HKW.out.size;refine⟨b3.cell 1,b3.free 1,rfl,N,ad,cp,v,n3.kept kS (fun e=> ?_),by omega,fun k hk t ht=> ?_,hA.row.kept kS (fun j hj e=> ?_),b3.set 1 v,(hkw.trans hA.kept (H:=fun k=>k=pb∨(Value.slice ba bn bc).ownBlock=some k∨(Value.slice lo m lc).ownBlock=some k) (fun _ h=>.inr (.inr h)) (fun _ _ h=>.inr (.inl h))).trans kS (fun _=>id) (fun _ _ h=>.inl h),fun k hk=> ?_⟩
      · simp at e;subst e;omega
      · obtain⟨g,e1,c,hbg,hcg⟩:=HO.out.done k hk t ht (.inl hk);obtain⟨o1,_,_⟩:=HO.out.own g ⟨k,hk,by omega,e1⟩;refine⟨g,e1,o1.imp id (fun h=>by omega),c,(hbg.kept hA.kept fun e=>hVr.ne_block hbg (by decide) e).kept kS (fun e=> ?_),hcg⟩;simp at e;subst e;exact absurd (hBr.type hbg).1 (by decide)
      · simp at e;subst e;exact Row.ne_block hA.row b3 (by decide) hj
      · rcases hA.own with h1|h1
        · left;rw[←h1];exact hk
        · right;have:=h1 k hk;have:=hkw.size;omega
     have bb1:bn+1≤maxLen:=by unfold maxLen;omega
     clear hi hz0 hz1 hz2 hkw hBr hVr
     go_wp2_with (at_builtin;go_must (refine Zf _ rfl (.tmp 57) (.tmp 59) 28 rfl 49 i0 (.slice none 0 0) 1 24 Tryz.underlying28 HI.out.1 HI.out.2.1 HI.out.2.2.1 HI.out.2.2.2 rfl (by decide) (.slice ba bn bc) bn vals rfl (HROW.out _) ⟨wr.heap.size,0,none⟩ 1 1 [.slice (some ⟨N,0,none⟩) 4 4] rfl rfl (cell_one_new wr _ _) (Vy _ _ _) bb1 hbn ?_);intro v' w3 hA;obtain⟨r0,r1,r2⟩:=HFIN.out _ _ _ hA;have HDONE:Hid (Zdc w pb vps (.slice ba bn bc) b1 b2 commits most bn vals (.slice lo m lc) m (.returned (.tuple #[])) (w3.setCell ⟨pb,1,none⟩ v')):=r2;clear r2;obtain⟨ao',cap',hv',_⟩:=hA.row.form;clear hA;subst hv')
     go_end0
     exact HDONE.out
structure ZV where
 N:Nat
 m:Nat
 ad:Nat→Option Addr
 cp:Nat→Nat
def Xs (e:ZV):Value:=.slice (some ⟨e.N,0,none⟩) 4 4
structure ZiJ (w:World)(i:Nat)(e:ZV):Prop where
 blk:Blk w e.N 51 (Vs e.m e.ad e.cp)
 mark:∀k,k<4→∀t,t<e.m+k→∃g,e.ad k=some ⟨g,0,none⟩∧Mk i w g t
 small:e.m≤1000
def XX (bv:Value)(notes:List ZV)(b:Nat):Prop:=bv.ownBlock=some b∨∃e∈notes,b=e.N∨∃k,k<4∧0<e.m+k∧e.ad k=some ⟨b,0,none⟩
theorem ZdN (w:World)(ao:Option Addr)(cap i:Nat):
 Calls Tryz.prog 18 #[.slice ao 0 cap,.agg #[.string mq,.int .i32 0,.int .u64 0,.int .u64 (i:Int),.bool false,.int .u64 0]] w fun e w'=>e=.returned (.bool true)∧Za (fun _=>False) w w':=by
 go_enter Tryz.func18,Tryz.ntmps18;go_wp2;refine wp_loop_rounds 1 ?_;rw[rounds_succ];go_wp2;go_ret;exact⟨rfl,Za.alloc _ _ _⟩
theorem ZdS {w:World}{i k:Nat}{e:ZV}(h:ZiJ w i e)(hk:k<4):
 Calls Tryz.prog 18 #[.slice (e.ad k) (e.m+k) (e.cp k),.agg #[.string mq,.int .i32 0,.int .u64 0,.int .u64 (i:Int),.bool false,.int .u64 0]] w fun e w'=>e=.returned (.bool true)∧Za (fun _=>False) w w':=by
 by_cases h0:0<e.m+k
 · obtain⟨g,e1,c,hb,_⟩:=h.mark k hk 0 h0;rw[e1];have hsm:=h.small;refine(Zkj w g (e.m+k) (e.cp k) i mq (by omega) (fun t ht=> ?_) (.inr hb.lt)).mono fun _ _ hp=>⟨hp.1,Za.of_below hp.2 _⟩;obtain⟨g',e2,c',hb',hc'⟩:=h.mark k hk t ht;rw[e1]at e2;injection e2 with e2;injection e2 with e2 _ _;subst e2;have:=hc' 0 (by omega);rw[Nat.add_zero]at this;refine⟨by rw[hb'.cell,this];rfl,by rw[hb'.cell,hc' 1 (by omega)];rfl,by rw[hb'.cell,hc' 2 (by omega)];rfl,by rw[hb'.cell,hc' 3 (by omega)];rfl,by rw[hb'.cell,hc' 4 (by omega)];rfl,by rw[hb'.cell,hc' 5 (by omega)];rfl⟩
 · have:e.m+k=0:=by omega
   rw[this];exact ZdN w _ _ i
def X7 (w:World)(pb:Nat)(vps bv b1 b2:Value)(commits most:Int)(bn:Nat)(vals:List Value)(m:Nat)(w':World):Prop:=
 ∃(N:Nat)(ad:Nat→Option Addr)(cp:Nat→Nat)(v:Value),Blk w' N 51 (Vs m ad cp)∧w.heap.size≤N∧
  (∀k,k<4→∀t,t<m+k→∃g,ad k=some ⟨g,0,none⟩∧w.heap.size≤g∧Mk bn w' g t)∧
  Row w' 49 1 v (bn+1) (vals++[.slice (some ⟨N,0,none⟩) 4 4])∧Blk w' pb 34 (ZM vps v b1 b2 commits most)∧
  Za (fun k=>k=pb∨bv.ownBlock=some k) w w'∧(∀k,v.ownBlock=some k→bv.ownBlock=some k∨w.heap.size≤k)
theorem ZhT {w w1 w2 w3:World}{pb:Nat}{vps bv b1 b2:Value}{commits most:Int}{bn:Nat}{vals:List Value}{m:Nat}{lV:Value}{e:Ending}(k1:Za (fun _=>False) w w1)(k2:Za (fun _=>False) w1 w2)(hl:∀k,lV.ownBlock=some k→w.heap.size≤k)(h:Zdc w2 pb vps bv b1 b2 commits most bn vals lV m e w3):X7 w pb vps bv b1 b2 commits most bn vals m w3:=by
 obtain⟨_,N,ad,cp,v,hN,hs,hm,hr,hb,hk,hv⟩:=h;have s1:=k1.size;have s2:=k2.size;refine⟨N,ad,cp,v,hN,by omega,fun k hk t ht=> ?_,hr,hb,?_,fun k hk=>(hv k hk).imp id (fun h=>by omega)⟩
 · obtain⟨g,e1,o1,m1⟩:=hm k hk t ht;refine⟨g,e1,?_,m1⟩;rcases o1 with h1|h1
   · exact hl g h1
   · omega
 · refine(k1.trans k2 (H:=fun _=>False) (fun _=>id) (fun _ _=>id)).trans hk (fun _=>False.elim) (fun k hk hf=> ?_);rcases hf with h1|h1|h1
   · exact .inl h1
   · exact .inr h1
   · have:=hl k h1;omega
theorem Zhb (w:World)(pb xb cb:Nat)(a b c:Int)(s:ByteArray)(ao:Option Addr)(n cap:Nat)(D:Ze)(R:Zd)(vps bv b1 b2:Value)(commits most:Int)(bn:Nat)(vals:List Value)(h:ZP w xb cb D R)(hblk:Blk w pb 34 (ZM vps bv b1 b2 commits most))(hbv:Row w 49 1 bv bn vals)(hbn:(bn+1)*24≤140737488355328):
 Calls Tryz.prog 16 #[.pointer (some ⟨pb,0,none⟩),.agg #[.pointer (some ⟨xb,0,none⟩),.pointer (some ⟨cb,0,none⟩)],.agg #[.int .i64 8,.int .i64 a,.int .i64 b,.int .i64 c,.string s,.slice ao n cap]] w fun e w'=>e=.returned (.bool true)∧Hid (X7 w pb vps bv b1 b2 commits most bn vals D.puts.length w'):=by
 have hk:=ZW w xb cb 8 a b c s (.slice ao n cap);have hq:=h.dfit.qmax;have hsz:=ZaF w xb cb 8 a b c s (.slice ao n cap);obtain⟨ap,cpp,hvu,_⟩:=h.ref.puts.form;have H0:Hid (Calls Tryz.prog 40 #[.pointer (some ⟨xb,0,none⟩)] (Zz w xb cb 8 a b c s (.slice ao n cap)) fun e w1=>∃lo lc,e=.returned (.slice lo D.puts.length lc)∧w1.cell? ⟨w.heap.size,1,none⟩=some (.pointer (some ⟨cb,0,none⟩))∧w1.cell? ⟨cb,5,none⟩=some (.slice ap R.puts.length cpp)∧Hid (Row w1 55 6 (.slice lo D.puts.length lc) D.puts.length (D.puts.flatMap Zk)∧Za (fun _=>False) w w1∧∀k,(Value.slice lo D.puts.length lc).ownBlock=some k→w.heap.size≤k)):=by
  refine(dputs _ xb D (h.kept hk fun _ _=>id).dev h.dfit).mono fun e w1 hp=> ?_;obtain⟨v,e1,r1,r2,r3⟩:=hp;obtain⟨lo,lc,hv,_⟩:=r1.form;subst e1 hv;have hkk:Za (fun _=>False) w w1:=hk.trans r2 (fun _=>id) (fun _ _=>id);refine⟨lo,lc,rfl,YD r2 (fun _=>False.elim),by rw[←hvu];exact hkk.keep id h.ref.c5,r1,hkk,fun k hk=> ?_⟩;have:=r3 k hk;omega
 have H1:Hid (∀W lo lc,Row W 55 6 (.slice lo D.puts.length lc) D.puts.length (D.puts.flatMap Zk)→Za (fun _=>False) w W→Calls Tryz.prog 41 #[.slice lo D.puts.length lc,.slice ap R.puts.length cpp] W fun e w'=>e=.returned (.bool true)∧Hid (Za (fun _=>False) W w')):=by
  intro W lo lc hr hW;have hp2:=h.ref.puts.kept hW (fun _ _=>id);rw[hvu,h.sim.puts]at hp2;rw[h.sim.puts];exact(ZaW W _ _ D.puts (by omega) hr hp2).mono fun e w' hp=>⟨hp.1,Za.of_below hp.2 _⟩
 have H2:Hid (∀W lo lc,Row W 55 6 (.slice lo D.puts.length lc) D.puts.length (D.puts.flatMap Zk)→Za (fun _=>False) w W→Calls Tryz.prog 42 #[.pointer (some ⟨pb,1,none⟩),.slice lo D.puts.length lc] W fun e w'=>e=.returned (.tuple #[])∧Hid (Zdc W pb vps bv b1 b2 commits most bn vals (.slice lo D.puts.length lc) D.puts.length (.returned (.tuple #[])) w')):=by
  intro W lo lc hr hW;refine(ZeX W pb vps bv b1 b2 commits most bn vals lo D.puts.length lc _ (hblk.kept hW id) (hbv.kept hW fun _ _=>id) hbn hr (by omega)).mono fun e w' hp=> ?_;have e1:=hp.1;subst e1;exact⟨rfl,hp⟩
 have hpl:=hblk.lt;clear h hblk hbv hk hvu hsz;go_enter Tryz.func16,Tryz.ntmps16
 go_wp2_with first
  |(go_at_call 40;refine H0.out.mono ?_;rintro e w1 ⟨lo,lc,rfl,q1,q2,HR⟩)
  |(go_at_call 41;refine(H1.out _ lo lc HR.out.1 HR.out.2.1).mono ?_;rintro e w2 ⟨rfl,HK2⟩)
  |(go_at_call 42;refine(H2.out _ lo lc (HR.out.1.kept HK2.out (fun _ _=>id)) (HR.out.2.1.trans HK2.out (fun _=>id) (fun _ _=>id))).mono ?_;rintro e w3 ⟨rfl,HE3⟩)
 go_ret;exact⟨rfl,ZhT HR.out.2.1 HK2.out HR.out.2.2 HE3.out⟩
theorem VZ {B:Nat}{X:Nat→Prop}{w0 w:World}{pb:Nat}{ps:List Z7}{vps b0 b1 b2:Value}{commits most:Int}(h:Inv B X w0 w pb ps vps b0 b1 b2 commits most)(kd a b c:Int)(s:ByteArray)(ao:Option Addr)(n cap:Nat)(hps:0<ps.length)(hpm:ps.length≤4611686018427387904)(h2:8≤kd)(h12:kd≤12)(ha0: -9223372036854775808≤a)(ha1:a≤9223372036854775807)(Q:World→Prop)
 (hrd:∀(W:World)(i:Nat)(p:Z7),ps[i]?=some p→Za (fun _=>False) w W→Calls Tryz.prog 16 #[.pointer (some ⟨pb,0,none⟩),.agg #[.pointer (some ⟨p.xb,0,none⟩),.pointer (some ⟨p.cb,0,none⟩)],.agg #[.int .i64 kd,.int .i64 a,.int .i64 b,.int .i64 c,.string s,.slice ao n cap]] W fun e w'=>e=.returned (.bool true)∧Hid (Q w')):
 Calls Tryz.prog 9 #[.pointer (some ⟨pb,0,none⟩),.agg #[.int .i64 kd,.int .i64 a,.int .i64 b,.int .i64 c,.string s,.slice ao n cap]] w fun e w'=>e=.returned (.bool true)∧Q w':=by
 have hk1:(kd==1)=false:=beq_eq_false_iff_ne.mpr (by omega);have hk2:(kd==2)=false:=beq_eq_false_iff_ne.mpr (by omega);have hk19:(kd==19)=false:=beq_eq_false_iff_ne.mpr (by omega);obtain⟨g,cv,hv,hog,hgl⟩:=h.row.block hps;have c0:w.cell? ⟨pb,0,none⟩=some vps:=h.blk.cell 0;rw[hv]at c0;have hpl:=h.blk.lt;obtain⟨m,hm⟩:∃m,m=ps.length:=⟨_,rfl⟩;obtain⟨j,hj⟩:∃j,j=pickN a m:=⟨_,rfl⟩;have hjm:j<m:=by rw[hj];exact ZaL a (by omega)
 have HPK:Hid (∀W,Calls Tryz.prog 13 #[.int .i64 a,.int .i64 m] W fun e w'=>e=.returned (.int .i64 (j:Int))∧W=w'):=fun W=>by rw[hj];exact ZgX W a m ha0 ha1 (by omega) (by omega)
 have hjp:j<ps.length:=by omega
 obtain⟨p,hp⟩:∃p,p=ps[j]:=⟨_,rfl⟩;have hget:ps[j]?=some p:=by rw[hp];exact List.getElem?_eq_getElem hjp
 have q0:=h.row.cell hog (j*2) _ (by have:=Vo ps j hjp 0 (by omega);rw[Nat.add_zero]at this;rw[this];rfl);have q1:=h.row.cell hog (j*2+1) _ (by rw[Vo ps j hjp 1 (by omega)];rfl);rw[←hp]at q0 q1;rw[←hm]at c0;have hmz:((m:Int)==0)=false:=beq_eq_false_iff_ne.mpr (by omega);have HRD:Hid (∀W,Za (fun _=>False) w W→Calls Tryz.prog 16 #[.pointer (some ⟨pb,0,none⟩),.agg #[.pointer (some ⟨p.xb,0,none⟩),.pointer (some ⟨p.cb,0,none⟩)],.agg #[.int .i64 kd,.int .i64 a,.int .i64 b,.int .i64 c,.string s,.slice ao n cap]] W fun e w'=>e=.returned (.bool true)∧Hid (Q w')):=
  fun W hk=>hrd W j p hget hk
 have hm1:m≤4611686018427387904:=by omega
 have hm0:0<m:=by omega
 generalize p.xb=xb at*
 generalize p.cb=cb at*
 clear hrd h hv hog hj hp hget hm hps hpm hjp;go_enter Tryz.func9,Tryz.ntmps9
 go_wp2_with fail
 go_cut [5] (fun pp wx=>pp=.pointer (some ⟨w.heap.size+1,0,none⟩)∧Hid (Za (fun _=>False) w wx∧Blk wx w.heap.size 37 #[.int .i64 kd,.int .i64 a,.int .i64 b,.int .i64 c,.string s,.slice ao n cap]∧Blk wx (w.heap.size+1) 44 #[.pointer (some ⟨xb,0,none⟩),.pointer (some ⟨cb,0,none⟩)]))
 case first=>
  go_region_held3 (fun w'=>w'.cell? ⟨pb,0,none⟩=some (.slice (some ⟨g,0,none⟩) m cv)∧w'.cell? ⟨w.heap.size,1,none⟩=some (.int .i64 a)∧w'.cell? ⟨g,j*2,none⟩=some (.pointer (some ⟨xb,0,none⟩))∧w'.cell? ⟨g,j*2+1,none⟩=some (.pointer (some ⟨cb,0,none⟩))) (go_keep) ((go_at_call 13;refine(HPK.out _).mono ?_;rintro e w' ⟨rfl,rfl⟩))
  all_goals
   go_wp2
   go_meet
   case rel=>exact⟨rfl,((Za.alloc w _ (fun _=>False)).allocNew _).drew,Zam w _ _ _ _ _ rfl⟩
 case rest=>
  obtain⟨rfl,HC⟩:=hcut;have d0:wc.cell? ⟨w.heap.size,0,none⟩=some (.int .i64 kd):=HC.out.2.1.cell 0;have d1:wc.cell? ⟨w.heap.size,1,none⟩=some (.int .i64 a):=HC.out.2.1.cell 1;have d2:wc.cell? ⟨w.heap.size,2,none⟩=some (.int .i64 b):=HC.out.2.1.cell 2;have d3:wc.cell? ⟨w.heap.size,3,none⟩=some (.int .i64 c):=HC.out.2.1.cell 3;have d4:wc.cell? ⟨w.heap.size,4,none⟩=some (.string s):=HC.out.2.1.cell 4;have d5:wc.cell? ⟨w.heap.size,5,none⟩=some (.slice ao n cap):=HC.out.2.1.cell 5;have e0:wc.cell? ⟨w.heap.size+1,0,none⟩=some (.pointer (some ⟨xb,0,none⟩)):=HC.out.2.2.cell 0;have e1:wc.cell? ⟨w.heap.size+1,1,none⟩=some (.pointer (some ⟨cb,0,none⟩)):=HC.out.2.2.cell 1;have hk7:decide (kd≤7)=false:=decide_eq_false (by omega);clear c0 q0 q1
  go_wp2_with (go_at_call 16;refine(HRD.out _ HC.out.1).mono ?_;rintro e w1 ⟨rfl,hs⟩)
  go_ret;exact⟨rfl,hs.out⟩
structure YE where
 te:TypeId
 tl:TypeId
 tn:TypeId
 sz:Nat
 mark:Nat→Array Value
structure YE.Ok (S:YE):Prop where
 ne:S.tn≠S.te
 nl:S.tn≠S.tl
 np:S.tn≠34
 ep:S.te≠34
 lp:S.tl≠34
def MkG (S:YE)(i:Nat)(W:World)(g j:Nat):Prop:=∃c,Blk W g S.te c∧∀f,f<S.sz→c[j*S.sz+f]?=(S.mark i)[f]?
def YF (e:ZV)(b:Nat):Prop:=∃k,k<4∧0<e.m+k∧e.ad k=some ⟨b,0,none⟩
structure Vp (S:YE)(w:World)(i:Nat)(e:ZV):Prop where
 blk:Blk w e.N S.tl (Vs e.m e.ad e.cp)
 mark:∀k,k<4→∀t,t<e.m+k→∃g,e.ad k=some ⟨g,0,none⟩∧MkG S i w g t
 small:e.m≤1000
structure Yi (S:YE)(w:World)(bv:Value)(notes:List ZV):Prop where
 row:Row w S.tn 1 bv notes.length (notes.map Xs)
 each:∀i (h:i<notes.length),Vp S w i notes[i]
 apart:∀i j (hi:i<notes.length)(hj:j<notes.length),i≠j→∀b,YF notes[i] b→¬YF notes[j] b
theorem MkG.same {S:YE}{i:Nat}{W W':World}{g j:Nat}(h:MkG S i W g j)(hs:W'.heap[g]?=W.heap[g]?):MkG S i W' g j:=by
 obtain⟨c,hb,hc⟩:=h;exact⟨c,hb.same hs,hc⟩
theorem Vp.same {S:YE}{w w':World}{i:Nat}{e:ZV}(h:Vp S w i e)(hs:∀b,(b=e.N∨YF e b)→w'.heap[b]?=w.heap[b]?):Vp S w' i e:=by
 refine⟨h.blk.same (hs _ (.inl rfl)),fun k hk t ht=> ?_,h.small⟩;obtain⟨g,e1,e2⟩:=h.mark k hk t ht;exact⟨g,e1,e2.same (hs g (.inr ⟨k,hk,by omega,e1⟩))⟩
theorem Vp.elem {S:YE}{w:World}{i:Nat}{e:ZV}(h:Vp S w i e){b:Nat}(hb:YF e b):∃c,Blk w b S.te c:=by
 obtain⟨k,hk,h0,e1⟩:=hb;obtain⟨g,e2,c,hc,_⟩:=h.mark k hk 0 h0;rw[e1]at e2;injection e2 with e2;injection e2 with e2 _ _;subst e2;exact⟨c,hc⟩
theorem Yi.lt {S:YE}{w:World}{bv:Value}{notes:List ZV}(h:Yi S w bv notes):∀b,XX bv notes b→b<w.heap.size:=by
 rintro b (hb|⟨e,he,hb⟩)
 · exact h.row.lt b hb
 · obtain⟨i,hi,rfl⟩:=List.getElem_of_mem he;rcases hb with rfl|hb
   · exact(h.each i hi).blk.lt
   · obtain⟨c,hc⟩:=(h.each i hi).elem hb;exact hc.lt
theorem Yi.same {S:YE}{w w':World}{bv:Value}{notes:List ZV}(h:Yi S w bv notes)(hs:∀b,XX bv notes b→w'.heap[b]?=w.heap[b]?):Yi S w' bv notes:=
 ⟨h.row.same fun b hb=>hs b (.inl hb),fun i hi=>(h.each i hi).same fun b hb=>hs b (.inr ⟨_,List.getElem_mem hi,hb⟩),h.apart⟩
theorem Yi.kept {S:YE}{w w':World}{bv:Value}{notes:List ZV}{F:Nat→Prop}(h:Yi S w bv notes)(k:Za F w w')(hF:∀b,XX bv notes b→¬F b):Yi S w' bv notes:=h.same fun b hb=>k.block b (h.lt b hb) (hF b hb)
theorem Yi.nil (S:YE)(w:World):Yi S w ZH []:=⟨Row.nil _ _ _,fun i hi=>by simp at hi,fun i j hi=>by simp at hi⟩
theorem Yi.type {S:YE}{w:World}{bv:Value}{notes:List ZV}(h:Yi S w bv notes){b:Nat}(hb:XX bv notes b):∃T c,Blk w b T c∧(T=S.te∨T=S.tl∨T=S.tn):=by
 rcases hb with hb|⟨e,he,hb⟩
 · rcases h.row.shape with⟨rfl,_,_⟩|⟨g,cap,cur,rfl,hb',_⟩
   · simp[Value.ownBlock]at hb
   · simp[Value.ownBlock]at hb;subst hb;exact⟨_,_,hb',.inr (.inr rfl)⟩
 · obtain⟨i,hi,rfl⟩:=List.getElem_of_mem he;rcases hb with rfl|hb
   · exact⟨_,_,(h.each i hi).blk,.inr (.inl rfl)⟩
   · obtain⟨c,hc⟩:=(h.each i hi).elem hb;exact⟨_,c,hc,.inl rfl⟩
def YM (S:YE)(pl:Value→Array Value)(w:World)(pb:Nat)(bv:Value)(bn:Nat)(vals:List Value)(lV:Value)(m:Nat)(v:Value)(w':World):Prop:=
 ∃(N:Nat)(ad:Nat→Option Addr)(cp:Nat→Nat),Blk w' N S.tl (Vs m ad cp)∧w.heap.size≤N∧
  (∀k,k<4→∀t,t<m+k→∃g,ad k=some ⟨g,0,none⟩∧V7 lV w.heap.size g∧MkG S bn w' g t)∧
  Row w' S.tn 1 v (bn+1) (vals++[.slice (some ⟨N,0,none⟩) 4 4])∧Blk w' pb 34 (pl v)∧
  Za (fun k=>k=pb∨bv.ownBlock=some k∨lV.ownBlock=some k) w w'∧(∀k,v.ownBlock=some k→bv.ownBlock=some k∨w.heap.size≤k)
theorem YM.kept {S:YE}{pl:Value→Array Value}{w w':World}{pb bn m:Nat}{bv lV v:Value}{vals:List Value}(h:YM S pl w pb bv bn vals lV m v w'):Za (fun k=>k=pb∨bv.ownBlock=some k∨lV.ownBlock=some k) w w':=by
 obtain⟨_,_,_,_,_,_,_,_,h,_⟩:=h;exact h
theorem YM.blk {S:YE}{pl:Value→Array Value}{w w':World}{pb bn m:Nat}{bv lV v:Value}{vals:List Value}(h:YM S pl w pb bv bn vals lV m v w'):Blk w' pb 34 (pl v):=by
 obtain⟨_,_,_,_,_,_,_,h,_⟩:=h;exact h
theorem Yi.note {S:YE}(hS:S.Ok){pl:Value→Array Value}{B:Nat}{w w':World}{pb:Nat}{bv lV v:Value}{notes:List ZV}{m:Nat}{c0:Array Value}(hok:Yi S w bv notes)(hlow:∀k,XX bv notes k→k<B)(hB:B≤w.heap.size)(hl:∀k,lV.ownBlock=some k→B≤k)(hpb:Blk w pb 34 c0)(hm:m≤1000)(hp:YM S pl w pb bv notes.length (notes.map Xs) lV m v w'):
 ∃notes',Yi S w' v notes'∧notes'.length=notes.length+1∧(∀k,XX v notes' k→XX bv notes k∨B≤k):=by
 obtain⟨N,ad,cp,hN,hs,hmk,hr,hb,hk,hv⟩:=hp;have hnew:∀b,YF ⟨N,m,ad,cp⟩ b→B≤b:=by
  rintro b ⟨q,hq,h0,e1⟩;obtain⟨g,e2,o2,_⟩:=hmk q hq 0 h0;have e1':ad q=some ⟨b,0,none⟩:=e1;rw[e1']at e2;injection e2 with e2;injection e2 with e2 _ _;subst e2;rcases o2 with o2|o2
  · exact hl _ o2
  · omega
 have hX':∀k,XX v (notes++[⟨N,m,ad,cp⟩]) k→XX bv notes k∨B≤k:=by
  rintro k (h1|⟨e,he,h1⟩)
  · exact(hv k h1).imp .inl (fun h=>by omega)
  · rw[List.mem_append]at he;rcases he with he|he
    · exact .inl (.inr ⟨e,he,h1⟩)
    · simp at he;subst he;rcases h1 with rfl|h1
      · exact .inr (Nat.le_trans hB hs)
      · exact .inr (hnew k h1)
 have hold:∀i (hi:i<notes.length),∀b,YF notes[i] b→b<B:=fun i hi b hb=>hlow b (.inr ⟨_,List.getElem_mem hi,.inr hb⟩);refine⟨notes++[⟨N,m,ad,cp⟩],⟨by rw[List.length_append,List.map_append];exact hr,fun i hi=> ?_,fun i j hi hj hij b hbi hbj=> ?_⟩,by simp,hX'⟩
 · by_cases hlt:i<notes.length
   · rw[List.getElem_append_left hlt];refine(hok.each i hlt).same fun b hb'=> ?_;have hXb:XX bv notes b:=.inr ⟨_,List.getElem_mem hlt,hb'⟩;refine hk.block b (hok.lt b hXb) ?_;rintro(rfl|h1|h1)
     · rcases hb' with e|hb'
       · exact hS.lp ((hok.each i hlt).blk.type (by rw[←e];exact hpb)).1
       · obtain⟨c,hc⟩:=(hok.each i hlt).elem hb';exact hS.ep (hc.type hpb).1
     · rcases hb' with rfl|hb'
       · exact hok.row.ne_block (hok.each i hlt).blk hS.nl h1
       · obtain⟨c,hc⟩:=(hok.each i hlt).elem hb';exact hok.row.ne_block hc hS.ne h1
     · have:=hlow b hXb;have:=hl b h1;omega
   · have hii:i=notes.length:=by simp at hi;omega
     subst hii;rw[List.getElem_append_right (Nat.le_refl _)];simp only[Nat.sub_self,List.getElem_cons_zero];refine⟨hN,fun q hq t ht=> ?_,hm⟩;obtain⟨g,e1,_,m1⟩:=hmk q hq t ht;exact⟨g,e1,m1⟩
 · have hln:(notes++[(⟨N,m,ad,cp⟩:ZV)]).length=notes.length+1:=by simp
   by_cases h1:i<notes.length
   · rw[List.getElem_append_left h1]at hbi;by_cases h2:j<notes.length
     · rw[List.getElem_append_left h2]at hbj;exact hok.apart i j h1 h2 hij b hbi hbj
     · have hjj:j=notes.length:=by omega
       subst hjj;rw[List.getElem_append_right (Nat.le_refl _)]at hbj;simp only[Nat.sub_self,List.getElem_cons_zero]at hbj;have:=hnew b hbj;have:=hold i h1 b hbi;omega
   · have hii:i=notes.length:=by omega
     subst hii;rw[List.getElem_append_right (Nat.le_refl _)]at hbi;simp only[Nat.sub_self,List.getElem_cons_zero]at hbi;have h2:j<notes.length:=by omega
     rw[List.getElem_append_left h2]at hbj;have:=hnew b hbi;have:=hold j h2 b hbj;omega
structure YE.Far (S T:YE):Prop where
 ne:S.tn≠T.te
 nl:S.tn≠T.tl
 nn:S.tn≠T.tn
 ee:S.te≠T.te
 el:S.te≠T.tl
 en:S.te≠T.tn
theorem Yi.other {S T:YE}(hT:T.Ok)(hF:S.Far T){w w':World}{pb n sz m:Nat}{bv b1 lV:Value}{notes:List ZV}{xs ys:List Value}{c0:Array Value}(hr:Row w S.tn 1 bv n xs)(hl:Row w S.te sz lV m ys)(hok:Yi T w b1 notes)(hpb:Blk w pb 34 c0)(hk:Za (fun k=>k=pb∨bv.ownBlock=some k∨lV.ownBlock=some k) w w'):Yi T w' b1 notes:=by
 refine hok.kept hk fun b hb=> ?_;obtain⟨U,c,hc,hU⟩:=hok.type hb;rintro(rfl|e|e)
 · have:=(hc.type hpb).1;rcases hU with rfl|rfl|rfl
   · exact hT.ep this
   · exact hT.lp this
   · exact hT.np this
 · rcases hU with rfl|rfl|rfl
   · exact hr.ne_block hc hF.ne e
   · exact hr.ne_block hc hF.nl e
   · exact hr.ne_block hc hF.nn e
 · rcases hU with rfl|rfl|rfl
   · exact hl.ne_block hc hF.ee e
   · exact hl.ne_block hc hF.el e
   · exact hl.ne_block hc hF.en e
theorem Inv.book {B:Nat}{X X':Nat→Prop}{w0 w w':World}{pb:Nat}{ps:List Z7}{vps b0 b1 b2 d0 d1 d2:Value}{commits most:Int}(h:Inv B X w0 w pb ps vps b0 b1 b2 commits most)(hk:Za (fun k=>k=pb∨X k) w w')(hx:∀k,X k→B≤k)
 (hb:Blk w' pb 34 (ZM vps d0 d1 d2 commits most)) (hX:∀k,X' k→X k∨w.heap.size≤k) (hl:∀k,X' k→k<w'.heap.size):Inv B X' w0 w' pb ps vps d0 d1 d2 commits most∧∀k,X' k→B≤k:=by
 have hBw:B≤w.heap.size:=Nat.le_trans h.bsz h.below.size;have hF:∀k,(k=pb∨X k)→B≤k:=by
  rintro k (rfl|h1)
  · exact h.pB.1
  · exact hx k h1
 refine⟨⟨VY h.below hk h.bsz hF,hb,h.row.kept hk ?_,fun p hp=>(h.each p hp).kept hk ?_,h.sep,fun p hp k hpk=> ?_,⟨h.pB.1,fun hX1=> ?_⟩,fun k hvk=>⟨(h.vB k hvk).1,fun hX1=> ?_⟩,hl,h.bsz⟩,fun k hX1=> ?_⟩
 · rintro k hvk (rfl|h1)
   · exact h.row.ne_block h.blk (by decide) hvk
   · exact(h.vB k hvk).2 h1
 · rintro k hpk (rfl|h1)
   · exact(h.own p hp _ hpk).2.1 rfl
   · exact(h.own p hp k hpk).2.2.2 h1
 · have o:=h.own p hp k hpk;refine⟨o.1,o.2.1,o.2.2.1,fun hX1=> ?_⟩;rcases hX k hX1 with h1|h1
   · exact o.2.2.2 h1
   · have:=(h.each p hp).lt k hpk;omega
 · rcases hX pb hX1 with h1|h1
   · exact h.pB.2 h1
   · have:=h.blk.lt;omega
 · rcases hX k hX1 with h1|h1
   · exact(h.vB k hvk).2 h1
   · have:=h.row.lt k hvk;omega
 · rcases hX k hX1 with h1|h1
   · exact hx k h1
   · omega
def XW (i:Nat):Array Value:=#[.int .u8 ((i%256:Nat):Int),.int .u8 ((i/256%256:Nat):Int)]
def shE :YE:=⟨55,51,49,6,Vq⟩
def shM :YE:=⟨62,60,58,2,XW⟩
def shC :YE:=⟨5,100,114,1,fun i=>#[.int .u8 ((digitN i 0:Nat):Int)]⟩
theorem ZdO :shE.Ok:=⟨by decide,by decide,by decide,by decide,by decide⟩
theorem ZdV :shM.Ok:=⟨by decide,by decide,by decide,by decide,by decide⟩
theorem ZdQ :shC.Ok:=⟨by decide,by decide,by decide,by decide,by decide⟩
theorem ZiA :shE.Far shM:=⟨by decide,by decide,by decide,by decide,by decide,by decide⟩
theorem Zjj :shE.Far shC:=⟨by decide,by decide,by decide,by decide,by decide,by decide⟩
theorem far_ME :shM.Far shE:=⟨by decide,by decide,by decide,by decide,by decide,by decide⟩
theorem far_MC :shM.Far shC:=⟨by decide,by decide,by decide,by decide,by decide,by decide⟩
theorem far_CE :shC.Far shE:=⟨by decide,by decide,by decide,by decide,by decide,by decide⟩
theorem far_CM :shC.Far shM:=⟨by decide,by decide,by decide,by decide,by decide,by decide⟩
theorem Zko {w w':World}{pb:Nat}{vps bv b1 b2 lV:Value}{commits most:Int}{bn:Nat}{vals:List Value}{m:Nat}{e:Ending}(h:Zdc w pb vps bv b1 b2 commits most bn vals lV m e w'):∃v,YM shE (fun v=>ZM vps v b1 b2 commits most) w pb bv bn vals lV m v w':=by
 obtain⟨_,N,ad,cp,v,h1,h2,h3,h4,h5,h6,h7⟩:=h;exact⟨v,N,ad,cp,h1,h2,h3,h4,h5,h6,h7⟩
theorem Zgj {w w':World}{pb:Nat}{vps bv b1 b2:Value}{commits most:Int}{bn:Nat}{vals:List Value}{m:Nat}(h:X7 w pb vps bv b1 b2 commits most bn vals m w'):∃v,YM shE (fun v=>ZM vps v b1 b2 commits most) w pb bv bn vals ZH m v w':=by
 obtain⟨N,ad,cp,v,h1,h2,h3,h4,h5,h6,h7⟩:=h;refine⟨v,N,ad,cp,h1,h2,fun k hk t ht=> ?_,h4,h5,h6.mono (fun k hk=>hk.imp id .inl),h7⟩;obtain⟨g,e1,e2,e3⟩:=h3 k hk t ht;exact⟨g,e1,.inr e2,e3⟩
def Ve (w:World)(pb:Nat)(vps bv b1 b2:Value)(commits most:Int)(bn:Nat)(vals:List Value)(cn:Nat)(cvals:List Value)(w':World):Prop:=
 ∃(w4 w5:World)(v u lE lC:Value)(m n:Nat)(xs ys:List Value),m≤1000∧n≤1000∧Za (fun _=>False) w w4∧Row w4 shE.te 6 lE m xs∧(∀k,lE.ownBlock=some k→w.heap.size≤k)∧
  YM shE (fun v=>ZM vps v b1 b2 commits most) w4 pb bv bn vals lE m v w5∧Row w5 shC.te 1 lC n ys∧(∀k,lC.ownBlock=some k→w.heap.size≤k)∧YM shC (fun u=>ZM vps v b1 u commits most) w5 pb b2 cn cvals lC n u w'
def XA (w:World)(pb:Nat)(vps bv b1 b2:Value)(commits most:Int)(bn:Nat)(vals:List Value)(w':World):Prop:=
 ∃(w4:World)(u lM:Value)(m:Nat)(xs:List Value),m≤1000∧Za (fun _=>False) w w4∧Row w4 shM.te 2 lM m xs∧(∀k,lM.ownBlock=some k→w.heap.size≤k)∧YM shM (fun u=>ZM vps bv u b2 commits most) w4 pb b1 bn vals lM m u w'
def Xg (w:World)(b2:Value)(nC:List ZV)(e:Ending)(w':World):Prop:=
 e=.returned (.bool true)∧Yi shC w' b2 nC∧Za (fun k=>∃x∈nC,YF x k) w w'
theorem ZiK (w:World)(g n cap:Nat)(A B:Int)(hn:n≤1000000)(hc:∀j,j<n→w.cell? ⟨g,j*2,none⟩=some (.int .u8 A)∧w.cell? ⟨g,j*2+1,none⟩=some (.int .u8 B))(hg:n=0∨g<w.heap.size):
 Calls Tryz.prog 20 #[.slice (some ⟨g,0,none⟩) n cap,.agg #[.int .u8 A,.int .u8 B]] w fun e w'=>e=.returned (.bool true)∧Below w.heap.size w w':=by
 have HC:=hid hc;have HG:=hid hg;clear hc hg;go_enter Tryz.func20,Tryz.ntmps20;go_wp2
 go_loopw [5] (fun k wr=>∃j:Nat,j≤n∧k=.int .i64 j∧Hid (Below w.heap.size w wr∧Blk wr w.heap.size 62 #[.int .u8 A,.int .u8 B])) (fun k _=>n-(intOf k).toNat)
 case atStart=>exact⟨0,Nat.zero_le _,rfl,(Below.refl _ _).alloc (Nat.le_refl _) _,Blk.new _ _ _⟩
 case round=>
  obtain⟨j,hj,rfl,HB⟩:=hrel;have z0:wr.cell? ⟨w.heap.size,0,none⟩=some (.int .u8 A):=HB.out.2.cell 0;have z1:wr.cell? ⟨w.heap.size,1,none⟩=some (.int .u8 B):=HB.out.2.cell 1;by_cases hlt:j<n
  · have hgz:g<w.heap.size:=by have:=HG.out;omega
    have hbb:=HB.out.1.block g hgz;obtain⟨a0,a1⟩:=HC.out j hlt;have c0:=(World.cell?_of_block (a:=⟨g,j*2,none⟩) hbb).trans a0;have c1:=(World.cell?_of_block (a:=⟨g,j*2+1,none⟩) hbb).trans a1;clear a0 a1 hbb;have hj0:(0:Int)≤(j:Int):=by omega
    have hj1:(j:Int)<(n:Int):=by omega
    go_wp2_with fail
    go_quiet (fail)
    go_wp2
    go_roundw
    case rel=>exact⟨j+1,by omega,by go_num,below_drewN HB.out.1 _,HB.out.2.same rfl⟩
    case measure=>simp[intOf];omega
  · go_wp2;go_ret;exact⟨rfl,HB.out.1⟩
theorem ZcN (w:World)(ao:Option Addr)(cap:Nat)(A B:Int):
 Calls Tryz.prog 20 #[.slice ao 0 cap,.agg #[.int .u8 A,.int .u8 B]] w fun e w'=>e=.returned (.bool true)∧Za (fun _=>False) w w':=by
 go_enter Tryz.func20,Tryz.ntmps20;go_wp2;refine wp_loop_rounds 1 ?_;rw[rounds_succ];go_wp2;go_ret;exact⟨rfl,Za.alloc _ _ _⟩
theorem ZcO {w:World}{i k:Nat}{e:ZV}(h:Vp shM w i e)(hk:k<4):
 Calls Tryz.prog 20 #[.slice (e.ad k) (e.m+k) (e.cp k),.agg #[.int .u8 ((i%256:Nat):Int),.int .u8 ((i/256%256:Nat):Int)]] w fun e w'=>e=.returned (.bool true)∧Za (fun _=>False) w w':=by
 by_cases h0:0<e.m+k
 · obtain⟨g,e1,c,hb,_⟩:=h.mark k hk 0 h0;rw[e1];have hsm:=h.small;refine(ZiK w g (e.m+k) (e.cp k) _ _ (by omega) (fun t ht=> ?_) (.inr hb.lt)).mono fun _ _ hp=>⟨hp.1,Za.of_below hp.2 _⟩;obtain⟨g',e2,c',hb',hc'⟩:=h.mark k hk t ht;rw[e1]at e2;injection e2 with e2;injection e2 with e2 _ _;subst e2;have q0:c'[t*2+0]?=some (.int .u8 ((i%256:Nat):Int)):=hc' 0 (by decide);have q1:c'[t*2+1]?=some (.int .u8 ((i/256%256:Nat):Int)):=hc' 1 (by decide);rw[Nat.add_zero]at q0;exact⟨by rw[hb'.cell];exact q0,by rw[hb'.cell];exact q1⟩
 · have:e.m+k=0:=by omega
   rw[this];exact ZcN w _ _ _ _
theorem Vp.ok {w:World}{i:Nat}{e:ZV}(h:Vp shE w i e):ZiJ w i e:=⟨h.blk,h.mark,h.small⟩
structure V6 (w:World)(e:ZV):Prop where
 blk:Blk w e.N 100 (Vs e.m e.ad e.cp)
 room:∀k,k<4→0<e.m+k→∃g,e.ad k=some ⟨g,0,none⟩∧∃c,Blk w g 5 c∧e.m+k≤c.size
 small:e.m≤1000
def Uc (w:World)(e:ZV)(z:Int)(q j:Nat):Prop:=∀k,k<4→∀t,t<e.m+k→(k<q∨(k=q∧t<j))→∃g,e.ad k=some ⟨g,0,none⟩∧∃c,Blk w g 5 c∧c[t]?=some (.int .u8 z)
theorem V6.same {w w':World}{e:ZV}(h:V6 w e)(hs:∀b,(b=e.N∨YF e b)→w'.heap[b]?=w.heap[b]?):V6 w' e:=by
 refine⟨h.blk.same (hs _ (.inl rfl)),fun k hk h0=> ?_,h.small⟩;obtain⟨g,e1,c,hb,hc⟩:=h.room k hk h0;exact⟨g,e1,c,hb.same (hs g (.inr ⟨k,hk,h0,e1⟩)),hc⟩
theorem Uc.same {w w':World}{e:ZV}{z:Int}{q j:Nat}(h:Uc w e z q j)(hs:∀b,YF e b→w'.heap[b]?=w.heap[b]?):Uc w' e z q j:=fun k hk t ht hd=>by
 obtain⟨g,e1,c,hb,hc⟩:=h k hk t ht hd;exact⟨g,e1,c,hb.same (hs g ⟨k,hk,by omega,e1⟩),hc⟩
theorem V6.lt {w:World}{e:ZV}(h:V6 w e):∀b,(b=e.N∨YF e b)→b<w.heap.size:=by
 rintro b (rfl|⟨k,hk,h0,e1⟩)
 · exact h.blk.lt
 · obtain⟨g,e2,c,hb,_⟩:=h.room k hk h0;rw[e1]at e2;injection e2 with e2;injection e2 with e2 _ _;subst e2;exact hb.lt
theorem V6.elem {w:World}{e:ZV}(h:V6 w e){b:Nat}(hb:YF e b):∃c,Blk w b 5 c:=by
 obtain⟨k,hk,h0,e1⟩:=hb;obtain⟨g,e2,c,hc,_⟩:=h.room k hk h0;rw[e1]at e2;injection e2 with e2;injection e2 with e2 _ _;subst e2;exact⟨c,hc⟩
theorem V6.kept {w w':World}{e:ZV}(h:V6 w e)(k:Za (fun _=>False) w w'):V6 w' e:=h.same fun b hb=>k.block b (h.lt b hb) id
structure XY (w0 wr:World)(e:ZV)(z:Int)(q j:Nat):Prop where
 kept:Za (YF e) w0 wr
 card:V6 wr e
 done:Uc wr e z q j
theorem XY.next {w0 wr W':World}{e:ZV}{z:Int}{q j g:Nat}{c:Array Value}(h:XY w0 wr e z q j)(hq:q<4)(hj:j<e.m+q)(hg:e.ad q=some ⟨g,0,none⟩)(hb:Blk wr g 5 c)(hs:e.m+q≤c.size)
 (hW:W'.heap=(wr.setCell ⟨g,j,none⟩ (.int .u8 z)).heap) (h1:W'.os=wr.os) (h2:W'.tape=wr.tape) (h3:W'.output=wr.output):XY w0 W' e z q (j+1):=by
 have k0:=Za.setCell wr ⟨g,j,none⟩ (.int .u8 z);have kk:Za (fun k=>k=g) wr W':=⟨h1,h2,h3,by rw[hW];exact k0.size,fun i hi hn=>by rw[hW];exact k0.block i hi hn⟩;have b':Blk W' g 5 (c.setIfInBounds j (.int .u8 z)):=(hb.set j (.int .u8 z)).same (by rw[hW]);have ho:YF e g:=⟨q,hq,by omega,hg⟩;refine⟨h.kept.trans kk (fun _=>id) (fun b _ e=>e▸ho),⟨h.card.blk.kept kk fun en=> ?_,fun k hk h0=> ?_,h.card.small⟩,fun k hk t ht hd=> ?_⟩
 · rw[←en]at hb;exact absurd (hb.type h.card.blk).1 (by decide)
 · obtain⟨g',e1,d,hd,hc⟩:=h.card.room k hk h0;by_cases e':g'=g
   · subst e';obtain⟨_,rfl⟩:=hb.type hd;exact⟨g',e1,_,b',by rw[Array.size_setIfInBounds];exact hc⟩
   · exact⟨g',e1,d,hd.kept kk e',hc⟩
 · by_cases e0:k=q∧t=j
   · obtain⟨rfl,rfl⟩:=e0;exact⟨g,hg,_,b',by rw[Array.getElem?_setIfInBounds,if_pos rfl,if_pos (by omega)]⟩
   · obtain⟨g',e1,d,hd',hc⟩:=h.done k hk t ht (by omega);by_cases e':g'=g
     · subst e';obtain⟨_,rfl⟩:=hb.type hd';refine⟨g',e1,_,b',?_⟩;by_cases et:j=t
       · subst et;rw[Array.getElem?_setIfInBounds,if_pos rfl,if_pos (by omega)]
       · rw[Array.getElem?_setIfInBounds_ne et];exact hc
     · exact⟨g',e1,d,hd'.kept kk e',hc⟩
theorem XY.step {w0 wr:World}{e:ZV}{z:Int}{q j g:Nat}{c:Array Value}(h:XY w0 wr e z q j)(hq:q<4)(hj:j<e.m+q)(hg:e.ad q=some ⟨g,0,none⟩)(hb:Blk wr g 5 c)(hs:e.m+q≤c.size):XY w0 (wr.setCell ⟨g,j,none⟩ (.int .u8 z)) e z q (j+1):=
 h.next hq hj hg hb hs rfl (Za.setCell _ _ _).os (Za.setCell _ _ _).tape (Za.setCell _ _ _).output
theorem XY.turn {w0 wr:World}{e:ZV}{z:Int}{q:Nat}(h:XY w0 wr e z q (e.m+q)):XY w0 wr e z (q+1) 0:=by
 refine⟨h.kept,h.card,fun k hk t ht hd=>h.done k hk t ht ?_⟩;rcases hd with hd|hd
 · by_cases e':k=q
   · subst e';exact .inr ⟨rfl,ht⟩
   · exact .inl (by omega)
 · omega
theorem Zil (w:World)(e:ZV)(z:Int)(h:V6 w e):
 Calls Tryz.prog 69 #[Xs e,.int .u8 z] w fun r w'=>r=.returned (.tuple #[])∧Hid (XY w w' e z 4 0):=by
 have HO0:Hid (XY w w e z 0 0):=⟨Za.refl _ _,h,fun k _ t _ hd=>by omega⟩;have hsm:=h.small;clear h;unfold Xs;go_enter Tryz.func69,Tryz.ntmps69;go_wp2
 go_loopw [4] (fun k wr=>∃q:Nat,q≤4∧k=.int .i64 q∧Hid (XY w wr e z q 0)) (fun k _=>4-(intOf k).toNat)
 case atStart=>exact⟨0,by omega,rfl,HO0⟩
 case round=>
  obtain⟨q,hq,rfl,HO⟩:=hrel;by_cases hq4:q<4
  · have hq0:(0:Int)≤(q:Int):=by omega
    have hq1:(q:Int)<4:=by omega
    go_wp2
    go_loopw [5] (fun j wy=>∃t:Nat,t≤e.m+q∧j=.int .i64 t∧Hid (XY w wy e z q t)) (fun j _=>e.m+q-(intOf j).toNat)
    case atStart=>exact⟨0,Nat.zero_le _,rfl,HO⟩
    case round=>
     obtain⟨t,ht,rfl,HO2⟩:=hrel;have nq:wr.cell? ⟨e.N,q,none⟩=some (.slice (e.ad q) (e.m+q) (e.cp q)):=by rw[HO2.out.card.blk.cell];exact Zag e.m e.ad e.cp q hq4
     by_cases htm:t<e.m+q
     · obtain⟨g,hg,c,hbc,hcs⟩:=HO2.out.card.room q hq4 (by omega);have c0:wr.cell? ⟨g,t,none⟩=some c[t]:=by rw[hbc.cell];exact Array.getElem?_eq_getElem (by omega)
       generalize c[t]=y0 at c0;have f0:=hbc.free t;have HNX:Hid (XY w (wr.setCell ⟨g,t,none⟩ (.int .u8 z)) e z q (t+1)):=HO2.out.step hq4 htm hg hbc hcs;rw[hg]at nq;have ht0:(0:Int)≤(t:Int):=by omega
       have ht1:(t:Int)<((e.m+q:Nat):Int):=by omega
       have hgN:g≠e.N:=fun en=>by rw[en]at hbc;exact absurd (hbc.type HO2.out.card.blk).1 (by decide)
       have hNg:e.N≠g:=Ne.symm hgN;clear hbc hcs hg;go_wp2
       go_roundw
       case rel=>exact⟨t+1,by omega,by go_num,HNX⟩
       case measure=>simp[intOf];omega
     · have htt:t=e.m+q:=by omega
       subst htt;go_wp2
       go_roundw
       case rel=>exact⟨q+1,by omega,by go_num,HO2.out.turn⟩
       case measure=>simp[intOf];omega
  · have hqq:q=4:=by omega
    subst hqq;go_wp2
    go_end0
    exact⟨rfl,HO.out⟩
theorem lreads (w:World)(e:ZV)(z:Int)(h:V6 w e)(hd:Uc w e z 4 0):
 Calls Tryz.prog 67 #[Xs e,.int .u8 z] w fun r w'=>r=.returned (.bool true)∧w=w':=by
 have hsm:=h.small;have HN:Hid (∀q,q<4→w.cell? ⟨e.N,q,none⟩=some (.slice (e.ad q) (e.m+q) (e.cp q))):=fun q hq=>by rw[h.blk.cell];exact Zag e.m e.ad e.cp q hq
 have HD:Hid (∀q,q<4→∀t,t<e.m+q→∃g,e.ad q=some ⟨g,0,none⟩∧w.cell? ⟨g,t,none⟩=some (.int .u8 z)):=fun q hq t ht=>by
  obtain⟨g,e1,c,hb,hc⟩:=hd q hq t ht (.inl hq);exact⟨g,e1,by rw[hb.cell];exact hc⟩
 clear h hd;unfold Xs;go_enter Tryz.func67,Tryz.ntmps67;go_wp2
 go_loop [5] (fun k=>∃q:Nat,q≤4∧k=.int .i64 q) (fun k=>4-(intOf k).toNat)
 case atStart=>exact⟨0,by omega,rfl⟩
 case round=>
  obtain⟨q,hq,rfl⟩:=hrel;by_cases hq4:q<4
  · have hq0:(0:Int)≤(q:Int):=by omega
    have hq1:(q:Int)<4:=by omega
    have nq:=HN.out q hq4;go_wp2
    go_loop [6] (fun j=>∃t:Nat,t≤e.m+q∧j=.int .i64 t) (fun j=>e.m+q-(intOf j).toNat)
    case atStart=>exact⟨0,Nat.zero_le _,rfl⟩
    case round=>
     obtain⟨t,ht,rfl⟩:=hrel;by_cases htm:t<e.m+q
     · obtain⟨g,hg,c0⟩:=HD.out q hq4 t htm;have mq:=nq;rw[hg]at mq;have ht0:(0:Int)≤(t:Int):=by omega
       have ht1:(t:Int)<((e.m+q:Nat):Int):=by omega
       clear nq hg;go_wp2
       go_round
       case rel=>exact⟨t+1,by omega,by go_num⟩
       case measure=>simp[intOf];omega
     · have htt:t=e.m+q:=by omega
       subst htt;go_wp2
       go_round
       case rel=>exact⟨q+1,by omega,by go_num⟩
       case measure=>simp[intOf];omega
  · have hqq:q=4:=by omega
    subst hqq;go_wp2;go_ret;exact⟨rfl,rfl⟩
theorem Vp.card {w:World}{i:Nat}{e:ZV}(h:Vp shC w i e):V6 w e∧Uc w e ((digitN i 0:Nat):Int) 4 0:=by
 have key:∀k,k<4→∀t,t<e.m+k→∃g,e.ad k=some ⟨g,0,none⟩∧∃c,Blk w g 5 c∧c[t]?=some (.int .u8 ((digitN i 0:Nat):Int)):=fun k hk t ht=>by
  obtain⟨g,e1,c,hb,hc⟩:=h.mark k hk t ht;have h0:c[t*1+0]?=some (.int .u8 ((digitN i 0:Nat):Int)):=hc 0 (by decide);rw[Nat.mul_one,Nat.add_zero]at h0;exact⟨g,e1,c,hb,h0⟩
 refine⟨⟨h.blk,fun k hk h0=> ?_,h.small⟩,fun k hk t ht _=>key k hk t ht⟩;obtain⟨g,e1,c,hb,hc⟩:=key k hk (e.m+k-1) (by omega);have:=(Array.getElem?_eq_some_iff.mp hc).1;exact⟨g,e1,c,hb,by omega⟩
theorem V6.note {w:World}{i:Nat}{e:ZV}(h:V6 w e)(hd:Uc w e ((digitN i 0:Nat):Int) 4 0):Vp shC w i e:=by
 refine⟨h.blk,fun k hk t ht=> ?_,h.small⟩;obtain⟨g,e1,c,hb,hc⟩:=hd k hk t ht (.inl hk);refine⟨g,e1,c,hb,fun f hf=> ?_⟩;have hf0:f=0:=by have:f<1:=hf;omega
 subst hf0;show c[t*1+0]?=_;rw[Nat.mul_one,Nat.add_zero,hc];rfl
def numX (ns:List ZV)(k:Nat):Prop:=∃x∈ns,YF x k
structure Xn (w wr:World)(ns:List ZV)(d i:Nat):Prop where
 kept:Za (numX ns) w wr
 card:∀j (h:j<ns.length),V6 wr ns[j]
 done:∀j (h:j<ns.length),j<i→Uc wr ns[j] ((digitN j d:Nat):Int) 4 0
theorem Xn.more {w wr W:World}{ns:List ZV}{d i:Nat}(h:Xn w wr ns d i)(k:Za (fun _=>False) wr W):Xn w W ns d i:=
 ⟨h.kept.trans k (fun _=>id) (fun _ _=>False.elim),fun j hj=>(h.card j hj).kept k,fun j hj hi=>(h.done j hj hi).same fun b hb=>k.block b ((h.card j hj).lt b (.inr hb)) id⟩
theorem Xn.none {w wr:World}{ns:List ZV}{d i:Nat}(h:Xn w wr ns d i)(d':Nat):Xn w wr ns d' 0:=⟨h.kept,h.card,fun j hj hi=>by omega⟩
theorem Xn.next {w wr w':World}{ns:List ZV}{d i:Nat}(ha:∀i j (hi:i<ns.length)(hj:j<ns.length),i≠j→∀b,YF ns[i] b→¬YF ns[j] b)(h:Xn w wr ns d i)(hi:i<ns.length)(hO:XY wr w' ns[i] ((digitN i d:Nat):Int) 4 0):Xn w w' ns d (i+1):=by
 have hsame:∀j (hj:j<ns.length),j≠i→∀b,(b=(ns[j]).N∨YF ns[j] b)→w'.heap[b]?=wr.heap[b]? :=by
  intro j hj hji b hb;refine hO.kept.block b ((h.card j hj).lt b hb) fun hbi=> ?_;rcases hb with rfl|hb
  · obtain⟨c,hc⟩:=(h.card i hi).elem hbi;exact absurd (hc.type (h.card j hj).blk).1 (by decide)
  · exact ha i j hi hj (fun e=>hji e.symm) b hbi hb
 refine⟨h.kept.trans hO.kept (fun _=>id) (fun k _ hk=>⟨_,List.getElem_mem hi,hk⟩),fun j hj=> ?_,fun j hj hji=> ?_⟩
 · by_cases e:j=i
   · subst e;exact hO.card
   · exact(h.card j hj).same (hsame j hj e)
 · by_cases e:j=i
   · subst e;exact hO.done
   · exact(h.done j hj (by omega)).same fun b hb=>hsame j hj e b (.inr hb)
theorem Zif (w:World)(pb:Nat)(b2:Value)(ns:List ZV)(hok:Yi shC w b2 ns)(hn:ns.length≤4611686018427387904)(h3:w.cell? ⟨pb,3,none⟩=some b2)(hpb:¬numX ns pb):
 Calls Tryz.prog 22 #[.pointer (some ⟨pb,1,none⟩)] w fun e w'=>Xg w b2 ns e w':=by
 obtain⟨ba,bc,hbf,hba⟩:=hok.row.form;subst hbf;have hu8:∀k,numX ns k→∃c,Blk w k 5 c:=by
  rintro k ⟨x,hx,hk⟩;obtain⟨i,hi,rfl⟩:=List.getElem_of_mem hx;exact(hok.each i hi).elem hk
 have hrow:∀W,Za (numX ns) w W→Row W 114 1 (.slice ba ns.length bc) ns.length (ns.map Xs):=fun W hW=>hok.row.kept hW fun j hj hjx=>by
  obtain⟨c,hc⟩:=hu8 j hjx;exact hok.row.ne_block hc (by decide) hj
 have HPB:Hid (∀W,Za (numX ns) w W→W.cell? ⟨pb,3,none⟩=some (.slice ba ns.length bc)):=fun W hW=>hW.keep hpb h3;have HG:Hid (∀i (hi:i<ns.length),∃g,ba=some ⟨g,0,none⟩∧∀W,Za (numX ns) w W→W.cell? ⟨g,i,none⟩=some (.slice (some ⟨(ns[i]).N,0,none⟩) 4 4)):=by
  intro i hi;obtain⟨g,cap,hs,hog,_⟩:=hok.row.block (by omega);injection hs with hs1 _ _;exact⟨g,hs1,fun W hW=>(hrow W hW).cell hog i _ (by rw[List.getElem?_map,List.getElem?_eq_getElem hi];rfl)⟩
 have HS0:Hid (Xn w w ns 0 ns.length):=⟨Za.refl _ _,fun j hj=>(hok.each j hj).card.1,fun j hj _=>(hok.each j hj).card.2⟩;have HAP:Hid (∀i j (hi:i<ns.length)(hj:j<ns.length),i≠j→∀b,YF ns[i] b→¬YF ns[j] b):=hok.apart;have HEND:Hid (∀W,Xn w W ns 0 ns.length→Xg w (.slice ba ns.length bc) ns (.returned (.bool true)) W):=fun W hW=>⟨rfl,⟨hrow W hW.kept,fun i hi=>(hW.card i hi).note (hW.done i hi hi),hok.apart⟩,hW.kept⟩;have HDG:Hid (∀(W:World)(i d:Nat),i<ns.length→d≤3→Calls Tryz.prog 68 #[.int .i64 i,.int .i64 d] W fun e w'=>e=.returned (.int .u8 ((digitN i d:Nat):Int))∧W=w'):=fun W i d hi hd=>Zik W i d (by omega) hd;have HRD:Hid (∀(wr W:World)(i d:Nat)(hi:i<ns.length),Xn w wr ns d ns.length→Za (fun _=>False) wr W→Calls Tryz.prog 67 #[.slice (some ⟨(ns[i]).N,0,none⟩) 4 4,.int .u8 ((digitN i d:Nat):Int)] W fun e w'=>e=.returned (.bool true)∧W=w'):=fun wr W i d hi hS hW=>lreads W ns[i] _ ((hS.more hW).card i hi) ((hS.more hW).done i hi hi);have HWR:Hid (∀(wr W:World)(i d:Nat)(hi:i<ns.length),Xn w wr ns d i→Za (fun _=>False) wr W→Calls Tryz.prog 69 #[.slice (some ⟨(ns[i]).N,0,none⟩) 4 4,.int .u8 ((digitN i d:Nat):Int)] W fun e w'=>e=.returned (.tuple #[])∧Hid (Xn w w' ns d (i+1))):=fun wr W i d hi hS hW=>(Zil W ns[i] _ ((hS.more hW).card i hi)).mono fun e w' hp=>⟨hp.1,(hS.more hW).next HAP.out hi hp.2.out⟩;clear hok h3 hpb hba hu8 hrow;go_enter Tryz.func22,Tryz.ntmps22;go_wp2
 go_loopw [3] (fun iv wr=>∃i:Nat,i≤ns.length∧iv=.int .i64 i∧Hid (Xn w wr ns 0 ns.length)) (fun iv _=>ns.length-(intOf iv).toNat)
 case atStart=>exact⟨0,Nat.zero_le _,rfl,HS0⟩
 case round=>
  obtain⟨i,hi,rfl,HS⟩:=hrel;have c3:wr.cell? ⟨pb,3,none⟩=some (.slice ba ns.length bc):=HPB.out wr HS.out.kept;by_cases hlt:i<ns.length
  · obtain⟨g,hg,hgc⟩:=HG.out i hlt;have cg:=hgc wr HS.out.kept;subst hg;have hi0:(0:Int)≤(i:Int):=by omega
    have hi1:(i:Int)<(ns.length:Int):=by omega
    obtain⟨z,hz⟩:∃z,z=((digitN i 0:Nat):Int):=⟨_,rfl⟩;have HD1:Hid (∀W,Calls Tryz.prog 68 #[.int .i64 (i:Int),.int .i64 0] W fun e w'=>e=.returned (.int .u8 z)∧W=w'):=fun W=>by rw[hz];exact HDG.out W i 0 hlt (by omega)
    have HR1:Hid (∀W,Za (fun _=>False) wr W→Calls Tryz.prog 67 #[.slice (some ⟨(ns[i]).N,0,none⟩) 4 4,.int .u8 z] W fun e w'=>e=.returned (.bool true)∧W=w'):=fun W hW=>by rw[hz];exact HRD.out wr W i 0 hlt HS.out hW
    generalize (ns[i]).N=N0 at cg HR1;clear hgc hz
    go_wp2_with fail
    go_region_with first
     |(go_at_call 68;refine(HD1.out _).mono ?_;rintro e w1 ⟨rfl,rfl⟩)
     |(go_at_call 67;refine(HR1.out _ ((Za.refl _ _).drewN _)).mono ?_;rintro e w2 ⟨rfl,rfl⟩)
    all_goals
     go_wp2
     go_roundw
     case rel=>exact⟨i+1,by omega,by go_num,HS.out.more ((Za.refl _ _).drewN _)⟩
     case measure=>simp[intOf];omega
  · have hii:i=ns.length:=by omega
    subst hii;go_wp2
    go_loopw [5] (fun dv wr=>∃D:Nat,D≤4∧dv=.int .i64 ((D:Int)-1)∧∃q,(D=0→q=0)∧Hid (Xn w wr ns q ns.length)) (fun dv _=>(intOf dv+1).toNat)
    case atStart=>exact⟨4,by omega,rfl,0,fun _=>rfl,HS⟩
    case round=>
     obtain⟨D,hD,rfl,q,hq,HQ⟩:=hrel;by_cases hD0:D=0
     · subst hD0;have hq0:=hq rfl;subst hq0;go_wp2;go_ret;exact HEND.out _ HQ.out
     · obtain⟨d,rfl⟩:∃d,D=d+1:=⟨D-1,by omega⟩;have hdI:((d+1:Nat):Int)-1=(d:Int):=by omega
       rw[hdI];have hd3:d≤3:=by omega
       clear hq;go_wp2
       go_loopw [6] (fun iv wr=>∃i:Nat,i≤ns.length∧iv=.int .i64 i∧Hid (Xn w wr ns d i)) (fun iv _=>ns.length-(intOf iv).toNat)
       case atStart=>exact⟨0,Nat.zero_le _,rfl,HQ.out.none d⟩
       case round=>
        obtain⟨i,hi,rfl,HS⟩:=hrel;have c3:wr.cell? ⟨pb,3,none⟩=some (.slice ba ns.length bc):=HPB.out wr HS.out.kept;by_cases hlt:i<ns.length
        · obtain⟨g,hg,hgc⟩:=HG.out i hlt;have cg:=hgc wr HS.out.kept;subst hg;have hi0:(0:Int)≤(i:Int):=by omega
          have hi1:(i:Int)<(ns.length:Int):=by omega
          obtain⟨z,hz⟩:∃z,z=((digitN i d:Nat):Int):=⟨_,rfl⟩;have HD1:Hid (∀W,Calls Tryz.prog 68 #[.int .i64 (i:Int),.int .i64 (d:Int)] W fun e w'=>e=.returned (.int .u8 z)∧W=w'):=fun W=>by rw[hz];exact HDG.out W i d hlt hd3
          have HR1:Hid (∀W,Za (fun _=>False) wr W→Calls Tryz.prog 69 #[.slice (some ⟨(ns[i]).N,0,none⟩) 4 4,.int .u8 z] W fun e w'=>e=.returned (.tuple #[])∧Hid (Xn w w' ns d (i+1))):=fun W hW=>by rw[hz];exact HWR.out wr W i d hlt HS.out hW
          generalize (ns[i]).N=N0 at cg HR1;clear hgc hz
          go_wp2_with fail
          go_region_with first
           |(go_at_call 68;refine(HD1.out _).mono ?_;rintro e w1 ⟨rfl,rfl⟩)
           |(go_at_call 69;refine(HR1.out _ ((Za.refl _ _).drewN _)).mono ?_;rintro e w2 ⟨rfl,HW2⟩)
          all_goals
           go_wp2
           go_roundw
           case rel=>exact⟨i+1,by omega,by go_num,HW2⟩
           case measure=>simp[intOf];omega
        · have hii:i=ns.length:=by omega
          subst hii;go_wp2
          go_loopw [7] (fun iv wr=>∃i:Nat,i≤ns.length∧iv=.int .i64 i∧Hid (Xn w wr ns d ns.length)) (fun iv _=>ns.length-(intOf iv).toNat)
          case atStart=>exact⟨0,Nat.zero_le _,rfl,HS⟩
          case round=>
           obtain⟨i,hi,rfl,HS⟩:=hrel;have c3:wr.cell? ⟨pb,3,none⟩=some (.slice ba ns.length bc):=HPB.out wr HS.out.kept;by_cases hlt:i<ns.length
           · obtain⟨g,hg,hgc⟩:=HG.out i hlt;have cg:=hgc wr HS.out.kept;subst hg;have hi0:(0:Int)≤(i:Int):=by omega
             have hi1:(i:Int)<(ns.length:Int):=by omega
             obtain⟨z,hz⟩:∃z,z=((digitN i d:Nat):Int):=⟨_,rfl⟩;have HD1:Hid (∀W,Calls Tryz.prog 68 #[.int .i64 (i:Int),.int .i64 (d:Int)] W fun e w'=>e=.returned (.int .u8 z)∧W=w'):=fun W=>by rw[hz];exact HDG.out W i d hlt hd3
             have HR1:Hid (∀W,Za (fun _=>False) wr W→Calls Tryz.prog 67 #[.slice (some ⟨(ns[i]).N,0,none⟩) 4 4,.int .u8 z] W fun e w'=>e=.returned (.bool true)∧W=w'):=fun W hW=>by rw[hz];exact HRD.out wr W i d hlt HS.out hW
             generalize (ns[i]).N=N0 at cg HR1;clear hgc hz
             go_wp2_with fail
             go_region_with first
              |(go_at_call 68;refine(HD1.out _).mono ?_;rintro e w1 ⟨rfl,rfl⟩)
              |(go_at_call 67;refine(HR1.out _ ((Za.refl _ _).drewN _)).mono ?_;rintro e w2 ⟨rfl,rfl⟩)
             all_goals
              go_wp2
              go_roundw
              case rel=>exact⟨i+1,by omega,by go_num,HS.out.more ((Za.refl _ _).drewN _)⟩
              case measure=>simp[intOf];omega
           · have hii:i=ns.length:=by omega
             subst hii;go_wp2
             go_roundw
             case rel=>exact⟨d,by omega,by go_num,d,fun h=>h,HS⟩
             case measure=>simp[intOf]
end Go.Proofs.YtpfcacedpkaihaaGreat
