import Derived.Test.YtpfcacedpkaihaaGreatC29
import Derived.Test.YtpfcacedpkaihaaGreatC8
namespace Go.Proofs.YtpfcacedpkaihaaGreat
open Go.RowKit
set_option maxRecDepth 100000
set_option maxHeartbeats 16000000
theorem dqnode (q:ByteArray)(n:Nat)(w:World)(hn0:0<n)(hn1:n≤1000)(hq:q.size≤40):
 Calls Tryz.prog 134 #[.string q,.int .i64 (n:Int)] w fun e w'=>e=.returned (.int .i64 ((YZ q.data.toList%n:Nat):Int))∧w=w':=by
 have hql:q.data.toList.length=q.size:=by rw[Array.length_toList];rfl
 have hd:¬(n:Int)<1:=by omega
 go_enter Tryz.func134,Tryz.ntmps134;go_wp2
 go_loop [5,11] (fun s i=>∃k:Nat,k≤q.size∧i=.int .i64 k∧s=.int .i64 (YZ (q.data.toList.take k):Nat)) (fun _ i=>q.size-(intOf i).toNat)
 case atStart=>exact⟨0,Nat.zero_le _,rfl,rfl⟩
 case round=>
  obtain⟨k,hk,rfl,rfl⟩:=hrel;have hle:=ZgO q.data.toList k (by omega);by_cases hlt:k<q.size
  · have HS:Hid (YZ (q.data.toList.take (k+1))=YZ (q.data.toList.take k)+q[k].toNat):=by
     show _=_;rw[Za0 q.data.toList k (by omega)];rfl
    have hb:q[k].toNat<256:=UInt8.toNat_lt _;go_wp2
    go_round
    case rel=>exact⟨k+1,by omega,by go_num,by rw[HS.out];go_num⟩
    case measure=>simp[intOf];omega
  · have hkk:k=q.size:=by omega
    have HT:Hid (q.data.toList.take q.size=q.data.toList):=List.take_of_length_le (by omega);go_wp2;go_ret;refine⟨XZ ?_,rfl⟩;rw[HT.out]
theorem Zd3 (w:World)(b g:Nat)(D:Ze)(q:ByteArray)(h:Dev w b D)(ho:D.vn.ownBlock=some g)(hn0:0<D.nodes.length)(hn1:D.nodes.length≤1000)(hq:q.size≤40):
 Calls Tryz.prog 88 #[.pointer (some ⟨b,0,none⟩),.string q] w fun e w'=>e=.returned (.pointer (some ⟨g,D.pu.nodeN q*8,none⟩))∧w=w':=by
 obtain⟨g',cv,hv,ho',_⟩:=h.nodes.block hn0;rw[ho]at ho';injection ho' with ho';subst ho';have c28:=h.c28;rw[hv]at c28;obtain⟨k,hk⟩:∃k,k=YZ q.data.toList%D.nodes.length:=⟨_,rfl⟩;have hkl:k<D.nodes.length:=by rw[hk];exact Nat.mod_lt _ hn0
 have HN:Hid (D.pu.nodeN q=k):=by show YZ q.data.toList%(D.nodes.map (·.p)).length=k;rw[List.length_map,hk]
 have HQ:Hid (∀W,Calls Tryz.prog 134 #[.string q,.int .i64 (D.nodes.length:Int)] W fun e w'=>e=.returned (.int .i64 (k:Int))∧W=w'):=fun W=>by rw[hk];exact dqnode q _ W hn0 hn1 hq
 have hk0:(0:Int)≤(k:Int):=by omega
 have hk1:(k:Int)<(D.nodes.length:Int):=by omega
 clear h hv ho hk;go_enter Tryz.func88,Tryz.ntmps88
 go_wp2_with (go_at_call 134;refine(HQ.out _).mono ?_;rintro e w1 ⟨rfl,rfl⟩)
 go_ret;exact⟨by rw[HN.out];rfl,rfl⟩
theorem dAsk (w:World)(b:Nat)(D:Ze)(k:Int)(h:Dev w b D)(hw:D.Walk):
 Calls Tryz.prog 63 #[.pointer (some ⟨b,0,none⟩),.int .i64 k] w fun e w'=>e=.returned (.tuple #[.int .u64 ((D.pu.ask k).1:Int),.int .i64 (D.pu.ask k).2.1])∧Z2 w b D (D.pu.ask k).2.2 w':=by
 by_cases hk:k<0∨(D.nodes.length:Int)≤k
 · have HS:Hid (Calls Tryz.prog 106 #[.pointer (some ⟨b,0,none⟩),.int .i64 k] w fun e w'=>e=.returned (.tuple #[.pointer none,.int .i64 9])∧w=w'):=Xc w b D k h hk;have HE:Hid (D.pu.ask k=(0,9,D.pu)):=by show _=_;rw[DP.ask,Ze.pu_none hk]
   have HG:Hid (Z2 w b D D.pu w):=Z2.of_kept h (Za.refl _ _);clear h hw hk;go_enter Tryz.func63,Tryz.ntmps63
   go_wp2_with (go_at_call 106;refine HS.out.mono ?_;rintro e w1 ⟨rfl,rfl⟩)
   go_ret2;exact⟨by rw[HE.out];rfl,by rw[HE.out];exact HG.out⟩
 · obtain⟨k,rfl⟩:∃j:Nat,k=j:=⟨k.toNat,by omega⟩;have hkl:k<D.nodes.length:=by omega
   obtain⟨nd,hnd⟩:∃nd,D.nodes[k]?=some nd:=⟨_,List.getElem?_eq_getElem hkl⟩;have hW:=hw.nodes nd (List.mem_of_getElem? hnd);obtain⟨g,_,_,ho,_⟩:=h.nodes.block hw.n1;have HS:Hid (Calls Tryz.prog 106 #[.pointer (some ⟨b,0,none⟩),.int .i64 (k:Int)] w fun e w'=>e=.returned (.tuple #[.pointer (some ⟨g,k*8,none⟩),.int .i64 0])∧w=w'):=Zbl w b k g D h hkl ho;have hsite:=D.pu_site hnd;have HT:Hid (∀p w',Zl w b D k p w'→Z2 w b D (D.pu.put (k:Int) p) w'):=fun p w' hT=>hT.goes;have HE:Hid (D.pu.ask k=((D.pu.askS nd.p).horizon,0,D.pu.put k (D.pu.askS nd.p))):=by show _=_;rw[DP.ask,hsite]
   have HN:Hid (Calls Tryz.prog 80 #[.pointer (some ⟨b,0,none⟩)] w fun e w'=>e=.returned (.int .u64 (D.past.length:Int))∧w=w'):=Zah w b D h hw.fit;have c0:w.cell? ⟨g,k*8,none⟩=some (.bool nd.p.up):=h.nodeC hnd ho 0 (by omega) _ rfl;have c2:w.cell? ⟨g,k*8+2,none⟩=some (.int .u64 (nd.p.horizon:Int)):=h.nodeC hnd ho 2 (by omega) _ rfl;have HU:Hid (Calls Tryz.prog 118 #[.pointer (some ⟨g,k*8,none⟩)] w fun e w'=>e=.returned (.bool nd.p.up)∧w=w'):=dup w g (k*8) nd.p.up c0;have HZ:Hid (∀W p,Zl w b D k p W→Calls Tryz.prog 120 #[.pointer (some ⟨g,k*8,none⟩)] W fun e w'=>e=.returned (.int .u64 (p.horizon:Int))∧W=w'):=fun W p hT=>by
    obtain⟨n1,e1,hb1⟩:=hT;rw[←e1];exact ZiV W g (k*8) n1.p.horizon (hb1.1.nodeC (ZY n1 hnd) ho 2 (by omega) _ rfl)
   have HT0:Hid (Zl w b D k nd.p w):=Zl.of_kept h hnd (Za.refl _ _);have hpm:=hw.fit.pmax;have hzm:=hW.ok.hz;cases hup:nd.p.up with
   |false=>
    rw[hup]at HU;have HA:Hid (D.pu.askS nd.p=nd.p.rise D.past.length):=by show _=_;rw[DP.askS,if_pos hup];rfl
    have HR:Hid (Calls Tryz.prog 119 #[.pointer (some ⟨g,k*8,none⟩),.int .u64 (D.past.length:Int)] w fun e w'=>e=.returned (.tuple #[])∧Hid (Zl w b D k (nd.p.rise D.past.length) w')):=drise w b k g D nd D.past.length h hnd ho;clear h hw hk hnd ho hW hsite hup c0 c2;go_enter Tryz.func63,Tryz.ntmps63
    go_wp2_with first
     |(go_at_call 106;refine HS.out.mono ?_;rintro e w1 ⟨rfl,rfl⟩)
     |(go_at_call 80;refine HN.out.mono ?_;rintro e w1 ⟨rfl,rfl⟩)
     |(go_at_call 118;refine HU.out.mono ?_;rintro e w1 ⟨rfl,rfl⟩)
     |(go_at_call 119;refine HR.out.mono ?_;rintro e w2 ⟨rfl,hT⟩)
    go_ret2;exact⟨by rw[HE.out,HA.out];rfl,by rw[HE.out,HA.out];exact HT.out _ _ hT.out⟩
   |true=>
    rw[hup]at HU;by_cases hlt:nd.p.horizon<D.past.length
    · obtain⟨q,hq⟩:∃q,D.past[nd.p.horizon]?=some q:=⟨_,List.getElem?_eq_getElem hlt⟩;have HA:Hid (D.pu.askS nd.p=nd.p.hear q.keys):=by
       show _=_;rw[DP.askS,if_neg (by rw[hup];simp),if_pos (show nd.p.horizon<D.pu.past.length from hlt)];show nd.p.hear ((D.past[nd.p.horizon]?.map Zj.keys).getD 0)=_;rw[hq];rfl
      have HWR:Hid (Calls Tryz.prog 75 #[.pointer (some ⟨b,0,none⟩),.int .u64 ((nd.p.horizon:Int)+1)] w fun e w'=>e=.returned (.int .u8 q.keys)∧w=w'):=ZgT w b D nd.p.horizon q h hw.fit hq;have HH:Hid (Calls Tryz.prog 121 #[.pointer (some ⟨g,k*8,none⟩),.int .u8 q.keys] w fun e w'=>e=.returned (.tuple #[])∧Hid (Zl w b D k (nd.p.hear q.keys) w')):=dHear w b k g D nd q.keys h hnd ho hW.ok;have HZ0:=HZ.out w nd.p HT0.out;have HZ0':Hid (Calls Tryz.prog 120 #[.pointer (some ⟨g,k*8,none⟩)] w fun e w'=>e=.returned (.int .u64 (nd.p.horizon:Int))∧w=w'):=HZ0;have HZ1:Hid (∀W,Zl w b D k (nd.p.hear q.keys) W→Calls Tryz.prog 120 #[.pointer (some ⟨g,k*8,none⟩)] W fun e w'=>e=.returned (.int .u64 ((nd.p.hear q.keys).horizon:Int))∧W=w'):=fun W hT=>HZ.out W _ hT;have hlt':(nd.p.horizon:Int)<(D.past.length:Int):=by omega
      clear h hw hk hnd ho hW hsite hup c0 c2 HZ0 hq;go_enter Tryz.func63,Tryz.ntmps63
      go_wp2_with first
       |(go_at_call 106;refine HS.out.mono ?_;rintro e w1 ⟨rfl,rfl⟩)
       |(go_at_call 80;refine HN.out.mono ?_;rintro e w1 ⟨rfl,rfl⟩)
       |(go_at_call 118;refine HU.out.mono ?_;rintro e w1 ⟨rfl,rfl⟩)
       |(go_at_call 120;refine(HZ1.out _ hT.out).mono ?_;rintro e w1 ⟨rfl,rfl⟩)
       |(go_at_call 120;refine HZ0'.out.mono ?_;rintro e w1 ⟨rfl,rfl⟩)
       |(go_at_call 75;refine HWR.out.mono ?_;rintro e w1 ⟨rfl,rfl⟩)
       |(go_at_call 121;refine HH.out.mono ?_;rintro e w2 ⟨rfl,hT⟩)
      go_ret2;exact⟨by rw[HE.out,HA.out];rfl,by rw[HE.out,HA.out];exact HT.out _ _ hT.out⟩
    · have HA:Hid (D.pu.askS nd.p=nd.p):=by
       show _=_;rw[DP.askS,if_neg (by rw[hup];simp),if_neg (show¬nd.p.horizon<D.pu.past.length from hlt)]
      have HZ0':Hid (Calls Tryz.prog 120 #[.pointer (some ⟨g,k*8,none⟩)] w fun e w'=>e=.returned (.int .u64 (nd.p.horizon:Int))∧w=w'):=HZ.out w nd.p HT0.out;have hlt':¬(nd.p.horizon:Int)<(D.past.length:Int):=by omega
      clear h hw hk hnd ho hW hsite hup c0 c2;go_enter Tryz.func63,Tryz.ntmps63
      go_wp2_with first
       |(go_at_call 106;refine HS.out.mono ?_;rintro e w1 ⟨rfl,rfl⟩)
       |(go_at_call 80;refine HN.out.mono ?_;rintro e w1 ⟨rfl,rfl⟩)
       |(go_at_call 118;refine HU.out.mono ?_;rintro e w1 ⟨rfl,rfl⟩)
       |(go_at_call 120;refine HZ0'.out.mono ?_;rintro e w1 ⟨rfl,rfl⟩)
      go_ret2;exact⟨by rw[HE.out,HA.out];rfl,by rw[HE.out,HA.out];exact HT.out _ _ HT0.out⟩
theorem ZfI (w:World)(b:Nat)(D:Ze)(i:Int)(h:Dev w b D)(hf:D.Fit)(hi:i<0∨(D.puts.length:Int)≤i):
 Calls Tryz.prog 45 #[.pointer (some ⟨b,0,none⟩),.int .i64 i] w fun e w'=>e=.returned (.tuple #[.bool (D.pu.store i).1,.int .i64 (D.pu.store i).2.1])∧Z2 w b D (D.pu.store i).2.2 w':=by
 have HT:Hid (Calls Tryz.prog 99 #[.pointer (some ⟨b,27,none⟩),.int .i64 i] w fun e w'=>e=.returned (.tuple #[.agg #[.string ⟨#[]⟩,.int .i32 0,.int .u64 0,.int .u64 0,.bool false,.int .u64 0],.int .i64 10])∧Za (fun _=>False) w w'):=(ZgB w b D i h hf).mono fun e w' hp=>by
  rcases hp with⟨_,e1,hk⟩|⟨h1,h2,_⟩
  · exact⟨e1,hk⟩
  · omega
 have HE:Hid (D.pu.store i=(false,10,D.pu)):=by
  show _=_;rw[DP.store];by_cases h0:i<0
  · rw[if_pos h0]
  · rw[if_neg h0];have:D.pu.puts[i.toNat]?=none:=List.getElem?_eq_none_iff.mpr (show D.puts.length≤i.toNat by omega);rw[this]
 have HG:Hid (∀W,Za (fun _=>False) w W→Z2 w b D D.pu W):=fun W hW=>Z2.of_kept h hW;clear h hf hi;go_enter Tryz.func45,Tryz.ntmps45
 go_wp2_with (go_at_call 99;refine HT.out.mono ?_;rintro e w1 ⟨rfl,hk1⟩)
 go_ret2;exact⟨by rw[HE.out];rfl,by rw[HE.out];exact HG.out _ (hk1.allocNew _)⟩
theorem Zev (w:World)(b:Nat)(D:Ze)(i:Nat)(h:Dev w b D)(hw:D.Walk)(hi:i<D.puts.length):
 Calls Tryz.prog 45 #[.pointer (some ⟨b,0,none⟩),.int .i64 (i:Int)] w fun e w'=>e=.returned (.tuple #[.bool (D.pu.store i).1,.int .i64 (D.pu.store i).2.1])∧Z2 w b D (D.pu.store i).2.2 w':=by
 obtain⟨x,hx⟩:∃x,D.puts[i]?=some x:=⟨_,List.getElem?_eq_getElem hi⟩;have hxq:=hw.putq x (List.mem_of_getElem? hx);obtain⟨k,hk⟩:∃k,k=D.pu.nodeN x.q:=⟨_,rfl⟩;have hkl:k<D.nodes.length:=by rw[hk];show YZ x.q.data.toList%(D.nodes.map (·.p)).length<_;rw[List.length_map];exact Nat.mod_lt _ hw.n1
 obtain⟨nd,hnd⟩:∃nd,D.nodes[k]?=some nd:=⟨_,List.getElem?_eq_getElem hkl⟩;have hW:=hw.nodes nd (List.mem_of_getElem? hnd);have HE:Hid (D.pu.store (i:Int)=((nd.p.store x).2,0,{D.pu with puts:=D.puts.eraseIdx i,sites:=D.pu.sites.set k (nd.p.store x).1})):=by
  show _=_;rw[DP.store,if_neg (by omega),Int.toNat_natCast];have e1:D.pu.puts[i]?=some x:=hx;rw[e1];dsimp only;rw[←hk];have e2:D.pu.sites[k]?=some nd.p:=by show(D.nodes.map (·.p))[k]?=_;rw[List.getElem?_map,hnd];rfl
  rw[e2];rfl
 have HT:Hid (Calls Tryz.prog 99 #[.pointer (some ⟨b,27,none⟩),.int .i64 (i:Int)] w fun e w'=>e=.returned (.tuple #[.agg #[.string x.q,.int .i32 x.val,.int .u64 (x.fr:Int),.int .u64 (x.till:Int),.bool x.op,.int .u64 (x.kn:Int)],.int .i64 0])∧Hid (∃v,Zv w b D w' (D.setPuts (D.puts.eraseIdx i) v))):=(ZgB w b D i h hw.fit).mono fun e w' hp=>by
  rcases hp with⟨hb,_⟩|⟨h1,h2,x',hx',e1,v,r⟩
  · omega
  · rw[Int.toNat_natCast]at hx' r;rw[hx]at hx';injection hx' with hx';subst hx';exact⟨e1,v,r⟩
 have HNO:Hid (∀W v,Dev W b (D.setPuts (D.puts.eraseIdx i) v)→∃g,D.vn.ownBlock=some g∧Calls Tryz.prog 88 #[.pointer (some ⟨b,0,none⟩),.string x.q] W fun e w'=>e=.returned (.pointer (some ⟨g,k*8,none⟩))∧W=w'):=fun W v hW2=>by
  obtain⟨g,_,_,ho,_⟩:=hW2.nodes.block hw.n1;refine⟨g,ho,?_⟩;have:=Zd3 W b g (D.setPuts (D.puts.eraseIdx i) v) x.q hW2 ho hw.n1 (by have:=hw.n3;show D.nodes.length≤1000;omega) hxq;rw[hk];exact this
 have HST:Hid (∀W g v,D.vn.ownBlock=some g→Zv w b D W (D.setPuts (D.puts.eraseIdx i) v)→Calls Tryz.prog 101 #[.pointer (some ⟨g,k*8,none⟩),.agg #[.string x.q,.int .i32 x.val,.int .u64 (x.fr:Int),.int .u64 (x.till:Int),.bool x.op,.int .u64 (x.kn:Int)]] W fun e w'=>e=.returned (.bool (nd.p.store x).2)∧Hid (Z2 w b D {D.pu with puts:=D.puts.eraseIdx i,sites:=D.pu.sites.set k (nd.p.store x).1} w')):=fun W g v ho hB=>by
  have hnd':(D.setPuts (D.puts.eraseIdx i) v).nodes[k]?=some nd:=hnd;refine(ZjT W b k g _ nd x hB.1 hnd' ho hW.ok hW.el hW.r1 hW.r2 hW.us (by unfold maxLen;omega)).mono fun e w' hp=>⟨hp.1,?_⟩;obtain⟨n2,e2,hb2⟩:=hp.2.out;refine⟨_,?_,hB.trans hb2⟩;rw[Ze.pu_put,e2];unfold DP.put;rw[Int.toNat_natCast];rfl
 have HKB:Hid (∀W W' v,Zv w b D W (D.setPuts (D.puts.eraseIdx i) v)→Za (fun _=>False) W W'→Zv w b D W' (D.setPuts (D.puts.eraseIdx i) v)):=fun W W' v hB hk=>⟨hB.1.kept hk (fun _ _=>id),hB.2.1.trans hk (fun _=>id) (fun _ _=>False.elim),hB.2.2⟩;clear h hw hi hx hnd hW hk hkl;go_enter Tryz.func45,Tryz.ntmps45
 go_wp2_with first
  |(go_at_call 99;refine HT.out.mono ?_;rintro e w1 ⟨rfl,hv1⟩;obtain⟨v,hB⟩:=hv1.out;have HB1:Hid (Zv w b D (w1.alloc (.cells #[.string x.q,.int .i32 x.val,.int .u64 (x.fr:Int),.int .u64 (x.till:Int),.bool x.op,.int .u64 (x.kn:Int)] 55)) (D.setPuts (D.puts.eraseIdx i) v)):=HKB.out _ _ _ hB (Za.alloc _ _ _);obtain⟨g,hg,hno⟩:=HNO.out _ _ HB1.out.1;have HG:Hid (D.vn.ownBlock=some g):=hg;have HNC:Hid (Calls Tryz.prog 88 #[.pointer (some ⟨b,0,none⟩),.string x.q] (w1.alloc (.cells #[.string x.q,.int .i32 x.val,.int .u64 (x.fr:Int),.int .u64 (x.till:Int),.bool x.op,.int .u64 (x.kn:Int)] 55)) fun e w'=>e=.returned (.pointer (some ⟨g,k*8,none⟩))∧(w1.alloc (.cells #[.string x.q,.int .i32 x.val,.int .u64 (x.fr:Int),.int .u64 (x.till:Int),.bool x.op,.int .u64 (x.kn:Int)] 55))=w'):=hno;clear hv1 hB hg hno)
  |(go_at_call 88;refine HNC.out.mono ?_;rintro e w2 ⟨rfl,rfl⟩)
  |(go_at_call 101;refine(HST.out _ g v HG.out HB1.out).mono ?_;rintro e w3 ⟨rfl,hr⟩)
 go_ret2;exact⟨by rw[HE.out];rfl,by rw[HE.out];exact hr.out⟩
theorem dStore (w:World)(b:Nat)(D:Ze)(i:Int)(h:Dev w b D)(hw:D.Walk):
 Calls Tryz.prog 45 #[.pointer (some ⟨b,0,none⟩),.int .i64 i] w fun e w'=>e=.returned (.tuple #[.bool (D.pu.store i).1,.int .i64 (D.pu.store i).2.1])∧Z2 w b D (D.pu.store i).2.2 w':=by
 by_cases hi:i<0∨(D.puts.length:Int)≤i
 · exact ZfI w b D i h hw.fit hi
 · obtain⟨j,rfl⟩:∃j:Nat,i=j:=⟨i.toNat,by omega⟩;exact Zev w b D j h hw (by omega)
def Vl {α:Type}(f:α→α)(l:List α)(j:Nat):List α:=(l.take j).map f++l.drop j
theorem Zfz {α:Type}(f:α→α)(l:List α):Vl f l 0=l:=by simp[Vl]
theorem Zg2 {α:Type}(f:α→α)(l:List α):Vl f l l.length=l.map f:=by simp[Vl]
theorem Zdl {α:Type}(f:α→α)(l:List α)(j:Nat):(Vl f l j).length=l.length:=by simp[Vl];omega
theorem ZiT {α:Type}(f:α→α)(l:List α)(j:Nat)(h:j<l.length):(Vl f l j)[j]?=some l[j]:=by
 unfold Vl;rw[List.getElem?_append_right (by simp;omega)];simp[Nat.min_eq_left (Nat.le_of_lt h)]
theorem ZfJ {α:Type}(f:α→α)(l:List α)(j:Nat)(h:j<l.length):(Vl f l j).set j (f l[j])=Vl f l (j+1):=by
 unfold Vl;rw[List.set_append_right _ _ (by simp;omega),List.take_succ_eq_append_getElem h,List.map_append,List.append_assoc];congr 1;have e:l.drop j=l[j]::l.drop (j+1):=List.drop_eq_getElem_cons h;simp only[List.length_map,List.length_take,Nat.min_eq_left (Nat.le_of_lt h),Nat.sub_self];rw[e];rfl
theorem Zaz (w:World)(b:Nat)(D:Ze)(ao:Option Addr)(n cap:Nat)(ws:List (Int×Int))(er:Int)(h:Dev w b D)(her:er≠0)
 (hc:Calls Tryz.prog 74 #[.pointer (some ⟨b,0,none⟩),.slice ao n cap] w fun e w'=>e=.returned (.tuple #[.int .u64 0,.int .i64 er])∧Za (fun _=>False) w w') (hE:D.pu.commit n ws=(0,er,D.pu)):
 Calls Tryz.prog 28 #[.pointer (some ⟨b,0,none⟩),.slice ao n cap] w fun e w'=>e=.returned (.tuple #[.int .u64 ((D.pu.commit n ws).1:Int),.int .i64 (D.pu.commit n ws).2.1])∧Z2 w b D (D.pu.commit n ws).2.2 w':=by
 have HC:=hid hc;have HE:=hid hE;have HG:Hid (∀W,Za (fun _=>False) w W→Z2 w b D D.pu W):=fun W hW=>Z2.of_kept h hW;have hb:(er==0)=false:=beq_eq_false_iff_ne.mpr her;have hb':(er !=0)=true:=by simp[bne,hb]
 clear h hc hE her;go_enter Tryz.func28,Tryz.ntmps28
 go_wp2_with (go_at_call 74;refine HC.out.mono ?_;rintro e w1 ⟨rfl,hk1⟩)
 go_ret2;exact⟨by rw[HE.out];rfl,by rw[HE.out];exact HG.out _ hk1⟩
theorem Zfg (w:World)(b:Nat)(D:Ze)(ao:Option Addr)(n cap:Nat)(ws:List (Int×Int))(h:Dev w b D)(hw:D.Walk)(hwr:Wr w ao n ws)(hn:n≤8)(hk:ws.all Yl=true)(hp:D.past.length<700):
 Calls Tryz.prog 28 #[.pointer (some ⟨b,0,none⟩),.slice ao n cap] w fun e w'=>e=.returned (.tuple #[.int .u64 ((D.pu.commit n ws).1:Int),.int .i64 (D.pu.commit n ws).2.1])∧Z2 w b D (D.pu.commit n ws).2.2 w':=by
 obtain⟨q,hq⟩:∃q,q=D.nextP ws:=⟨_,rfl⟩;have HE:Hid (D.pu.commit n ws=(D.past.length+1,0,D.pu.push q)):=by
  show _=_;rw[DP.commit,if_neg (by omega),if_neg (by rw[hk];simp),if_neg (show¬700≤D.pu.past.length by show¬700≤D.past.length;omega),hq];rfl
 have HC:Hid (Calls Tryz.prog 74 #[.pointer (some ⟨b,0,none⟩),.slice ao n cap] w fun e w'=>e=.returned (.tuple #[.int .u64 ((D.past.length:Int)+1),.int .i64 0])∧Hid (∃v,Zv w b D w' (D.pushP q v))):=(Zcn w b D ao n cap ws h hw.fit hwr hn).mono fun e w' hp2=>by
  rcases hp2 with⟨a,_⟩|⟨_,a,_⟩|⟨_,_,e1,v,r⟩
  · rw[hk]at a;cases a
  · omega
  · rw[←hq]at r;exact⟨by rw[e1];simp,v,r⟩
 have hFit:∀v,(D.pushP q v).Fit:=fun v=>⟨by show(D.past++[q]).length≤700;simp;omega,hw.fit.clk0,hw.fit.clk1,hw.fit.bmax,hw.fit.qmax⟩;have HWT:Hid (∀W v,Dev W b (D.pushP q v)→Calls Tryz.prog 75 #[.pointer (some ⟨b,0,none⟩),.int .u64 ((D.past.length:Int)+1)] W fun e w'=>e=.returned (.int .u8 q.keys)∧W=w'):=fun W v hD=>ZgT W b _ D.past.length q hD (hFit v) (by show(D.past++[q])[D.past.length]?=_;simp);obtain⟨f,hf⟩:∃f:Zb→Zb,f=fun s=>s.tell (D.past.length+1) q.keys:=⟨_,rfl⟩;obtain⟨L,hL⟩:∃L,L=D.pu.sites:=⟨_,rfl⟩;have hLl:L.length=D.nodes.length:=by rw[hL];show(D.nodes.map (·.p)).length=_;simp
 obtain⟨J,hJ⟩:∃J:World→Nat→Prop,J=fun W j=>∃D2:Ze,D2.pu={D.pu with past:=D.past++[q],sites:=Vl f L j}∧Zv w b D W D2:=⟨_,rfl⟩;have HJ0:Hid (∀W v,Zv w b D W (D.pushP q v)→J W 0):=fun W v hB=>by
  rw[hJ];exact⟨_,by rw[Zfz,hL];rfl,hB⟩
 have HJE:Hid (∀W,J W L.length→Z2 w b D (D.pu.push q) W):=fun W hj=>by
  rw[hJ]at hj;obtain⟨D2,e2,hb2⟩:=hj;refine⟨D2,?_,hb2⟩;rw[e2,Zg2,hL,hf];rfl
 have HCE:Hid (∀W j,J W j→∃(av:Option Addr)(cv:Nat),W.cell? ⟨b,28,none⟩=some (.slice av L.length cv)):=fun W j hj=>by
  rw[hJ]at hj;obtain⟨D2,e2,hb2⟩:=hj;obtain⟨av,cv,hv,_⟩:=hb2.1.nodes.form;have hl2:D2.nodes.length=L.length:=by
   have:D2.pu.sites.length=L.length:=by rw[e2];exact Zdl f L j
   have e3:D2.pu.sites.length=D2.nodes.length:=by show(D2.nodes.map (·.p)).length=_;simp
   omega
  rw[hl2]at hv;exact⟨av,cv,by rw[←hv];exact hb2.1.c28⟩
 have HTL:Hid (∀W j (hj:j<L.length),J W j→∃(g cv:Nat),W.cell? ⟨b,28,none⟩=some (.slice (some ⟨g,0,none⟩) L.length cv)∧Calls Tryz.prog 76 #[.pointer (some ⟨g,j*8,none⟩),.int .u64 ((D.past.length:Int)+1),.int .u8 q.keys] W fun e w'=>e=.returned (.tuple #[])∧Hid (J w' (j+1))):=fun W j hj hJj=>by
  rw[hJ]at hJj;obtain⟨D2,e2,hb2⟩:=hJj;have hs2:D2.nodes.map (·.p)=Vl f L j:=by
   have:D2.pu.sites=Vl f L j:=by rw[e2]
   exact this
  have hl2:D2.nodes.length=L.length:=by
   have:=congrArg List.length hs2;rw[Zdl]at this;simpa using this
  obtain⟨g,cv,hv,ho,_⟩:=hb2.1.nodes.block (by omega);obtain⟨nd,hnd⟩:∃nd,D2.nodes[j]?=some nd:=⟨_,List.getElem?_eq_getElem (by omega)⟩;have hndp:nd.p=L[j]:=by
   have h1:(D2.nodes.map (·.p))[j]?=some nd.p:=by rw[List.getElem?_map,hnd];rfl
   rw[hs2,ZiT f L j hj]at h1;injection h1 with h1;exact h1.symm
  have hWn:nd.p.Walk:=by
   rw[hndp];have:L[j]∈D.nodes.map (·.p):=by rw[←show D.pu.sites=D.nodes.map (·.p)from rfl,←hL];exact List.getElem_mem hj
   obtain⟨x,hx,e⟩:=List.mem_map.mp this;rw[←e];exact hw.nodes x hx
  refine⟨g,cv,by rw[←hl2,←hv];exact hb2.1.c28,?_⟩;have:=dtell W b j g D2 nd (D.past.length+1) q.keys hb2.1 hnd ho hWn.fl hWn.fs (by have:=hWn.ok.hz;omega);rw[show(((D.past.length+1:Nat)):Int)=(D.past.length:Int)+1 by omega]at this;refine this.mono fun e w' hp3=>⟨hp3.1,?_⟩;obtain⟨n3,e3,hb3⟩:=hp3.2.out;show J w' (j+1);rw[hJ];refine⟨_,?_,hb2.trans hb3⟩;rw[Ze.pu_put,e3,e2,hndp];unfold DP.put;rw[Int.toNat_natCast,←ZfJ f L j hj];subst hf;rfl
 have hlm:L.length≤3:=by have:=hw.n3;omega
 clear h hw hwr hn hk hq hFit hf hL hJ hLl;go_enter Tryz.func28,Tryz.ntmps28
 go_wp2_with first
  |(go_at_call 74;refine HC.out.mono ?_;rintro e w1 ⟨rfl,hv1⟩;obtain⟨v,hB⟩:=hv1.out;have HJ1:Hid (J w1 0):=HJ0.out _ _ hB;have HW1:Hid (Calls Tryz.prog 75 #[.pointer (some ⟨b,0,none⟩),.int .u64 ((D.past.length:Int)+1)] w1 fun e w'=>e=.returned (.int .u8 q.keys)∧w1=w'):=HWT.out _ _ hB.1;obtain⟨av,cv,c28⟩:=HCE.out _ _ HJ1.out;clear hB hv1)
  |(go_at_call 75;refine HW1.out.mono ?_;rintro e w2 ⟨rfl,rfl⟩)
 go_loopw [32] (fun iv wr=>∃j:Nat,j≤L.length∧iv=.int .i64 j∧Hid (J wr j)) (fun iv _=>L.length-(intOf iv).toNat)
 case atStart=>exact⟨0,Nat.zero_le _,rfl,HJ1.out⟩
 case round=>
  obtain⟨j,hj,rfl,HT⟩:=hrel;by_cases hlt:j<L.length
  · obtain⟨g,cv',d28,hcall⟩:=HTL.out wr j hlt HT.out;have HCL:=hid hcall;have hj0:(0:Int)≤(j:Int):=by omega
    have hj1:(j:Int)<(L.length:Int):=by omega
    clear hcall
    go_wp2_with (go_at_call 76;refine HCL.out.mono ?_;rintro e w3 ⟨rfl,hT3⟩)
    go_roundw
    case rel=>exact⟨j+1,by omega,by go_num,hT3.out⟩
    case measure=>simp[intOf];omega
  · have hjn:j=L.length:=by omega
    subst hjn;have HG:=HJE.out wr HT.out;go_wp2;go_ret2;exact⟨by rw[HE.out];simp,by rw[HE.out];exact HG⟩
theorem Zj6 (w:World)(b:Nat)(D:Ze)(ao:Option Addr)(n cap:Nat)(ws:List (Int×Int))(h:Dev w b D)(hw:D.Walk)(hwr:Wr w ao n ws)(hm:n≤maxLen):
 Calls Tryz.prog 28 #[.pointer (some ⟨b,0,none⟩),.slice ao n cap] w fun e w'=>e=.returned (.tuple #[.int .u64 ((D.pu.commit n ws).1:Int),.int .i64 (D.pu.commit n ws).2.1])∧Z2 w b D (D.pu.commit n ws).2.2 w':=by
 by_cases hn:8<n
 · refine Zaz w b D ao n cap ws 3 h (by decide) ((ZdB w b ao n cap hn hm).mono fun e w' hp=>⟨hp.1,by rw[←hp.2];exact Za.refl _ _⟩) (by rw[DP.commit,if_pos hn])
 · cases hk:ws.all Yl with
   |false=>
    refine Zaz w b D ao n cap ws 5 h (by decide) ((Zcn w b D ao n cap ws h hw.fit hwr (by omega)).mono fun e w' hp=> ?_) (by rw[DP.commit,if_neg hn,if_pos hk]);rcases hp with⟨_,e1,k⟩|⟨a,_⟩|⟨a,_⟩
    · exact⟨e1,k⟩
    · rw[hk]at a;cases a
    · rw[hk]at a;cases a
   |true=>
    by_cases hp:D.past.length<700
    · exact Zfg w b D ao n cap ws h hw hwr (by omega) hk hp
    · refine Zaz w b D ao n cap ws 6 h (by decide) ((Zcn w b D ao n cap ws h hw.fit hwr (by omega)).mono fun e w' hp2=> ?_) (by rw[DP.commit,if_neg hn,if_neg (by rw[hk];simp),if_pos (show 700≤D.pu.past.length by show 700≤D.past.length;omega)]);rcases hp2 with⟨a,_⟩|⟨_,_,e1,k⟩|⟨_,a,_⟩
      · rw[hk]at a;cases a
      · exact⟨e1,k⟩
      · omega
theorem Zcp {l:List Zj}{K:Int}{s:Nat}:∀n,n≤l.length-1→Yg l K n=some s→l.length-1-n<s
 |0,_,h=>by simp[Yg]at h
 |n+1,hn,h=>by
  simp only[Yg]at h
  split at h
  · injection h with h;omega
  · have:=Zcp n (by omega) h;omega
def ZaV (D:Ze)(q:ByteArray)(ts:List (Nat×Nat))(t:Nat):Zh:=Uf (zeroP::D.past) q (Z5 ts) (YW (VU D.past t) ts) t
theorem ZeP (D:Ze)(q:ByteArray)(ts:List (Nat×Nat))(t:Nat):((((ZaV D q ts t).till:Nat):Int)==0)=(ZaV D q ts t).op:=by
 show(((((Yg (zeroP::D.past) (Z5 ts) ((zeroP::D.past).length-1-t)).getD 0:Nat):Int))==0)=(Yg (zeroP::D.past) (Z5 ts) ((zeroP::D.past).length-1-t)).isNone;cases h:Yg (zeroP::D.past) (Z5 ts) ((zeroP::D.past).length-1-t)with
 |none=>rfl
 |some s=>
  have:=Zcp _ (by omega) h;have h0:¬((s:Int)=0):=by omega
  simpa using h0
def Zf9 (w:World)(en:Zh)(e:Ending)(w':World):Prop:=
 e=.returned (.agg #[.string en.q,.int .i32 en.val,.int .u64 (en.fr:Int),.int .u64 (en.till:Int),.bool en.op,.int .u64 (en.kn:Int)])∧Za (fun _=>False) w w'
theorem ZjQ (w:World)(b:Nat)(D:Ze)(q:ByteArray)(ts:List (Nat×Nat))(t:Nat)(h:Dev w b D)(hf:D.Fit)(ht:t≤D.past.length)(hr:Q.readL q.data.toList=(0,ts)):
 Calls Tryz.prog 91 #[.pointer (some ⟨b,0,none⟩),.string q,.int .u8 (Z5 ts),.int .u64 (t:Int)] w fun e w'=>Zf9 w (ZaV D q ts t) e w':=by
 obtain⟨en,hen⟩:∃en,en=ZaV D q ts t:=⟨_,rfl⟩;obtain⟨x,hx⟩:∃x,x=VU D.past t:=⟨_,rfl⟩;have hbl:=h.blk.lt;have H0:Hid (∀W,Za (fun _=>False) w W→Calls Tryz.prog 128 #[.pointer (some ⟨b,0,none⟩),.int .u64 (t:Int)] W fun e w'=>e=.returned (.agg #[.int .i32 (x 0),.int .i32 (x 1),.int .i32 (x 2),.int .i32 (x 3),.int .i32 (x 4),.int .i32 (x 5),.int .i32 (x 6),.int .i32 (x 7)])∧Za (fun _=>False) W w'):=fun W hW=>by
  have:=dat W b D t (h.kept hW (fun _ _=>id)) hf ht;rw[←hx]at this;exact this
 have H1:Hid (∀W,Calls Tryz.prog 138 #[.string q,.agg #[.int .i32 (x 0),.int .i32 (x 1),.int .i32 (x 2),.int .i32 (x 3),.int .i32 (x 4),.int .i32 (x 5),.int .i32 (x 6),.int .i32 (x 7)]] W fun e w'=>e=.returned (.tuple #[.int .i32 en.val,.int .i64 0])∧Za (fun _=>False) W w'):=fun W=>(Zgp q x W ts hr).mono fun e w' hp=>⟨by rw[hp.1,hen,hx];rfl,Za.of_below hp.2 _⟩;have H2:Hid (∀W,Za (fun _=>False) w W→Calls Tryz.prog 139 #[.pointer (some ⟨b,0,none⟩),.int .u8 (Z5 ts),.int .u64 (t:Int)] W fun e w'=>e=.returned (.tuple #[.int .u64 (en.fr:Int),.int .u64 (en.till:Int)])∧Za (fun _=>False) W w'):=fun W hW=>(dright W b D (Z5 ts) t (h.kept hW (fun _ _=>id)) hf ht).mono fun e w' hp=>⟨by rw[hp.1,hen];rfl,hp.2⟩;have H3:Hid (∀W,Za (fun _=>False) w W→Calls Tryz.prog 80 #[.pointer (some ⟨b,0,none⟩)] W fun e w'=>e=.returned (.int .u64 (en.kn:Int))∧W=w'):=fun W hW=>(Zah W b D (h.kept hW (fun _ _=>id)) hf).mono fun e w' hp=>⟨by rw[hp.1,hen];rfl,hp.2⟩;have hop:(((en.till:Nat):Int)==0)=en.op:=by rw[hen];exact ZeP D q ts t
 have hq:q=en.q:=by rw[hen];rfl
 have HRES:Hid (∀w1,Za (fun _=>False) (w.alloc (.cells #[.string ⟨#[]⟩,.int .i32 0,.int .u64 0,.int .u64 0,.bool false,.int .u64 0] 55)) w1→Blk w1 w.heap.size 55 #[.string ⟨#[]⟩,.int .i32 0,.int .u64 0,.int .u64 0,.bool false,.int .u64 0]):=fun w1 hk=>(Blk.new w _ _).kept hk id;rw[←hen];generalize Z5 ts=K at*
 clear h hf hr hen hx;subst hq;go_enter Tryz.func91,Tryz.ntmps91
 go_wp2_with first
  |(go_at_call 128;refine(H0.out _ (Za.alloc _ _ _)).mono ?_;rintro e w1 ⟨rfl,hk1⟩;have hs1:=hk1.size)
  |(go_at_call 138;refine(H1.out _).mono ?_;rintro e w2 ⟨rfl,hk2⟩;have HK2:=(hk1.allocNew _).trans hk2 (H:=fun _=>False) (fun _=>id) (fun _ _=>id))
  |(go_at_call 139;refine(H2.out _ ((Za.alloc _ _ _).trans HK2 (fun _=>id) (fun _ _=>id))).mono ?_;rintro e w3 ⟨rfl,hk3⟩;have HK3:=HK2.trans hk3 (H:=fun _=>False) (fun _=>id) (fun _ _=>id))
  |(go_at_call 80;refine(H3.out _ ((Za.alloc _ _ _).trans HK3 (fun _=>id) (fun _ _=>id))).mono ?_;rintro e w4 ⟨rfl,rfl⟩;have hbb:=HRES.out _ HK3;have y0:w3.cell? ⟨w.heap.size,0,none⟩=some (.string ⟨#[]⟩):=hbb.cell 0;have y1:w3.cell? ⟨w.heap.size,1,none⟩=some (.int .i32 0):=hbb.cell 1;have y2:w3.cell? ⟨w.heap.size,2,none⟩=some (.int .u64 0):=hbb.cell 2;have y3:w3.cell? ⟨w.heap.size,3,none⟩=some (.int .u64 0):=hbb.cell 3;have y4:w3.cell? ⟨w.heap.size,4,none⟩=some (.bool false):=hbb.cell 4;have y5:w3.cell? ⟨w.heap.size,5,none⟩=some (.int .u64 0):=hbb.cell 5;have g0:=hbb.free 0;have g1:=hbb.free 1;have g2:=hbb.free 2;have g3:=hbb.free 3;have g4:=hbb.free 4;have g5:=hbb.free 5;clear hbb)
 refine bodyPost_ret (v:=.agg #[.string en.q,.int .i32 en.val,.int .u64 (en.fr:Int),.int .u64 (en.till:Int),.bool en.op,.int .u64 (en.kn:Int)]) (by simp[results,Tryz.results91,go_sem, *]) rfl ⟨rfl,?_⟩;exact((Za.alloc _ _ (fun _=>False)).trans HK3 (fun _=>id) (fun _ _=>id)).trans (Zff _ _ _ _ _ _ _ _) (fun _=>id) (fun i hi he=>by omega)
def Zbz (w:World)(er:Int)(e:Ending)(w':World):Prop:=e=.returned (.tuple #[.int .i32 0,.bool false,.int .i64 er])∧Za (fun _=>False) w w'
theorem Zf0 (w:World)(b:Nat)(D:Ze)(m:Int)(q:ByteArray)(h:Dev w b D)(hall:∀i,i<6→(D.seats i).reads=true→(D.seats i).num≠m):
 Calls Tryz.prog 38 #[.pointer (some ⟨b,0,none⟩),.int .i64 m,.string q] w fun e w'=>Zbz w 8 e w':=by
 have H0:Hid (Calls Tryz.prog 87 #[.pointer (some ⟨b,2,none⟩),.int .i64 m] w fun e w'=>e=.returned (.tuple #[.agg #[.int .u64 0,.int .u64 0],.int .i64 8])∧Za (fun _=>False) w w'):=(ZgY w b D m h).mono fun e w' hp=>by
  obtain⟨k,⟨_,e1⟩|⟨j,hj,hr,hn,_⟩⟩:=hp
  · exact⟨e1,k⟩
  · exact absurd hn (hall j hj hr)
 clear h hall;go_enter Tryz.func38,Tryz.ntmps38
 go_wp2_with (go_at_call 87;refine H0.out.mono ?_;rintro e w1 ⟨rfl,hk1⟩)
 exact bodyPost_ret (v:=.tuple #[.int .i32 0,.bool false,.int .i64 8]) (by simp[results,Tryz.results38,go_sem]) rfl ⟨rfl,hk1.allocNew _⟩
theorem ZcV (w:World)(b:Nat)(D:Ze)(m:Int)(q:ByteArray)(er:Int)(j:Nat)(h:Dev w b D)(hj:j<6)(hr:(D.seats j).reads=true)(hn:(D.seats j).num=m)(hq:q.size≤maxLen)(her:er≠0)(hrd:Q.readL q.data.toList=(er,[])):
 Calls Tryz.prog 38 #[.pointer (some ⟨b,0,none⟩),.int .i64 m,.string q] w fun e w'=>Zbz w er e w':=by
 have H0:Hid (Calls Tryz.prog 87 #[.pointer (some ⟨b,2,none⟩),.int .i64 m] w fun e w'=>∃x y:Int,e=.returned (.tuple #[.agg #[.int .u64 x,.int .u64 y],.int .i64 0])∧Za (fun _=>False) w w'):=(ZgY w b D m h).mono fun e w' hp=>by
  obtain⟨k,⟨a,_⟩|⟨j,hj,hr,hn,e1⟩⟩:=hp
  · exact absurd hn (a j hj hr)
  · exact⟨_,_,e1,k⟩
 have H1:Hid (∀W,Calls Tryz.prog 71 #[.string q] W fun e w'=>e=.returned (.tuple #[.agg #[.int .u8 0,.int .i64 0],.int .i64 er])∧Za (fun _=>False) W w'):=fun W=>by
  have:=ZaE q W hq;rw[hrd]at this;exact this.mono fun e w' hp=>⟨hp.1,Za.of_below hp.2 _⟩
 have hne:(er==0)=false:=beq_eq_false_iff_ne.mpr her;clear h hj hr hn hq hrd her;go_enter Tryz.func38,Tryz.ntmps38
 go_wp2_with first
  |(go_at_call 87;refine H0.out.mono ?_;rintro e w1 ⟨x,y,rfl,hk1⟩)
  |(go_at_call 71;refine(H1.out _).mono ?_;rintro e w2 ⟨rfl,hk2⟩)
 exact bodyPost_ret (v:=.tuple #[.int .i32 0,.bool false,.int .i64 er]) (by simp[results,Tryz.results38,go_sem]) rfl ⟨rfl,((hk1.allocNew _).trans hk2 (fun _=>id) (fun _ _=>id)).allocNew _⟩
theorem ZdP {w1 w3:World}{a b:Value}{T:TypeId}(k:Za (fun _=>False) (w1.alloc (.cells #[a,b] T)) w3):w3.cell? ⟨w1.heap.size,0,none⟩=some a∧w3.cell? ⟨w1.heap.size,1,none⟩=some b∧w1.heap.size<w3.heap.size:=
 ⟨k.keep id (by simp),k.keep id (by simp),by have:=k.size;simp at this;omega⟩
namespace DP
def answer (P:DP)(q:ByteArray)(ts:List (Nat×Nat))(t:Nat):Zh:=Uf (zeroP::P.past) q (Z5 ts) (YW (VU P.past t) ts) t
def joined (P:DP)(e:Zh):List Zh:=if P.puts.length<10 then P.puts++[e]else P.puts
def hit (P:DP)(j k i:Nat)(s:Zb)(x:Zu):DP:={P with seats:=Z9 P.seats j ((P.seats j).cut x.e.fr (lastE x.e s.horizon)),sites:=P.sites.set k (s.use i x)}
def miss (P:DP)(j:Nat)(e:Zh):DP:={P with seats:=Z9 P.seats j ((P.seats j).cut e.fr (P.seats j).hi),puts:=P.joined e}
end DP
theorem Zv.seat {w W w':World}{b j:Nat}{D D1:Ze}{x:Yb}(h:Zv w b D W D1)(hd:Dev w' b (D1.seatP j x D1.begun))(hk:Za (D1.fp b) W w'):Zv w b D w' (D1.seatP j x D1.begun):=
 h.trans ⟨hd,hk,fun _ hx=>.inl hx⟩
theorem Zv.more {w W w':World}{b:Nat}{D D1:Ze}(h:Zv w b D W D1)(hk:Za (fun _=>False) W w'):Zv w b D w' D1:=h.trans (Zv.of_kept h.1 hk)
theorem Zhe (w:World)(b:Nat)(D:Ze)(m:Int)(q:ByteArray)(ts:List (Nat×Nat))(j i:Nat)(nd:Zn)(x:Zu)(h:Dev w b D)(hw:D.Walk)(hj:j<6)(hr:(D.seats j).reads=true)(hn:(D.seats j).num=m)(hone:∀i,i<6→(D.seats i).reads=true→(D.seats i).num=m→i=j)(hlh:(D.seats j).lo≤(D.seats j).hi)(hq:q.size≤40)(hrd:Q.readL q.data.toList=(0,ts))
 (hnd:D.nodes[D.pu.nodeN q]?=some nd) (ha:nd.p.ans q (D.seats j).lo (D.seats j).hi nd.p.ents.length=(i:Int)) (hx:nd.p.ents[i]?=some x):
 Calls Tryz.prog 38 #[.pointer (some ⟨b,0,none⟩),.int .i64 m,.string q] w fun e w'=>e=.returned (.tuple #[.int .i32 x.e.val,.bool true,.int .i64 0])∧Z2 w b D (D.pu.hit j (D.pu.nodeN q) i nd.p x) w':=by
 have hW:=hw.nodes nd (List.mem_of_getElem? hnd);obtain⟨lo,hlo⟩:∃lo,lo=(D.seats j).lo:=⟨_,rfl⟩;obtain⟨hi,hhi⟩:∃hi,hi=(D.seats j).hi:=⟨_,rfl⟩;obtain⟨K,hK⟩:∃K,K=Z5 ts:=⟨_,rfl⟩;obtain⟨k,hk⟩:∃k,k=D.pu.nodeN q:=⟨_,rfl⟩;obtain⟨L,hL⟩:∃L,L=lastE x.e nd.p.horizon:=⟨_,rfl⟩;rw[←hk]at hnd⊢;obtain⟨g,_,_,ho,_⟩:=h.nodes.block hw.n1;have H0:Hid (Calls Tryz.prog 87 #[.pointer (some ⟨b,2,none⟩),.int .i64 m] w fun e w'=>e=.returned (.tuple #[.agg #[.int .u64 (lo:Int),.int .u64 (hi:Int)],.int .i64 0])∧Za (fun _=>False) w w'):=(ZgY w b D m h).mono fun e w' hp=>by
  obtain⟨k,⟨a,_⟩|⟨i,hi,hri,hni,e1⟩⟩:=hp
  · exact absurd hn (a j hj hr)
  · have:=hone i hi hri hni;subst this;exact⟨by rw[e1,hlo,hhi],k⟩
 have H1:Hid (∀W,Calls Tryz.prog 71 #[.string q] W fun e w'=>e=.returned (.tuple #[.agg #[.int .u8 K,.int .i64 (ts.length:Int)],.int .i64 0])∧Za (fun _=>False) W w'):=fun W=>(Uk q W ts hrd).mono fun e w' hp=>⟨by rw[hp.1,hK],Za.of_below hp.2 _⟩;have H2:Hid (∀W,Za (fun _=>False) w W→Calls Tryz.prog 88 #[.pointer (some ⟨b,0,none⟩),.string q] W fun e w'=>e=.returned (.pointer (some ⟨g,k*8,none⟩))∧W=w'):=fun W hW2=>by
  rw[hk];exact Zd3 W b g D q (h.kept hW2 (fun _ _=>id)) ho hw.n1 (by have:=hw.n3;omega) hq
 have H3:Hid (∀W,Za (fun _=>False) w W→Calls Tryz.prog 89 #[.pointer (some ⟨g,k*8,none⟩),.string q,.agg #[.int .u64 (lo:Int),.int .u64 (hi:Int)]] W fun e w'=>e=.returned (.tuple #[.int .i32 x.e.val,.agg #[.int .u64 (x.e.fr:Int),.int .u64 (L:Int)],.bool true])∧Hid (Zl W b D k (nd.p.use i x) w')):=fun W hW2=>by
  rw[←hlo,←hhi]at ha hlh;refine(ZgC W b k g D nd q lo hi (h.kept hW2 (fun _ _=>id)) hnd ho (by have:=hW.el;omega) hW.es hlh (by have:=hW.us;omega)).mono fun e w' hp=> ?_;rcases hp with⟨h1,_⟩|⟨i',x',h1,h2,e1,hT⟩
  · omega
  · obtain rfl:i=i':=by omega
    rw[hx]at h2;injection h2 with h2;subst h2;exact⟨by rw[e1,hL],hT⟩
 have H4:Hid (∀W W',Za (fun _=>False) w W→Zl W b D k (nd.p.use i x) W'→∀W'',Za (fun _=>False) W' W''→Calls Tryz.prog 90 #[.pointer (some ⟨b,2,none⟩),.int .i64 m,.agg #[.int .u64 (x.e.fr:Int),.int .u64 (L:Int)]] W'' fun e w'=>e=.returned (.tuple #[])∧Hid (Z2 w b D (D.pu.hit j k i nd.p x) w')):=fun W W' hW2 hT W'' hk2=>by
  obtain⟨n1,e1,hb1⟩:=(Zl.from hW2 hT).then hk2;refine(ZgS W'' b (D.putN k n1) m j x.e.fr L hb1.1 hj hr hn hone).mono fun e w' hp=>⟨hp.1,?_⟩;refine⟨_,?_,hb1.seat hp.2.1 hp.2.2⟩;unfold DP.hit Ze.pu;rw[hL];show(⟨_,_,_,_,_,((D.nodes.set k n1).map (·.p))⟩:DP)=_;rw[List.map_set,e1];rfl
 clear h hw hj hr hn hone hlh hrd hnd ha hx hW hlo hhi hK hk hL ho;go_enter Tryz.func38,Tryz.ntmps38
 go_wp2_with first
  |(go_at_call 87;refine H0.out.mono ?_;rintro e w1 ⟨rfl,hk1⟩)
  |(go_at_call 71;refine(H1.out _).mono ?_;rintro e w2 ⟨rfl,hk2⟩;obtain⟨s0,s1,s2⟩:=ZdP hk2;have HK2:Hid (Za (fun _=>False) w w2):=(hk1.allocNew _).trans hk2 (fun _=>id) (fun _ _=>id);clear hk1 hk2)
  |(go_at_call 88;refine(H2.out _ (HK2.out.allocNew _)).mono ?_;rintro e w3 ⟨rfl,rfl⟩)
  |(go_at_call 89;refine(H3.out _ (HK2.out.allocNew _)).mono ?_;rintro e w4 ⟨rfl,hT⟩;have HT4:Hid (∀W'',Za (fun _=>False) w4 W''→Calls Tryz.prog 90 #[.pointer (some ⟨b,2,none⟩),.int .i64 m,.agg #[.int .u64 (x.e.fr:Int),.int .u64 (L:Int)]] W'' fun e w'=>e=.returned (.tuple #[])∧Hid (Z2 w b D (D.pu.hit j k i nd.p x) w')):=H4.out _ _ (HK2.out.allocNew _) hT.out;clear hT)
 go_region_with ((go_at_call 90;refine(HT4.out _ ((Za.alloc _ _ _).drewN _)).mono ?_;rintro e w5 ⟨rfl,hG⟩))
 all_goals
  go_wp2;refine bodyPost_ret (v:=.tuple #[.int .i32 x.e.val,.bool true,.int .i64 0]) (by simp[results,Tryz.results38,go_sem]) rfl ⟨rfl,hG.out⟩
theorem ZfY (w:World)(b:Nat)(D:Ze)(m:Int)(q:ByteArray)(ts:List (Nat×Nat))(j:Nat)(nd:Zn)(h:Dev w b D)(hw:D.Walk)(hj:j<6)(hr:(D.seats j).reads=true)(hn:(D.seats j).num=m)(hone:∀i,i<6→(D.seats i).reads=true→(D.seats i).num=m→i=j)(hlh:(D.seats j).lo≤(D.seats j).hi)(hhi:(D.seats j).hi≤D.past.length)(hq:q.size≤40)(hrd:Q.readL q.data.toList=(0,ts))
 (hnd:D.nodes[D.pu.nodeN q]?=some nd) (ha:nd.p.ans q (D.seats j).lo (D.seats j).hi nd.p.ents.length<0):
 Calls Tryz.prog 38 #[.pointer (some ⟨b,0,none⟩),.int .i64 m,.string q] w fun e w'=>e=.returned (.tuple #[.int .i32 (D.pu.answer q ts (D.seats j).hi).val,.bool false,.int .i64 0])∧Z2 w b D (D.pu.miss j (D.pu.answer q ts (D.seats j).hi)) w':=by
 have hW:=hw.nodes nd (List.mem_of_getElem? hnd);obtain⟨en,hen⟩:∃en,en=ZaV D q ts (D.seats j).hi:=⟨_,rfl⟩;have hen':D.pu.answer q ts (D.seats j).hi=en:=by rw[hen];rfl
 rw[hen'];obtain⟨lo,hlo⟩:∃lo,lo=(D.seats j).lo:=⟨_,rfl⟩;obtain⟨hi,hhi'⟩:∃hi,hi=(D.seats j).hi:=⟨_,rfl⟩;obtain⟨K,hK⟩:∃K,K=Z5 ts:=⟨_,rfl⟩;obtain⟨k,hk⟩:∃k,k=D.pu.nodeN q:=⟨_,rfl⟩;rw[←hk]at hnd;have hbl:=h.blk.lt;obtain⟨g,_,_,ho,_⟩:=h.nodes.block hw.n1;have H0:Hid (Calls Tryz.prog 87 #[.pointer (some ⟨b,2,none⟩),.int .i64 m] w fun e w'=>e=.returned (.tuple #[.agg #[.int .u64 (lo:Int),.int .u64 (hi:Int)],.int .i64 0])∧Za (fun _=>False) w w'):=(ZgY w b D m h).mono fun e w' hp=>by
  obtain⟨k,⟨a,_⟩|⟨i,hi,hri,hni,e1⟩⟩:=hp
  · exact absurd hn (a j hj hr)
  · have:=hone i hi hri hni;subst this;exact⟨by rw[e1,hlo,hhi'],k⟩
 have H1:Hid (∀W,Calls Tryz.prog 71 #[.string q] W fun e w'=>e=.returned (.tuple #[.agg #[.int .u8 K,.int .i64 (ts.length:Int)],.int .i64 0])∧Za (fun _=>False) W w'):=fun W=>(Uk q W ts hrd).mono fun e w' hp=>⟨by rw[hp.1,hK],Za.of_below hp.2 _⟩;have HNO:Hid (∀W,Za (fun _=>False) w W→Calls Tryz.prog 88 #[.pointer (some ⟨b,0,none⟩),.string q] W fun e w'=>e=.returned (.pointer (some ⟨g,k*8,none⟩))∧W=w'):=fun W hW2=>by
  rw[hk];exact Zd3 W b g D q (h.kept hW2 (fun _ _=>id)) ho hw.n1 (by have:=hw.n3;omega) hq
 have HAN:Hid (∀W,Za (fun _=>False) w W→Calls Tryz.prog 89 #[.pointer (some ⟨g,k*8,none⟩),.string q,.agg #[.int .u64 (lo:Int),.int .u64 (hi:Int)]] W fun e w'=>e=.returned (.tuple #[.int .i32 0,.agg #[.int .u64 0,.int .u64 0],.bool false])∧Za (fun _=>False) W w'):=fun W hW2=>by
  rw[←hlo,←hhi']at ha hlh;refine(ZgC W b k g D nd q lo hi (h.kept hW2 (fun _ _=>id)) hnd ho (by have:=hW.el;omega) hW.es hlh (by have:=hW.us;omega)).mono fun e w' hp=> ?_;rcases hp with⟨_,e1,hk1⟩|⟨i',x',h1,_⟩
  · exact⟨e1,hk1⟩
  · omega
 have H2:Hid (∀W,Za (fun _=>False) w W→Calls Tryz.prog 91 #[.pointer (some ⟨b,0,none⟩),.string q,.int .u8 K,.int .u64 (hi:Int)] W fun e w'=>e=.returned (.agg #[.string en.q,.int .i32 en.val,.int .u64 (en.fr:Int),.int .u64 (en.till:Int),.bool en.op,.int .u64 (en.kn:Int)])∧Za (fun _=>False) W w'):=fun W hW=>by
  have:=ZjQ W b D q ts (D.seats j).hi (h.kept hW (fun _ _=>id)) hw.fit hhi hrd;rw[←hen,←hhi',←hK]at this;exact this
 have H3:Hid (∀W,Za (fun _=>False) w W→Calls Tryz.prog 90 #[.pointer (some ⟨b,2,none⟩),.int .i64 m,.agg #[.int .u64 (en.fr:Int),.int .u64 (hi:Int)]] W fun e w'=>e=.returned (.tuple #[])∧Hid (Zv w b D w' (D.seatP j ((D.seats j).cut en.fr hi) D.begun)∧Za (D.fp b) W w')):=fun W hW=>
  (ZgS W b D m j en.fr hi (h.kept hW (fun _ _=>id)) hj hr hn hone).mono fun e w' hp=>⟨hp.1,(Zv.of_kept h hW).seat hp.2.1 hp.2.2,hp.2.2⟩
 have H4:Hid (∀W,Zv w b D W (D.seatP j ((D.seats j).cut en.fr hi) D.begun)→Calls Tryz.prog 92 #[.pointer (some ⟨b,27,none⟩),.agg #[.string en.q,.int .i32 en.val,.int .u64 (en.fr:Int),.int .u64 (en.till:Int),.bool en.op,.int .u64 (en.kn:Int)]] W fun e w'=>e=.returned (.tuple #[])∧Hid (Z2 w b D (D.pu.miss j en) w'∧Za ((D.seatP j ((D.seats j).cut en.fr hi) D.begun).fp b) W w')):=fun W hB=>by
  refine(djoin W b _ en hB.1 ⟨hw.fit.pmax,hw.fit.clk0,hw.fit.clk1,hw.fit.bmax,hw.fit.qmax⟩).mono fun e w' hp=>⟨hp.1,?_⟩;obtain⟨v,r⟩:=hp.2;refine⟨⟨_,?_,hB.trans r⟩,r.2.1⟩;rw[hhi'];rfl
 have HLT:Hid (∀k,D.fp b k→k<w.heap.size):=h.lt;clear h hw hj hr hn hone hlh hhi hrd hen hen' hnd ha hW hlo hhi' hK hk ho;go_enter Tryz.func38,Tryz.ntmps38
 go_wp2_with first
  |(go_at_call 87;refine H0.out.mono ?_;rintro e w1 ⟨rfl,hk1⟩)
  |(go_at_call 71;refine(H1.out _).mono ?_;rintro e w2 ⟨rfl,hk2⟩;obtain⟨s0,s1,s2⟩:=ZdP hk2;have HK2:Hid (Za (fun _=>False) w w2):=(hk1.allocNew _).trans hk2 (fun _=>id) (fun _ _=>id);clear hk1 hk2)
  |(go_at_call 88;refine(HNO.out _ (HK2.out.allocNew _)).mono ?_;rintro e w3 ⟨rfl,rfl⟩)
  |(go_at_call 89;refine(HAN.out _ (HK2.out.allocNew _)).mono ?_;rintro e w4 ⟨rfl,hk4⟩;obtain⟨t0,t1,t2⟩:=ZdP hk4;have r0:=hk4.keep id (Zg s0);have r1:=hk4.keep id (Zg s1);have HK4:Hid (Za (fun _=>False) w w4):=(HK2.out.allocNew _).trans hk4 (fun _=>id) (fun _ _=>id);have s4:w1.heap.size<w4.heap.size:=World.block_lt_of_cell? w4 _ r0;clear hk4)
  |(go_at_call 91;refine(H2.out _ (HK4.out.allocNew _)).mono ?_;rintro e w5 ⟨rfl,hk5⟩;have q1:=hk5.keep id (Zg r1);have HK5:Hid (Za (fun _=>False) w w5):=(HK4.out.allocNew _).trans hk5 (fun _=>id) (fun _ _=>id);have s5:w1.heap.size<w5.heap.size:=World.block_lt_of_cell? w5 _ q1;clear hk5)
 obtain⟨W,hW⟩:∃W,W=w5.alloc (.cells #[.string en.q,.int .i32 en.val,.int .u64 (en.fr:Int),.int .u64 (en.till:Int),.bool en.op,.int .u64 (en.kn:Int)] 55):=⟨_,rfl⟩;have kW:Za (fun _=>False) w W:=by rw[hW];exact HK5.out.allocNew _
 have bW:Blk W w5.heap.size 55 #[.string en.q,.int .i32 en.val,.int .u64 (en.fr:Int),.int .u64 (en.till:Int),.bool en.op,.int .u64 (en.kn:Int)]:=by rw[hW];exact Blk.new _ _ _
 have r2:W.cell? ⟨w1.heap.size,1,none⟩=some (.int .u64 (hi:Int)):=by rw[hW];exact Zg q1
 have p2:W.cell? ⟨w5.heap.size,2,none⟩=some (.int .u64 (en.fr:Int)):=bW.cell 2;have hP:w.heap.size≤w5.heap.size:=HK5.out.size;rw[←hW];have HKW:=hid kW;have HBW:=hid bW;clear hW kW bW q1 r0 r1 s0 s1 s2 s4 s5 t0 t1 t2;generalize w5.heap.size=P at*
 generalize w1.heap.size=S at*
 go_cut [71] (fun _ wx=>Hid (Zv w b D wx (D.seatP j ((D.seats j).cut en.fr hi) D.begun)∧Blk wx P 55 #[.string en.q,.int .i32 en.val,.int .u64 (en.fr:Int),.int .u64 (en.till:Int),.bool en.op,.int .u64 (en.kn:Int)]))
 case first=>
  have H3W:Hid (∀n,Calls Tryz.prog 90 #[.pointer (some ⟨b,2,none⟩),.int .i64 m,.agg #[.int .u64 (en.fr:Int),.int .u64 (hi:Int)]] (W.drewN n) fun e w'=>e=.returned (.tuple #[])∧Hid (Zv w b D w' (D.seatP j ((D.seats j).cut en.fr hi) D.begun)∧Blk w' P 55 #[.string en.q,.int .i32 en.val,.int .u64 (en.fr:Int),.int .u64 (en.till:Int),.bool en.op,.int .u64 (en.kn:Int)])):=fun n=>(H3.out _ (HKW.out.drewN n)).mono fun e w' hp=>⟨hp.1,hp.2.out.1,(HBW.out.same (w':=W.drewN n) rfl).kept hp.2.out.2 (fun hh=>by have:=HLT.out P hh;omega)⟩
  go_region_with ((go_at_call 90;refine(H3W.out _).mono ?_;rintro e w6 ⟨rfl,hn6⟩))
  all_goals
   go_wp2
   go_meet
   case rel=>exact hn6.out
 case rest=>
  have HC:=hcut;clear hcut p2 r2;have hbw:=HC.out.2;have z0:wc.cell? ⟨P,0,none⟩=some (.string en.q):=hbw.cell 0;have z1:wc.cell? ⟨P,1,none⟩=some (.int .i32 en.val):=hbw.cell 1;have z2:wc.cell? ⟨P,2,none⟩=some (.int .u64 (en.fr:Int)):=hbw.cell 2;have z3:wc.cell? ⟨P,3,none⟩=some (.int .u64 (en.till:Int)):=hbw.cell 3;have z4:wc.cell? ⟨P,4,none⟩=some (.bool en.op):=hbw.cell 4;have z5:wc.cell? ⟨P,5,none⟩=some (.int .u64 (en.kn:Int)):=hbw.cell 5;clear hbw;have H4W:Hid (∀n,Calls Tryz.prog 92 #[.pointer (some ⟨b,27,none⟩),.agg #[.string en.q,.int .i32 en.val,.int .u64 (en.fr:Int),.int .u64 (en.till:Int),.bool en.op,.int .u64 (en.kn:Int)]] (wc.drewN n) fun e w'=>e=.returned (.tuple #[])∧Hid (Z2 w b D (D.pu.miss j en) w'∧w'.cell? ⟨P,1,none⟩=some (.int .i32 en.val))):=fun n=>(H4.out _ (HC.out.1.more ((Za.refl _ _).drewN n))).mono fun e w' hp=>⟨hp.1,hp.2.out.1,hp.2.out.2.keep (fun hh=>by have:=HLT.out P hh;omega) (HC.out.2.cell 1)⟩
  go_wp2_with fail
  go_cut [76] (fun _ wx=>Hid (Z2 w b D (D.pu.miss j en) wx∧wx.cell? ⟨P,1,none⟩=some (.int .i32 en.val)))
  case first=>
   go_region_with ((go_at_call 92;refine(H4W.out _).mono ?_;rintro e w7 ⟨rfl,hn7⟩))
   all_goals
    go_wp2
    go_meet
    case rel=>exact hn7.out
  case rest=>
   have HC7:=hcut;have y1:=HC7.out.2;clear hcut z0 z1 z2 z3 z4 z5;go_wp2;refine bodyPost_ret (v:=.tuple #[.int .i32 en.val,.bool false,.int .i64 0]) (by simp[results,Tryz.results38,go_sem]) rfl ⟨rfl,HC7.out.1⟩
structure DP.Good (P:DP)(n:Nat):Prop where
 pmax:P.past.length≤700
 clk0:0≤P.clock
 clk1:P.clock≤100000
 bmax:P.begun≤200
 qmax:P.puts.length≤10
 s1:0<P.sites.length
 s3:P.sites.length≤3
 sites:∀s∈P.sites,s.Good P.past.length n
 puts:∀e∈P.puts,Yt e P.past.length
theorem DP.Good.walk {D:Ze}{n:Nat}(h:D.pu.Good n)(hn:n<9223372036854775807):D.Walk:=by
 have e:D.pu.sites=D.nodes.map (·.p):=rfl;have hl:D.pu.sites.length=D.nodes.length:=by rw[e,List.length_map]
 refine⟨⟨h.pmax,h.clk0,h.clk1,h.bmax,h.qmax⟩,by rw[←hl];exact h.s1,by rw[←hl];exact h.s3,fun nd hnd=> ?_,fun x hx=>(h.puts x hx).q40⟩;exact(h.sites nd.p (by rw[e];exact List.mem_map_of_mem hnd)).walk h.pmax hn
theorem DP.Good.more {P:DP}{n n':Nat}(h:P.Good n)(hn:n≤n'):P.Good n':=
 ⟨h.pmax,h.clk0,h.clk1,h.bmax,h.qmax,h.s1,h.s3,fun s hs=>(h.sites s hs).more (Nat.le_refl _) hn,h.puts⟩
theorem DP.Good.put {P:DP}{n:Nat}(h:P.Good n)(k:Int){s:Zb}(hs:s.Good P.past.length n):(P.put k s).Good n:=by
 refine⟨h.pmax,h.clk0,h.clk1,h.bmax,h.qmax,by show 0<(P.sites.set _ _).length;rw[List.length_set];exact h.s1,by show(P.sites.set _ _).length≤3;rw[List.length_set];exact h.s3,fun x hx=> ?_,h.puts⟩;rcases List.mem_or_eq_of_mem_set hx with hx|rfl
 · exact h.sites x hx
 · exact hs
theorem DP.Good.askS {P:DP}{n:Nat}{s:Zb}(hs:s.Good P.past.length n):(P.askS s).Good P.past.length n:=by
 unfold DP.askS
 split
 · exact hs.rise (Nat.le_refl _)
 · rename_i hu
   split
   · rename_i hl
     exact hs.hear (by cases h:s.up with
      |true=>rfl
      |false=>exact absurd h hu) hl _
   · exact hs
theorem DP.Good.drop {P:DP}{n:Nat}(h:P.Good n)(i:Int):(P.drop i).2.Good n:=by
 unfold DP.drop
 split
 · exact h
 · have hle:=List.length_eraseIdx_le P.puts i.toNat;exact⟨h.pmax,h.clk0,h.clk1,h.bmax,by have:=h.qmax;show(P.puts.eraseIdx _).length≤10;omega,h.s1,h.s3,h.sites,fun e he=>h.puts e (List.mem_of_mem_eraseIdx he)⟩
theorem DP.Good.store {P:DP}{n:Nat}(h:P.Good n)(i:Int):(P.store i).2.2.Good (n+1):=by
 unfold DP.store
 split
 · exact h.more (Nat.le_succ _)
 · cases he:P.puts[i.toNat]? with
   |none=>exact h.more (Nat.le_succ _)
   |some e=>
    dsimp only;cases hs:P.sites[P.nodeN e.q]? with
    |none=>exact h.more (Nat.le_succ _)
    |some s=>
     dsimp only;have hle:=List.length_eraseIdx_le P.puts i.toNat;refine⟨h.pmax,h.clk0,h.clk1,h.bmax,by have:=h.qmax;show(P.puts.eraseIdx _).length≤10;omega,by show 0<(P.sites.set _ _).length;rw[List.length_set];exact h.s1,by show(P.sites.set _ _).length≤3;rw[List.length_set];exact h.s3,fun x hx=> ?_,fun y hy=>h.puts y (List.mem_of_mem_eraseIdx hy)⟩;rcases List.mem_or_eq_of_mem_set hx with hx|rfl
     · exact(h.sites x hx).more (Nat.le_refl _) (Nat.le_succ _)
     · exact(h.sites s (List.mem_of_getElem? hs)).store (h.puts e (List.mem_of_getElem? he))
theorem DP.Good.push {P:DP}{n:Nat}(h:P.Good n)(q:Zj)(hp:P.past.length<700):(P.push q).Good n:=by
 have e:(P.past++[q]).length=P.past.length+1:=by simp
 refine⟨by show(P.past++[q]).length≤700;omega,h.clk0,h.clk1,h.bmax,h.qmax,by show 0<(P.sites.map _).length;rw[List.length_map];exact h.s1,by show(P.sites.map _).length≤3;rw[List.length_map];exact h.s3,fun x hx=> ?_,fun y hy=>(h.puts y hy).more (by show P.past.length≤(P.past++[q]).length;omega)⟩;obtain⟨s,hs,rfl⟩:=List.mem_map.mp hx;show Zb.Good _ (P.past++[q]).length n;rw[e];exact(h.sites s hs).tell q.keys
theorem ZgE {l:List Zj}{K:Int}{s:Nat}:∀n,Yg l K n=some s→s≤l.length-1
 |0,h=>by simp[Yg]at h
 |n+1,h=>by
  simp only[Yg]at h
  split at h
  · injection h with h;omega
  · exact ZgE n h
theorem Zc8 {l:List UInt8}{ts:List (Nat×Nat)}(h:Q.readL l=(0,ts)):l.length≤40:=by
 unfold Q.readL at h
 split at h
 · simp at h
 · omega
theorem ZhM {P:DP}{q:ByteArray}{ts:List (Nat×Nat)}{t:Nat}(hq:Q.readL q.data.toList=(0,ts))(ht:t≤P.past.length):Yt (P.answer q ts t) P.past.length:=by
 have hl:=Zc8 hq;have hql:q.data.toList.length=q.size:=by rw[Array.length_toList];rfl
 have e:(zeroP::P.past).length-1=P.past.length:=by simp
 have hfr:=ZbW (zeroP::P.past) (Z5 ts) t;refine⟨by show q.size≤40;omega,by show(zeroP::P.past).length-1≤_;omega,?_,fun ho=> ?_,fun ho=> ?_⟩
 · show(Yg (zeroP::P.past) (Z5 ts) ((zeroP::P.past).length-1-t)).getD 0≤_;cases h:Yg (zeroP::P.past) (Z5 ts) ((zeroP::P.past).length-1-t)with
   |none=>simp
   |some s=>have:=ZgE _ h;simp only[Option.getD_some];omega
 · have ho':(Yg (zeroP::P.past) (Z5 ts) ((zeroP::P.past).length-1-t)).isNone=false:=ho;show fromN _ _ t<(Yg (zeroP::P.past) (Z5 ts) ((zeroP::P.past).length-1-t)).getD 0;cases h:Yg (zeroP::P.past) (Z5 ts) ((zeroP::P.past).length-1-t)with
   |none=>rw[h]at ho';cases ho'
   |some s=>have:=Zcp _ (by omega) h;simp only[Option.getD_some];omega
 · show fromN _ _ t≤(zeroP::P.past).length-1;omega
theorem DP.Good.hit {P:DP}{n j k i:Nat}{s:Zb}{x:Zu}(h:P.Good n)(hs:P.sites[k]?=some s)(hx:s.ents[i]?=some x):(P.hit j k i s x).Good (n+1):=by
 refine⟨h.pmax,h.clk0,h.clk1,h.bmax,h.qmax,by show 0<(P.sites.set _ _).length;rw[List.length_set];exact h.s1,by show(P.sites.set _ _).length≤3;rw[List.length_set];exact h.s3,fun y hy=> ?_,h.puts⟩;rcases List.mem_or_eq_of_mem_set hy with hy|rfl
 · exact(h.sites y hy).more (Nat.le_refl _) (Nat.le_succ _)
 · exact(h.sites s (List.mem_of_getElem? hs)).use hx
theorem DP.Good.miss {P:DP}{n j:Nat}{e:Zh}(h:P.Good n)(he:Yt e P.past.length):(P.miss j e).Good n:=by
 have hq:=h.qmax;refine⟨h.pmax,h.clk0,h.clk1,h.bmax,?_,h.s1,h.s3,h.sites,fun y hy=> ?_⟩
 · show(if P.puts.length<10 then P.puts++[e]else P.puts).length≤10
   split
   · simp;omega
   · exact hq
 · have hy':y∈(if P.puts.length<10 then P.puts++[e]else P.puts):=hy
   split at hy'
   · rw[List.mem_append,List.mem_singleton]at hy';rcases hy' with hy'|rfl
     · exact h.puts y hy'
     · exact he
   · exact h.puts y hy'
theorem DP.Good.seats {P:DP}{n:Nat}(h:P.Good n)(f:Nat→Yb)(m:Nat)(hm:m≤200):({P with seats:=f,begun:=m}:DP).Good n:=⟨h.pmax,h.clk0,h.clk1,hm,h.qmax,h.s1,h.s3,h.sites,h.puts⟩
def V8 (room:Int):Zb:=⟨true,room,0,[],[],[],0,[]⟩
def Ym (room:Int):Zn:=⟨V8 room,ZH,ZH,ZH,ZH⟩
def Xj (room:Int)(k:Nat)(vn:Value):Ze:=⟨0,[],0,fun _=>⟨false,0,0,0⟩,[],ZH,ZH,List.replicate k (Ym room),vn⟩
theorem ZcX (room:Int):∀r∈Z1 (Ym room),r.v=.slice none 0 0∧r.n=0∧r.xs=[]:=by
 intro r hr;simp only[Z1,Ym,List.mem_cons,List.not_mem_nil,or_false]at hr;rcases hr with rfl|rfl|rfl|rfl<;>exact⟨rfl,rfl,rfl⟩
theorem ZjY {room:Int}{k b x:Nat}{vn:Value}(h:(Xj room k vn).fp b x):x=b∨vn.ownBlock=some x:=by
 rcases h with h|⟨r,hr,hx⟩
 · exact .inl h
 · simp only[Ze.rows,Xj,List.mem_cons,List.mem_flatMap]at hr;rcases hr with rfl|rfl|rfl|⟨nd,hnd,hr⟩
   · simp[ZH,Value.ownBlock]at hx
   · simp[ZH,Value.ownBlock]at hx
   · exact .inr hx
   · obtain rfl:=List.eq_of_mem_replicate hnd;rw[(ZcX room r hr).1]at hx;simp[Value.ownBlock]at hx
structure Xo (w wr:World)(room:Int)(k:Nat)(vn:Value):Prop where
 dev:Dev wr w.heap.size (Xj room k vn)
 kept:Za (fun _=>False) w wr
 own:∀x,vn.ownBlock=some x→w.heap.size≤x
theorem Xo.start (w:World)(room:Int):Xo w (w.alloc (.cells (Xj room 0 ZH).cells 129)) room 0 ZH:=by
 refine⟨⟨Blk.new _ _ _,ZbQ fun r hr=> ?_⟩,Za.alloc _ _ _,fun x hx=>by simp[ZH,Value.ownBlock]at hx⟩;simp only[Ze.rows,Xj,List.replicate_zero,List.flatMap_nil,List.mem_cons,List.not_mem_nil,or_false]at hr;rcases hr with rfl|rfl|rfl<;>exact⟨rfl,rfl,rfl⟩
theorem Xo.next {w wr w':World}{room:Int}{k:Nat}{vn v:Value}(h:Xo w wr room k vn)(hA:Zc wr w' 139 8 vn v k 1 ((List.replicate k (Ym room)).flatMap ZN) (ZN (Ym room))):
 Xo w (w'.setCell ⟨w.heap.size,28,none⟩ v) room (k+1) v:=by
 have r:=h.dev;have k1:=hA.kept;have k2:=Za.setCell w' ⟨w.heap.size,28,none⟩ v;have ownv:∀x,v.ownBlock=some x→vn.ownBlock=some x∨wr.heap.size≤x:=fun x hx=>hA.own.imp (fun e=>by rw[←e];exact hx) (fun e=>e x hx);have blk1:Blk w' w.heap.size _ _:=r.blk.kept k1 fun he=>r.nodes.ne_block r.blk (by decide) he;have hn:Yw.Is w' ⟨139,8,v,(List.replicate (k+1) (Ym room)).length,(List.replicate (k+1) (Ym room)).flatMap ZN⟩:=by
  show Row w' _ 8 v (List.replicate (k+1) (Ym room)).length ((List.replicate (k+1) (Ym room)).flatMap ZN);rw[List.length_replicate,List.replicate_succ',List.flatMap_append];simpa using hA.row
 have all1:=(r.all.put 2 (Xj room k vn).nodeD ⟨139,8,v,(List.replicate (k+1) (Ym room)).length,(List.replicate (k+1) (Ym room)).flatMap ZN⟩ rfl k1 hn ownv).more (ZcX room);have er:(Xj room (k+1) v).rows=((Xj room k vn).rows.set 2 ⟨139,8,v,(List.replicate (k+1) (Ym room)).length,(List.replicate (k+1) (Ym room)).flatMap ZN⟩)++Z1 (Ym room):=by
  show _::_::_::(List.replicate (k+1) (Ym room)).flatMap Z1=_::_::_::((List.replicate k (Ym room)).flatMap Z1++Z1 (Ym room));have e:(List.replicate (k+1) (Ym room)).flatMap Z1=(List.replicate k (Ym room)).flatMap Z1++Z1 (Ym room):=by rw[List.replicate_succ',List.flatMap_append];simp
  rw[e];rfl
 refine⟨⟨blk1.set 28 v,?_⟩,h.kept.trans (k1.trans k2 (H:=fun x=>vn.ownBlock=some x∨x=w.heap.size) (fun x hx=>.inl hx) (fun x _ hx=>.inr hx)) (fun _=>id) (fun x hx hf=> ?_),fun x hx=> ?_⟩
 · rw[er];refine all1.kept k2 ?_;rintro j ⟨a,ha,hj⟩ he;subst he;exact(all1.row a ha).ne_block blk1 (X6 (D:=Xj room (k+1) v) (by rw[er];exact ha)) hj
 · rcases hf with hf|hf
   · have:=h.own x hf;omega
   · omega
 · rcases ownv x hx with e|e
   · exact h.own x e
   · exact Nat.le_trans h.kept.size e
def newA (room:Int):Array Value:=#[.bool true,.int .i64 room,.int .u64 0,.slice none 0 0,.slice none 0 0,.slice none 0 0,.int .u64 0]
theorem dmnew (room:Int)(w:World):Calls Tryz.prog 70 #[.int .i64 room] w fun e w'=>e=.returned (.agg (newA room))∧Za (fun _=>False) w w':=by
 go_enter Tryz.func70,Tryz.ntmps70;go_wp2;exact bodyPost_ret (v:=.agg (newA room)) (by simp[results,Tryz.results70,go_sem,newA]) rfl ⟨rfl,Za.alloc _ _ _⟩
theorem Tryz.infoSite :(Tryz.prog.info? 139).map (fun i=>(i.zero,i.size,i.bytes))=some (some (.agg #[.bool false,.int .i64 0,.int .u64 0,.slice none 0 0,.slice none 0 0,.slice none 0 0,.int .u64 0,.slice none 0 0]),8,128):=by kernel_rfl
theorem ZcP (room:Int):∀u∈ZN (Ym room),u.oneCell'=true:=by
 intro u hu;simp[ZN,Ym,ZH]at hu;rcases hu with rfl|rfl|rfl|rfl|rfl|rfl|rfl|rfl<;>rfl
theorem Zgn (w:World)(room:Int)(t:TypeId):∀j u,(ZN (Ym room))[j]?=some u→(w.alloc (.cells #[.bool true,.int .i64 room,.int .u64 0,.slice none 0 0,.slice none 0 0,.slice none 0 0,.int .u64 0,.slice none 0 0] t)).cell? ((⟨w.heap.size,0,none⟩:Addr).add j)=some u:=by
 intro j u hj;have e:(⟨w.heap.size,0,none⟩:Addr).add j=⟨w.heap.size,j,none⟩:=by cases j<;>simp[Addr.add]
 rw[e,World.cell?_alloc_at _ _ _ _ rfl];simpa[ZN,Ym,V8,ZH]using hj
theorem Zhk {P:Program}{w:World}{ops:Array Oper}{o:Oper}{a:Act}{K:Act→World→Prop}{Q:Exit→Act→World→Prop}{E:Prop}(hgd:o.guard=none)(f:FuncId)(A:Array Operand)(ts:Array TypeId)(ho:o.op=.call {callee:=.value (.func f),args:=A,argTypes:=ts})(args:Array Value)(hargs:A.toList.map a.eval=args.toList)(v:Value)(Post:World→Prop)
 (hrun:(Deferred.ofValue (a.eval (.func f)) args).run P w=.ok ⟨.fn (.func f) #[],args⟩ w) (hrun2:(invoke (.fn (.func f) #[]) args).run P w=.ok (.enter f args) w) (hc:Calls P f args w fun e w'=>e=.returned v∧Post w') (h:∀w',Post w'→K (a.put o.dst v) w'):if Region.wanted o (yielded ops a.tmps)=true then Oper.wp P o a w K Q else E:=by
 have hw:Region.wanted o (yielded ops a.tmps)=true:=by simp[Region.wanted,hgd]
 rw[if_pos hw];unfold Oper.wp;have hargs:A.map a.eval=args:=Array.ext' (by rw[Array.toList_map];exact hargs);have hr:(execOp a.eval o).run P w=.ok (.enter f args) w:=by
  simp[execOp,ho,resolve,hargs,hrun,hrun2,Result.andThen]
 rw[hr,Oper.upon_enter];refine hc.mono fun e w'' hh=> ?_;obtain⟨rfl,hp⟩:=hh;exact h _ hp
theorem kdrew0 {W w:World}{n:Nat}(h:Za (fun _=>False) (W.drewN n) w):Za (fun _=>False) W w:=((Za.refl (fun _=>False) W).drewN n).trans h (fun _=>id) (fun _ _=>id)
theorem Xo.row {w wr:World}{r:Int}{k:Nat}{v:Value}(h:Xo w wr r k v)(o:Obj):Row (wr.alloc o) 139 8 v k ((List.replicate k (Ym r)).flatMap ZN):=by
 have:=h.dev.nodes.kept (Za.alloc wr o (fun _=>False)) (fun _ _=>id);have e:(Xj r k v).nodes.length=k:=by simp[Xj]
 rw[e]at this;exact this
theorem Xo.after {w wr w':World}{r:Int}{k:Nat}{v v':Value}{o:Obj}(h:Xo w wr r k v)(hA:Zc (wr.alloc o) w' 139 8 v v' k 1 ((List.replicate k (Ym r)).flatMap ZN) (ZN (Ym r))):
 w'.cell? ⟨w.heap.size,28,none⟩=some v∧w'.frozen? ⟨w.heap.size,28,none⟩=false∧Hid (Xo w (w'.setCell ⟨w.heap.size,28,none⟩ v') r (k+1) v'):=by
 have hA:=hA.of_alloc;have bb:=h.dev.blk.kept hA.kept fun he=>h.dev.nodes.ne_block h.dev.blk (by decide) he;exact⟨bb.cell 28,bb.free 28,h.next hA⟩
def Zim (w:World)(n:Nat)(room:Int)(e:Ending)(w':World):Prop:=
 e=.returned (.tuple #[.pointer (some ⟨w.heap.size,0,none⟩),.int .i64 0])∧∃vn,Xo w w' room n vn
theorem dnew (n:Nat)(r:Int)(w:World)(h1:1≤n)(h2:n≤3)(h3:1≤r)(h4:r≤6):
 Calls Tryz.prog 23 #[.int .i64 n,.int .i64 r] w fun e w'=>Zim w n r e w':=by
 have hd0:decide ((n:Int)<1)=false:=by simp;omega
 have hd1:decide (r<1)=false:=by simp;omega
 obtain⟨i1,hi,hz0,hz1,hz2⟩:=info_parts Tryz.infoSite;have HN:Hid (Tryz.prog.info? 139=some i1∧i1.zero=some (.agg #[.bool false,.int .i64 0,.int .u64 0,.slice none 0 0,.slice none 0 0,.slice none 0 0,.int .u64 0,.slice none 0 0])∧i1.size=8∧i1.bytes=128):=⟨hi,hz0,hz1,hz2⟩;clear hi hz0 hz1 hz2;have HNEW:Hid (∀W,Calls Tryz.prog 70 #[.int .i64 r] W fun e w'=>e=.returned (.agg #[.bool true,.int .i64 r,.int .u64 0,.slice none 0 0,.slice none 0 0,.slice none 0 0,.int .u64 0])∧Za (fun _=>False) W w'):=fun W=>dmnew r W;have HST:Hid (Xo w (w.alloc (.cells (Xj r 0 ZH).cells 129)) r 0 ZH):=Xo.start w r;go_enter Tryz.func23,Tryz.ntmps23;go_wp2
 go_loopw [22] (fun i wr=>∃k:Nat,k≤n∧i=.int .i64 k∧Hid (∃vn,Xo w wr r k vn)) (fun i _=>n-(intOf i).toNat)
 case atStart=>exact⟨0,Nat.zero_le _,rfl,_,HST.out⟩
 case round=>
  obtain⟨k,hk,rfl,HL⟩:=hrel;obtain⟨vn,hL⟩:=HL.out;obtain⟨ao,cap,hvn,_⟩:=hL.dev.nodes.form
  have hvn':vn=.slice ao k cap:=by have:(Xj r k vn).nodes.length=k:=by simp[Xj]
                                   rw[this]at hvn;exact hvn
  subst hvn';have c28:wr.cell? ⟨w.heap.size,28,none⟩=some (.slice ao k cap):=hL.dev.blk.cell 28;have hz:=hL.dev.blk.lt;have HLL:=hid hL;by_cases hlt:k<n
  · have HKW:Hid (∀W,Za (fun _=>False) wr W→Xo w W r k (.slice ao k cap)):=fun W hW=>⟨hL.dev.kept hW (fun _ _=>id),hL.kept.trans hW (fun _=>id) (fun _ _=>id),hL.own⟩;have k1:k+1≤maxLen:=by unfold maxLen;omega
    have k2:(k+1)*128≤140737488355328:=by omega
    clear hL hvn
    go_wp2_with fail
    go_region_law first
     |(refine Zhk rfl 70 #[.tmp 29] #[3] rfl #[.int .i64 r] rfl _ _ rfl (by simp[invoke,go_sem]) (HNEW.out _) ?_;intro w1 hk1;have HL1:Hid (Xo w w1 r k (.slice ao k cap)):=HKW.out _ (kdrew0 hk1);have d28:w1.cell? ⟨w.heap.size,28,none⟩=some (.slice ao k cap):=HL1.out.dev.blk.cell 28;have e28:∀o:Obj,(w1.alloc o).cell? ⟨w.heap.size,28,none⟩=some (.slice ao k cap):=fun o=>(Za.alloc w1 o (fun _=>False)).keep id d28;have HROW:Hid (∀(o:Obj),Row (w1.alloc o) 139 8 (.slice ao k cap) k ((List.replicate k (Ym r)).flatMap ZN)):=fun o=>HL1.out.row o;have HAFT:Hid (∀(o:Obj)(w':World)(v':Value),Zc (w1.alloc o) w' 139 8 (.slice ao k cap) v' k 1 ((List.replicate k (Ym r)).flatMap ZN) (ZN (Ym r))→w'.cell? ⟨w.heap.size,28,none⟩=some (.slice ao k cap)∧w'.frozen? ⟨w.heap.size,28,none⟩=false∧Hid (Xo w (w'.setCell ⟨w.heap.size,28,none⟩ v') r (k+1) v')):=fun o w' v' hA=>HL1.out.after hA;clear hk1)
     |(refine Zw rfl (.tmp 28) (.tmp 32) 127 rfl 139 i1 (.agg #[.bool false,.int .i64 0,.int .u64 0,.slice none 0 0,.slice none 0 0,.slice none 0 0,.int .u64 0,.slice none 0 0]) 8 128 Tryz.underlying127 HN.out.1 HN.out.2.1 HN.out.2.2.1 HN.out.2.2.2 rfl (Nat.succ_pos 7) (.slice ao k cap) k ((List.replicate k (Ym r)).flatMap ZN) rfl (HROW.out _) ⟨w1.heap.size,0,none⟩ 1 1 (ZN (Ym r)) rfl rfl (fun j u hj=>Zgn w1 r _ j u hj) (ZcP r) k1 k2 ?_;intro v' w' hA;obtain⟨p1,p2,p3⟩:=HAFT.out _ _ _ hA;obtain⟨ao',cap',hv',_⟩:=hA.row.form;clear hA;subst hv')
    all_goals
     go_wp2
     go_roundw
     case rel=>exact⟨k+1,by omega,by go_num,_,p3.out⟩
     case measure=>simp[intOf];omega
  · have hkk:k=n:=by omega
    subst hkk;clear hL hvn;go_wp2;go_ret2;exact⟨rfl,_,HLL.out⟩
def u8C (x:Int):List Value:=[.int .u8 x]
def Xh (x:Int×Int):List Value:=[.int .u8 x.1,.int .u8 x.2]
def ZbX (t:Nat):Int:=bits .and .u64 (t:Int) 255%256
def Z4 (p:Zb)(n:Nat):List Int:=((List.range n).filter fun i=>ZB p.waits (p.horizon+2+i)).map fun i=>ZbX (p.horizon+2+i)
theorem Zdk {p:Zb}{n:Nat}(h:ZB p.waits (p.horizon+2+n)=true):Z4 p (n+1)=Z4 p n++[ZbX (p.horizon+2+n)]:=by
 unfold Z4;rw[List.range_succ,List.filter_append,List.map_append];simp[h]
theorem Zfa {p:Zb}{n:Nat}(h:ZB p.waits (p.horizon+2+n)=false):Z4 p (n+1)=Z4 p n:=by
 unfold Z4;rw[List.range_succ,List.filter_append,List.map_append];simp[h]
theorem Zdj (p:Zb)(n:Nat):(Z4 p n).length≤n:=by
 unfold Z4;rw[List.length_map];have:=List.length_filter_le (fun i=>ZB p.waits (p.horizon+2+i)) (List.range n);rw[List.length_range]at this;exact this
def Yz (c:Nat×Int):Int×Int:=(ZbX c.1,c.2)
theorem Za.setO {A:Nat}{W X:World}(h:Za (fun j=>j=A) W X)(f:Nat)(v:Value):Za (fun j=>j=A) W (X.setCell ⟨A,f,none⟩ v):=
 h.trans (Za.setCell X ⟨A,f,none⟩ v) (fun _=>id) (fun _ _ he=>he)
theorem Tryz.infoU8 :(Tryz.prog.info? 5).map (fun i=>(i.zero,i.size,i.bytes))=some (some (.int .u8 0),1,1):=by kernel_rfl
theorem Tryz.infoMsg :(Tryz.prog.info? 62).map (fun i=>(i.zero,i.size,i.bytes))=some (some (.agg #[.int .u8 0,.int .u8 0]),2,2):=by kernel_rfl
theorem Zcy (x:Int):∀u∈u8C x,u.oneCell'=true:=by
 intro u hu;simp[u8C]at hu;subst hu;rfl
theorem ZgL (w:World)(x:Int)(t:TypeId):∀j u,(u8C x)[j]?=some u→(w.alloc (.cells #[.int .u8 x] t)).cell? ((⟨w.heap.size,0,none⟩:Addr).add j)=some u:=by
 intro j u hj;have e':(⟨w.heap.size,0,none⟩:Addr).add j=⟨w.heap.size,j,none⟩:=by cases j<;>simp[Addr.add]
 rw[e',World.cell?_alloc_at _ _ _ _ rfl];simpa[u8C]using hj
theorem Zel (x:Int×Int):∀u∈Xh x,u.oneCell'=true:=by
 intro u hu;simp[Xh]at hu;rcases hu with rfl|rfl<;>rfl
theorem ZiF (w:World)(x:Int×Int)(t:TypeId):∀j u,(Xh x)[j]?=some u→(w.alloc (.cells #[.int .u8 x.1,.int .u8 x.2] t)).cell? ((⟨w.heap.size,0,none⟩:Addr).add j)=some u:=by
 intro j u hj;have e':(⟨w.heap.size,0,none⟩:Addr).add j=⟨w.heap.size,j,none⟩:=by cases j<;>simp[Addr.add]
 rw[e',World.cell?_alloc_at _ _ _ _ rfl];simpa[Xh]using hj
theorem Zh3 (w:World)(x:Nat×Int)(o:Obj)(t:TypeId):∀j u,(Xh (Yz x))[j]?=some u→((w.alloc o).alloc (.cells #[.int .u8 (bits .and .u64 (x.1:Int) 255%256),.int .u8 x.2] t)).cell? ((⟨w.heap.size+1,0,none⟩:Addr).add j)=some u:=by
 intro j u hj;have hh:=ZiF (w.alloc o) (Yz x) t j u hj;simp only[World.size_alloc]at hh;exact hh
theorem ZdW (x:Zh):∀u∈Zk x,u.oneCell'=true:=by
 intro u hu;simp[Zk]at hu;rcases hu with rfl|rfl|rfl|rfl|rfl|rfl<;>rfl
theorem Zhq (w:World)(e:Zh)(t:TypeId):∀j u,(Zk e)[j]?=some u→(w.alloc (.cells #[.string e.q,.int .i32 e.val,.int .u64 (e.fr:Int),.int .u64 (e.till:Int),.bool e.op,.int .u64 (e.kn:Int)] t)).cell? ((⟨w.heap.size,0,none⟩:Addr).add j)=some u:=by
 intro j u hj;have e':(⟨w.heap.size,0,none⟩:Addr).add j=⟨w.heap.size,j,none⟩:=by cases j<;>simp[Addr.add]
 rw[e',World.cell?_alloc_at _ _ _ _ rfl];simpa[Zk]using hj
theorem Ziz (w:World)(b k g:Nat)(D:Ze)(nd:Zn)(h:Dev w b D)(hnd:D.nodes[k]?=some nd)(ho:D.vn.ownBlock=some g)(hw:nd.p.Walk):
 Calls Tryz.prog 150 #[.pointer (some ⟨g,k*8,none⟩)] w fun e w'=>∃ao cap,e=.returned (.slice ao (Z4 nd.p 4).length cap)∧Hid (ZG 5 1 u8C w w' (.slice ao (Z4 nd.p 4).length cap) (Z4 nd.p 4)):=by
 have c2:w.cell? ⟨g,k*8+2,none⟩=some (.int .u64 (nd.p.horizon:Int)):=h.nodeC hnd ho 2 (by omega) _ rfl;have c4:w.cell? ⟨g,k*8+4,none⟩=some nd.wt:=h.nodeC hnd ho 4 (by omega) _ rfl;have hz:=hw.ok.hz;have HW:Hid (∀(W:World)(t:Nat),Za (fun _=>False) w W→Calls Tryz.prog 151 #[.pointer (some ⟨g,k*8,none⟩),.int .u64 t] W fun e w'=>e=.returned (.bool (ZB nd.p.waits t))∧Za (fun _=>False) W w'):=fun W t hW=>Ziy W g (k*8) nd.wt nd.p.waits t (hW.hold c4) ((h.waits nd (List.mem_of_getElem? hnd)).kept hW (fun _ _=>id)) hw.ok.wl;obtain⟨i0,hi,hz0,hz1,hz2⟩:=info_parts Tryz.infoU8;have HI:Hid (Tryz.prog.info? 5=some i0∧i0.zero=some (.int .u8 0)∧i0.size=1∧i0.bytes=1):=⟨hi,hz0,hz1,hz2⟩;obtain⟨p,hp⟩:∃p,p=nd.p:=⟨_,rfl⟩;rw[←hp]at HW hz c2⊢;clear hi hz0 hz1 hz2 h hnd ho hw c4 hp;go_enter Tryz.func150,Tryz.ntmps150;go_wp2
 go_loopw [3,5] (fun v sv wr=>∃j:Nat,j≤4∧sv=.int .u64 ((p.horizon+2+j:Nat):Int)∧Hid (ZG 5 1 u8C w wr v (Z4 p j))) (fun _ sv _=>p.horizon+6-(intOf sv).toNat)
 case atStart=>exact⟨0,by omega,by go_num,ZG.start _ _ _ _⟩
 case round=>
  obtain⟨j,hj,rfl,HG⟩:=hrel;obtain⟨av,cv,hvv,_⟩:=HG.out.row.form;have hwl:=Zdj p j;obtain⟨n,hn⟩:∃n,n=(Z4 p j).length:=⟨_,rfl⟩;rw[←hn]at hvv hwl;subst hvv;by_cases hlt:j<4
  · have hd:((p.horizon+2+j:Nat):Int)<(p.horizon:Int)+2+4:=by omega
    have b1:n+1≤maxLen:=by unfold maxLen;omega
    have b2:(n+1)*1≤140737488355328:=by omega
    cases hb:ZB p.waits (p.horizon+2+j)with
    |false=>
     have HX:Hid (Z4 p (j+1)=Z4 p j):=Zfa hb;have HWJ:Hid (Calls Tryz.prog 151 #[.pointer (some ⟨g,k*8,none⟩),.int .u64 ((p.horizon+2+j:Nat):Int)] wr fun e w'=>e=.returned (.bool false)∧Za (fun _=>False) wr w'):=by have:=HW.out wr (p.horizon+2+j) HG.out.kept;rw[hb]at this;exact this
     clear hb hn
     go_wp2_with (go_at_call 151;refine HWJ.out.mono ?_;rintro e w1 ⟨rfl,hk1⟩)
     go_roundw
     case rel=>exact⟨j+1,by omega,by go_num,by rw[HX.out];exact HG.out.more hk1⟩
     case measure=>simp[intOf];omega
    |true=>
     have HX:Hid (Z4 p (j+1)=Z4 p j++[ZbX (p.horizon+2+j)]):=Zdk hb;have HWJ:Hid (Calls Tryz.prog 151 #[.pointer (some ⟨g,k*8,none⟩),.int .u64 ((p.horizon+2+j:Nat):Int)] wr fun e w'=>e=.returned (.bool true)∧Za (fun _=>False) wr w'):=by have:=HW.out wr (p.horizon+2+j) HG.out.kept;rw[hb]at this;exact this
     have HROW:Hid (∀(W:World)(o:Obj),Za (fun _=>False) wr W→Row (W.alloc o) 5 1 (.slice av n cv) n ((Z4 p j).flatMap u8C)):=fun W o hW=>by have:=(HG.out.row.kept hW (fun _ _=>id)).kept (Za.alloc W o (fun _=>False)) (fun _ _=>id);rw[←hn]at this;exact this
     have HNX:Hid (∀(W:World)(o:Obj)(w':World)(v':Value),Za (fun _=>False) wr W→Zc (W.alloc o) w' 5 1 (.slice av n cv) v' n 1 ((Z4 p j).flatMap u8C) (u8C (ZbX (p.horizon+2+j)))→ZG 5 1 u8C w w' v' (Z4 p j++[ZbX (p.horizon+2+j)])):=by
      intro W o w' v' hW hA;rw[hn]at hA HG;exact((HG.out.more hW).more (Za.alloc W o (fun _=>False))).next hA
     clear hb hn
     go_wp2_with first
      |(go_at_call 151;refine HWJ.out.mono ?_;rintro e w1 ⟨rfl,hk1⟩;have HK1:Hid (Za (fun _=>False) wr w1):=hk1;clear hk1)
      |(at_builtin;go_must (refine Zf _ rfl (.tmp 21) (.tmp 25) 100 rfl 5 i0 (.int .u8 0) 1 1 Tryz.underlying100 HI.out.1 HI.out.2.1 HI.out.2.2.1 HI.out.2.2.2 rfl (by decide) (.slice av n cv) n _ rfl (HROW.out _ _ HK1.out) ⟨w1.heap.size,0,none⟩ 1 1 (u8C (ZbX (p.horizon+2+j))) rfl rfl (fun j u hj=>ZgL w1 _ _ j u hj) (Zcy _) b1 b2 ?_);intro v' w2 hA;have HA:Hid (ZG 5 1 u8C w w2 v' (Z4 p j++[ZbX (p.horizon+2+j)])):=HNX.out _ _ _ _ HK1.out hA;clear hA)
     go_roundw
     case rel=>exact⟨j+1,by omega,by go_num,by rw[HX.out];exact HA.out⟩
     case measure=>simp[intOf];omega
  · have hje:j=4:=by omega
    subst hje;have HG2:Hid (ZG 5 1 u8C w wr (.slice av (Z4 p 4).length cv) (Z4 p 4)):=by rw[←hn];exact HG.out
    go_wp2;go_ret;rw[hn];exact⟨av,cv,rfl,HG2.out⟩
theorem dlinks (w:World)(b k g:Nat)(D:Ze)(nd:Zn)(h:Dev w b D)(hnd:D.nodes[k]?=some nd)(ho:D.vn.ownBlock=some g)(hl:nd.p.flight.length≤1000)(hs:∀c∈nd.p.flight,c.1≤1000000):
 Calls Tryz.prog 110 #[.pointer (some ⟨g,k*8+7,none⟩)] w fun e w'=>∃ao cap,e=.returned (.slice ao nd.p.flight.length cap)∧Hid (ZG 62 2 Xh w w' (.slice ao nd.p.flight.length cap) (nd.p.flight.map Yz)):=by
 have hr:=h.flight nd (List.mem_of_getElem? hnd);obtain⟨ao,cap,hv,hp⟩:=hr.pairs;have c7:w.cell? ⟨g,k*8+7,none⟩=some nd.fl:=h.nodeC hnd ho 7 (by omega) _ rfl;rw[hv]at c7;obtain⟨l,hll⟩:∃l,l=nd.p.flight:=⟨_,rfl⟩;have HP:Hid (∀j (hj:j<l.length),∃gw,ao=some ⟨gw,0,none⟩∧gw<w.heap.size∧w.cell? ⟨gw,j*2,none⟩=some (.int .u64 (l[j].1:Int))∧w.cell? ⟨gw,j*2+1,none⟩=some (.int .u8 l[j].2)):=by rw[hll];exact hp
 have HS:Hid (∀j (hj:j<l.length),l[j].1≤1000000):=fun j hj=>hs _ (by rw[←hll];exact List.getElem_mem hj);rw[←hll]at hl c7⊢;obtain⟨i0,hi,hz0,hz1,hz2⟩:=info_parts Tryz.infoMsg;have HI:Hid (Tryz.prog.info? 62=some i0∧i0.zero=some (.agg #[.int .u8 0,.int .u8 0])∧i0.size=2∧i0.bytes=2):=⟨hi,hz0,hz1,hz2⟩;clear hi hz0 hz1 hz2 h hnd ho hr hp hv hll hs;go_enter Tryz.func110,Tryz.ntmps110;go_wp2
 go_loopw [3,11] (fun v iv wr=>∃j:Nat,j≤l.length∧iv=.int .i64 j∧Hid (ZG 62 2 Xh w wr v ((l.take j).map Yz))) (fun _ iv _=>l.length-(intOf iv).toNat)
 case atStart=>exact⟨0,Nat.zero_le _,rfl,ZG.start _ _ _ _⟩
 case round=>
  obtain⟨j,hj,rfl,HG⟩:=hrel;obtain⟨av,cv,hvv,_⟩:=HG.out.row.form;have hfl:((l.take j).map Yz).length=j:=by rw[List.length_map,List.length_take];omega
  rw[hfl]at hvv;subst hvv;by_cases hlt:j<l.length
  · obtain⟨gw,hao,hgw,p0,p1⟩:=HP.out j hlt;have hsx:=HS.out j hlt;have HX:Hid ((l.take (j+1)).map Yz=(l.take j).map Yz++[Yz l[j]]):=by show _=_;rw[List.take_succ_eq_append_getElem hlt,List.map_append];rfl
    obtain⟨x,hx⟩:∃x,x=l[j]:=⟨_,rfl⟩;rw[←hx]at p0 p1 hsx HX;have d0:=HG.out.kept.hold p0;have d1:=HG.out.kept.hold p1;have hj0:(0:Int)≤(j:Int):=by omega
    have hj1:(j:Int)<(l.length:Int):=by omega
    have HROW:Hid (∀o o',Row ((wr.alloc o).alloc o') 62 2 (.slice av j cv) j (((l.take j).map Yz).flatMap Xh)):=fun o o'=>by have:=(HG.out.row.kept (Za.alloc wr o (fun _=>False)) (fun _ _=>id)).kept (Za.alloc _ o' (fun _=>False)) (fun _ _=>id);rw[hfl]at this;exact this
    have HNX:Hid (∀(o o':Obj)(w':World)(v':Value),Zc ((wr.alloc o).alloc o') w' 62 2 (.slice av j cv) v' j 1 (((l.take j).map Yz).flatMap Xh) (Xh (Yz x))→ZG 62 2 Xh w w' v' ((l.take j).map Yz++[Yz x])):=by
     intro o o' w' v' hA;have hA':Zc ((wr.alloc o).alloc o') w' 62 2 (.slice av j cv) v' ((l.take j).map Yz).length 1 (((l.take j).map Yz).flatMap Xh) (Xh (Yz x)):=by rw[hfl];exact hA
     exact(HG.out.more ((Za.alloc wr o (fun _=>False)).allocNew o')).next hA'
    have b1:j+1≤maxLen:=by unfold maxLen;omega
    have b2:(j+1)*2≤140737488355328:=by omega
    clear hx p0 p1 hgw hfl;subst hao
    go_wp2_with (at_builtin;go_must (refine Zf _ rfl (.tmp 15) (.tmp 23) 60 rfl 62 i0 (.agg #[.int .u8 0,.int .u8 0]) 2 2 Tryz.underlying60 HI.out.1 HI.out.2.1 HI.out.2.2.1 HI.out.2.2.2 rfl (by decide) (.slice av j cv) j _ rfl (HROW.out _ _) ⟨wr.heap.size+1,0,none⟩ 1 1 (Xh (Yz x)) rfl rfl (fun j u hj=>Zh3 wr x _ _ j u hj) (Zel (Yz x)) b1 b2 ?_);intro v' w1 hA;have HA:Hid (ZG 62 2 Xh w w1 v' ((l.take j).map Yz++[Yz x])):=HNX.out _ _ _ _ hA;clear hA)
    go_roundw
    case rel=>exact⟨j+1,by omega,by go_num,by rw[HX.out];exact HA.out⟩
    case measure=>simp[intOf];omega
  · have hjn:j=l.length:=by omega
    subst hjn;have HG2:Hid (ZG 62 2 Xh w wr (.slice av l.length cv) (l.map Yz)):=by have:=HG.out;rw[List.take_length]at this;exact this
    clear hfl;go_wp2;go_ret;exact⟨av,cv,rfl,HG2.out⟩
theorem u8s_at {l:List Int}{j:Nat}(h:j<l.length):(l.flatMap u8C)[j]?=some (.int .u8 l[j]):=by
 have:=ZO u8C 1 (fun _=>rfl) l j h 0 (by omega);rw[Nat.mul_one,Nat.add_zero]at this;rw[this];rfl
theorem Row.u8At {w:World}{v:Value}{l:List Int}(h:Row w 5 1 v l.length (l.flatMap u8C))(j:Nat)(hj:j<l.length):∃g cap,v=.slice (some ⟨g,0,none⟩) l.length cap∧w.cell? ⟨g,j,none⟩=some (.int .u8 l[j]):=by
 obtain⟨g,cap,hv,ho,_⟩:=h.block (by omega);exact⟨g,cap,hv,h.cell ho j _ (u8s_at hj)⟩
theorem Row.msgAt {w:World}{v:Value}{l:List (Int×Int)}(h:Row w 62 2 v l.length (l.flatMap Xh))(j:Nat)(hj:j<l.length):∃g cap,v=.slice (some ⟨g,0,none⟩) l.length cap∧w.cell? ⟨g,j*2,none⟩=some (.int .u8 l[j].1)∧w.cell? ⟨g,j*2+1,none⟩=some (.int .u8 l[j].2):=by
 obtain⟨g,cap,hv,ho,_⟩:=h.block (by omega);have a0:=ZO Xh 2 (fun _=>rfl) l j hj 0 (by omega);have a1:=ZO Xh 2 (fun _=>rfl) l j hj 1 (by omega);rw[Nat.add_zero]at a0;exact⟨g,cap,hv,h.cell ho _ _ (by rw[a0];rfl),h.cell ho _ _ (by rw[a1];rfl)⟩
theorem Zgr (w:World)(va vb:Value)(l:List Int)(hl:l.length≤1000000)(ha:Row w 5 1 va l.length (l.flatMap u8C))(hb:Row w 5 1 vb l.length (l.flatMap u8C)):
 Calls Tryz.prog 51 #[va,vb] w fun e w'=>e=.returned (.bool true)∧Za (fun _=>False) w w':=by
 obtain⟨aa,ca,hva,_⟩:=ha.form;obtain⟨ab,cb,hvb,_⟩:=hb.form;subst hva;subst hvb;have HA:Hid (∀j (hj:j<l.length),∃g,aa=some ⟨g,0,none⟩∧w.cell? ⟨g,j,none⟩=some (.int .u8 l[j])):=by
  intro j hj;obtain⟨g,cap,hv,he⟩:=ha.u8At j hj;injection hv with e1 _ _;exact⟨g,e1,he⟩
 have HB:Hid (∀j (hj:j<l.length),∃g,ab=some ⟨g,0,none⟩∧w.cell? ⟨g,j,none⟩=some (.int .u8 l[j])):=by
  intro j hj;obtain⟨g,cap,hv,he⟩:=hb.u8At j hj;injection hv with e1 _ _;exact⟨g,e1,he⟩
 obtain⟨n,hn⟩:∃n,n=l.length:=⟨_,rfl⟩;rw[←hn];have HN:=hid hn;rw[←hn]at hl;clear ha hb hn;go_enter Tryz.func51,Tryz.ntmps51;go_wp2
 go_loopw [5] (fun k wr=>∃j:Nat,j≤n∧k=.int .i64 j∧Hid (Za (fun _=>False) w wr)) (fun k _=>n-(intOf k).toNat)
 case atStart=>exact⟨0,Nat.zero_le _,rfl,Za.refl _ _⟩
 case round=>
  obtain⟨j,hj,rfl,HK⟩:=hrel;by_cases hlt:j<n
  · obtain⟨ga,hga,hea⟩:=HA.out j (by rw[←HN.out];exact hlt);obtain⟨gb,hgb,heb⟩:=HB.out j (by rw[←HN.out];exact hlt);obtain⟨e,he⟩:∃e,e=l[j]'(by rw[←HN.out];exact hlt):=⟨_,rfl⟩;rw[←he]at hea heb;clear he
    replace hea:=HK.out.hold hea
    replace heb:=HK.out.hold heb
    subst hga;subst hgb;have hj0:(0:Int)≤(j:Int):=by omega
    have hj1:(j:Int)<(n:Int):=by omega
    go_wp2_with fail
    go_quiet (fail)
    go_wp2
    go_roundw
    case rel=>exact⟨j+1,by omega,by go_num,HK.out.drewN _⟩
    case measure=>simp[intOf];omega
  · go_wp2;go_ret;exact⟨rfl,HK.out⟩
theorem ZcH (w:World)(va vb:Value)(l:List (Int×Int))(hl:l.length≤1000000)(ha:Row w 62 2 va l.length (l.flatMap Xh))(hb:Row w 62 2 vb l.length (l.flatMap Xh)):
 Calls Tryz.prog 55 #[va,vb] w fun e w'=>e=.returned (.bool true)∧Za (fun _=>False) w w':=by
 obtain⟨aa,ca,hva,_⟩:=ha.form;obtain⟨ab,cb,hvb,_⟩:=hb.form;subst hva;subst hvb;have HA:Hid (∀j (hj:j<l.length),∃g,aa=some ⟨g,0,none⟩∧w.cell? ⟨g,j*2,none⟩=some (.int .u8 l[j].1)∧w.cell? ⟨g,j*2+1,none⟩=some (.int .u8 l[j].2)):=by
  intro j hj;obtain⟨g,cap,hv,he⟩:=ha.msgAt j hj;injection hv with e1 _ _;exact⟨g,e1,he⟩
 have HB:Hid (∀j (hj:j<l.length),∃g,ab=some ⟨g,0,none⟩∧w.cell? ⟨g,j*2,none⟩=some (.int .u8 l[j].1)∧w.cell? ⟨g,j*2+1,none⟩=some (.int .u8 l[j].2)):=by
  intro j hj;obtain⟨g,cap,hv,he⟩:=hb.msgAt j hj;injection hv with e1 _ _;exact⟨g,e1,he⟩
 obtain⟨n,hn⟩:∃n,n=l.length:=⟨_,rfl⟩;rw[←hn];have HN:=hid hn;rw[←hn]at hl;clear ha hb hn;go_enter Tryz.func55,Tryz.ntmps55;go_wp2
 go_loopw [5] (fun k wr=>∃j:Nat,j≤n∧k=.int .i64 j∧Hid (Za (fun _=>False) w wr)) (fun k _=>n-(intOf k).toNat)
 case atStart=>exact⟨0,Nat.zero_le _,rfl,Za.refl _ _⟩
 case round=>
  obtain⟨j,hj,rfl,HK⟩:=hrel;by_cases hlt:j<n
  · obtain⟨ga,hga,a0,a1⟩:=HA.out j (by rw[←HN.out];exact hlt);obtain⟨gb,hgb,c0,c1⟩:=HB.out j (by rw[←HN.out];exact hlt);obtain⟨e,he⟩:∃e,e=l[j]'(by rw[←HN.out];exact hlt):=⟨_,rfl⟩;rw[←he]at a0 a1 c0 c1;clear he
    replace a0:=HK.out.hold a0
    replace a1:=HK.out.hold a1
    replace c0:=HK.out.hold c0
    replace c1:=HK.out.hold c1
    subst hga;subst hgb;have hj0:(0:Int)≤(j:Int):=by omega
    have hj1:(j:Int)<(n:Int):=by omega
    go_wp2_with fail
    go_quiet (fail)
    go_wp2
    go_roundw
    case rel=>exact⟨j+1,by omega,by go_num,HK.out.drewN _⟩
    case measure=>simp[intOf];omega
  · go_wp2;go_ret;exact⟨rfl,HK.out⟩
def digitN (i d:Nat):Nat:=i/251^d%251
theorem Zik (w:World)(i d:Nat)(hi:i≤4611686018427387904)(hd:d≤3):
 Calls Tryz.prog 68 #[.int .i64 i,.int .i64 d] w fun e w'=>e=.returned (.int .u8 ((digitN i d:Nat):Int))∧w=w':=by
 go_enter Tryz.func68,Tryz.ntmps68;go_wp2
 go_loop [0,5] (fun iv k=>∃t:Nat,t≤d∧k=.int .i64 t∧∃x:Nat,iv=.int .i64 x∧Hid (x=i/251^t∧x≤i)) (fun _ k=>d-(intOf k).toNat)
 case atStart=>exact⟨0,Nat.zero_le _,rfl,i,rfl,by simp,Nat.le_refl _⟩
 case round=>
  obtain⟨t,ht,rfl,x,rfl,HX⟩:=hrel;have hxi:=HX.out.2;have hx0:(0:Int)≤(x:Int):=by omega
  by_cases hlt:t<d
  · have htd:(t:Int)<(d:Int):=by omega
    go_wp2
    go_round
    case rel=>
     refine⟨t+1,by omega,by go_num,x/251,by first|rfl|(simp;done)|go_num,?_,?_⟩
     · rw[HX.out.1,Nat.pow_succ,Nat.div_div_eq_div_mul]
     · exact Nat.le_trans (Nat.div_le_self _ _) HX.out.2
    case measure=>simp[intOf];omega
  · have htd:t=d:=by omega
    subst htd;have HD:Hid (digitN i t=x%251):=by show _=_;rw[digitN,HX.out.1]
    go_wp2;go_ret;refine⟨?_,rfl⟩;rw[HD.out]
    first|rfl|(simp;done)|go_num
end Go.Proofs.YtpfcacedpkaihaaGreat
