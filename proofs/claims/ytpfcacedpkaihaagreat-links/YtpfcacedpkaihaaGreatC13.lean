import Derived.Test.YtpfcacedpkaihaaGreatC11
namespace Go.Proofs.YtpfcacedpkaihaaGreat
open Go.RowKit
set_option maxRecDepth 100000
set_option maxHeartbeats 16000000
theorem Zkb {w wr:World}{o o':Obj}(h:Below w.heap.size w wr):Below w.heap.size w ((wr.alloc o).alloc o'):=
 (h.alloc h.size _).alloc (by have:=h.size;simp;omega) _
theorem ZaW (w:World)(va vb:Value)(l:List Zh)(hl:l.length≤1000000)(ha:Row w 55 6 va l.length (l.flatMap Zk))(hb:Row w 55 6 vb l.length (l.flatMap Zk)):
 Calls Tryz.prog 41 #[va,vb] w fun e w'=>e=.returned (.bool true)∧Below w.heap.size w w':=by
 obtain⟨aa,ca,hva,_⟩:=ha.form;obtain⟨ab,cb,hvb,_⟩:=hb.form;subst hva;subst hvb;have HA:Hid (∀j (hj:j<l.length),∃g,aa=some ⟨g,0,none⟩∧g<w.heap.size∧Zb2 w g (j*6) l[j]):=by
  intro j hj;obtain⟨g,cap,hv,hg,he⟩:=ha.entAt j hj;injection hv with e1 _ _;exact⟨g,e1,hg,he⟩
 have HB:Hid (∀j (hj:j<l.length),∃g,ab=some ⟨g,0,none⟩∧g<w.heap.size∧Zb2 w g (j*6) l[j]):=by
  intro j hj;obtain⟨g,cap,hv,hg,he⟩:=hb.entAt j hj;injection hv with e1 _ _;exact⟨g,e1,hg,he⟩
 obtain⟨n,hn⟩:∃n,n=l.length:=⟨_,rfl⟩;rw[←hn];have HN:=hid hn;rw[←hn]at hl;clear ha hb hn;go_enter Tryz.func41,Tryz.ntmps41;go_wp2
 go_loopw [5] (fun k wr=>∃j:Nat,j≤n∧k=.int .i64 j∧Hid (Below w.heap.size w wr)) (fun k _=>n-(intOf k).toNat)
 case atStart=>exact⟨0,Nat.zero_le _,rfl,Below.refl _ _⟩
 case round=>
  obtain⟨j,hj,rfl,HBl⟩:=hrel;by_cases hlt:j<n
  · obtain⟨ga,hga,hgl,hea⟩:=HA.out j (by rw[←HN.out];exact hlt);obtain⟨gb,hgb,hgl',heb⟩:=HB.out j (by rw[←HN.out];exact hlt);obtain⟨e,he⟩:∃e,e=l[j]'(by rw[←HN.out];exact hlt):=⟨_,rfl⟩;rw[←he]at hea heb;clear he;obtain⟨a0,a1,a2,a3,a4,a5⟩:=hea.same (HBl.out.block ga hgl);obtain⟨c0,c1,c2,c3,c4,c5⟩:=heb.same (HBl.out.block gb hgl');have hza:ga<wr.heap.size:=Nat.lt_of_lt_of_le hgl (Za.of_below HBl.out (fun _=>False)).size;have hzb:gb<wr.heap.size:=Nat.lt_of_lt_of_le hgl' (Za.of_below HBl.out (fun _=>False)).size;clear hea heb;subst hga;subst hgb;have hj0:(0:Int)≤(j:Int):=by omega
    have hj1:(j:Int)<(n:Int):=by omega
    go_wp2
    go_roundw
    case rel=>exact⟨j+1,by omega,by go_num,Zkb HBl.out⟩
    case measure=>simp[intOf];omega
  · go_wp2;go_ret;exact⟨rfl,HBl.out⟩
def pickN (c:Int)(n:Nat):Nat:=(if c<0 then(-(c+1)).toNat else c.toNat)%n
theorem ZaL (c:Int){n:Nat}(h:0<n):pickN c n<n:=Nat.mod_lt _ h
theorem ZgX (w:World)(c:Int)(n:Nat)(h0: -9223372036854775808≤c)(h1:c≤9223372036854775807)(hn:0<n)(hm:n≤4611686018427387904):
 Calls Tryz.prog 13 #[.int .i64 c,.int .i64 n] w fun e w'=>e=.returned (.int .i64 (pickN c n:Int))∧w=w':=by
 have hnz:((n:Int)==0)=false:=beq_eq_false_iff_ne.mpr (by omega);have hn1:((n:Int)== -1)=false:=beq_eq_false_iff_ne.mpr (by omega);by_cases hc:c<0
 · obtain⟨m,hm'⟩:∃m:Nat,-(c+1)=(m:Int):=⟨(-(c+1)).toNat,by omega⟩;obtain rfl:c= -(m:Int)-1:=by omega
   have HP:Hid (((m%n:Nat):Int)=(pickN (-(m:Int)-1) n:Int)):=by
    show _=_;have:(-(-(m:Int)-1+1)).toNat=m:=by omega
    rw[pickN,if_pos hc,this]
   have hmn:=Nat.mod_lt m hn;have hmm:m%n≤m:=Nat.mod_le _ _;clear hm';go_enter Tryz.func13,Tryz.ntmps13;go_wp2;go_ret;refine⟨XZ ?_,rfl⟩;rw[←HP.out];simp
 · obtain⟨m,rfl⟩:∃m:Nat,c=(m:Int):=⟨c.toNat,by omega⟩;have HP:Hid (((m%n:Nat):Int)=(pickN (m:Int) n:Int)):=by
    show _=_;rw[pickN,if_neg hc,Int.toNat_natCast]
   have hmn:=Nat.mod_lt m hn;have hmm:m%n≤m:=Nat.mod_le _ _;go_enter Tryz.func13,Tryz.ntmps13;go_wp2;go_ret;refine⟨XZ ?_,rfl⟩;rw[←HP.out];simp
end Go.Proofs.YtpfcacedpkaihaaGreat
