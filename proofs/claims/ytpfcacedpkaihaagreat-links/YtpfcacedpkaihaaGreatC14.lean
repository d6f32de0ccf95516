import Derived.Test.YtpfcacedpkaihaaGreatC9
import Derived.Test.YtpfcacedpkaihaaGreatC7
import Derived.Test.YtpfcacedpkaihaaGreatC8
namespace Go.Proofs.YtpfcacedpkaihaaGreat
open Go.RowKit
set_option maxRecDepth 100000
set_option maxHeartbeats 16000000
theorem Zf3 (s:ByteArray)(w:World)(hs:s.size≤40)(hc:Q.cutL 0 s.data.toList=none):
 Calls Tryz.prog 126 #[.string s] w fun e w'=>∃ao cap,e=.returned (.tuple #[.slice ao 0 cap,.bool false])∧Below w.heap.size w w':=by
 refine(Zdh s w hs).mono ?_;rintro e w' ⟨v,he,ho,hb⟩;rw[hc]at he ho;obtain⟨ao,cap,rfl⟩:=ZcA ho;exact⟨ao,cap,he,hb⟩
theorem Zcx (s:ByteArray)(w:World)(hs:s.size≤40)(ts:List (Nat×Nat))(hc:Q.cutL 0 s.data.toList=some ts):
 Calls Tryz.prog 126 #[.string s] w fun e w'=>∃g cap,e=.returned (.tuple #[.slice (some ⟨g,0,none⟩) ts.length cap,.bool true])∧w.heap.size≤g∧ZcD w' g ts∧Below w.heap.size w w':=by
 refine(Zdh s w hs).mono ?_;rintro e w' ⟨v,he,ho,hb⟩;rw[hc]at he ho;obtain⟨g,cap,rfl,hB,hl⟩:=ZcS ho (by intro h;simp at h;subst h;exact Q.cutL_ne _ _ hc);exact⟨g,cap,he,hB,hl,hb⟩
theorem Zba (s:ByteArray)(w:World)(er:Int)(hs:s.size≤maxLen)(hr:Q.readL s.data.toList=(er,[])):
 Calls Tryz.prog 72 #[.string s] w fun e w'=>e=.returned (.tuple #[.slice none 0 0,.int .i64 er])∧(er==0)=false∧Below w.heap.size w w':=by
 unfold maxLen at hs;by_cases h40:40<s.size
 · have he:er=3:=by simp[Q.readL,h40]at hr;exact hr.symm
   subst he;clear hr;go_enter Tryz.func72,Tryz.ntmps72;go_wp2;go_ret2;exact⟨rfl,rfl,Below.refl _ _⟩
 · have h40':s.size≤40:=by omega
   cases hc:Q.cutL 0 s.data.toList with
   |none=>
    have he:er=4:=by simp[Q.readL,h40,hc]at hr;exact hr.symm
    subst he;have HC:=hid hc;clear hr hc h40;go_enter Tryz.func72,Tryz.ntmps72
    go_wp2_with (go_at_call 126;refine(Zf3 s _ h40' HC.out).mono ?_;rintro e w1 ⟨ao,cap,rfl,hb⟩)
    go_ret2;exact⟨rfl,rfl,by assumption⟩
   |some ts=>
    have h8:8<ts.length:=by
     by_cases h8:8<ts.length
     · exact h8
     · simp[Q.readL,h40,hc,h8]at hr;exact absurd (hr.2▸hc) (Q.cutL_ne _ _)
    have he:er=3:=by simp[Q.readL,h40,hc,h8]at hr;exact hr.symm
    subst he;have HC:=hid hc;clear hr hc h40;go_enter Tryz.func72,Tryz.ntmps72
    go_wp2_with (go_at_call 126;refine(Zcx s _ h40' ts HC.out).mono ?_;rintro e w1 ⟨g,cap,rfl,hg,hl,hb⟩)
    go_ret2;exact⟨rfl,rfl,by assumption⟩
theorem ZbT (s:ByteArray)(w:World)(ts:List (Nat×Nat))(hr:Q.readL s.data.toList=(0,ts)):
 Calls Tryz.prog 72 #[.string s] w fun e w'=>∃g cap,e=.returned (.tuple #[.slice (some ⟨g,0,none⟩) ts.length cap,.int .i64 0])∧w.heap.size≤g∧ZcD w' g ts∧Below w.heap.size w w':=by
 have h40':s.size≤40:=by
  by_cases h:40<s.size
  · simp[Q.readL,h]at hr
  · omega
 have hc:Q.cutL 0 s.data.toList=some ts∧ts.length≤8:=by
  have h:¬40<s.size:=by omega
  cases hc:Q.cutL 0 s.data.toList with
  |none=>simp[Q.readL,h,hc]at hr
  |some us=>
   by_cases h8:8<us.length
   · simp[Q.readL,h,hc,h8]at hr
   · simp[Q.readL,h,hc,h8]at hr;subst hr;exact⟨rfl,by omega⟩
 obtain⟨hc,h8⟩:=hc;have HC:=hid hc;clear hr hc;go_enter Tryz.func72,Tryz.ntmps72
 go_wp2_with (go_at_call 126;refine(Zcx s _ h40' ts HC.out).mono ?_;rintro e w1 ⟨g,cap,rfl,hg,hl,hb⟩)
 go_ret2;exact⟨_,_,rfl,by assumption,by assumption,by assumption⟩
theorem le7 {k:Nat}(h:k≤7):k=0∨k=1∨k=2∨k=3∨k=4∨k=5∨k=6∨k=7:=by omega
theorem Zct (g cap:Nat)(ts:List (Nat×Nat))(w:World)(hl:ZcD w g ts)(h8:ts.length≤8)(hks:∀t∈ts,t.1≤3∧t.2≤7):
 Calls Tryz.prog 73 #[.slice (some ⟨g,0,none⟩) ts.length cap] w fun e w'=>e=.returned (.int .u8 (Z5 ts))∧w=w':=by
 have HKS:=hid hks;clear hks;go_enter Tryz.func73,Tryz.ntmps73;go_wp2
 go_loop [3,4] (fun v i=>∃k:Nat,k≤ts.length∧i=.int .i64 k∧v=.int .u8 (Z5 (ts.take k))) (fun _ i=>ts.length-(intOf i).toNat)
 case atStart=>exact⟨0,Nat.zero_le _,rfl,rfl⟩
 case round=>
  obtain⟨k,hk,rfl,rfl⟩:=hrel;by_cases hlt:k<ts.length
  · obtain⟨kk,hkk⟩:∃kk,kk=ts[k].2:=⟨_,rfl⟩;have hky:=hl.key k hlt;have hm7:=(HKS.out ts[k] (List.getElem_mem hlt)).2;have hE:=ZbS ts k hlt;rw[←hkk]at hky hm7 hE;have HE:=hid hE;clear hkk hE;rcases le7 hm7 with rfl|rfl|rfl|rfl|rfl|rfl|rfl|rfl
    all_goals
     go_wp2
     go_round
     case rel=>exact⟨k+1,by omega,by go_num,by rw[HE.out];rfl⟩
     case measure=>simp[intOf];omega
  · have hz:k=ts.length:=by omega
    subst hz;go_wp2;go_ret;exact⟨by simp,rfl⟩
theorem XF (v:Int)(w:World)(h1: -9223372036854775808≤v)(h2:v<9223372036854775808):
 Calls Tryz.prog 160 #[.int .i64 v] w fun e w'=>e=.returned (.int .i64 (wrap32 v))∧w=w':=by
 by_cases h0:0≤v
 · go_enter Tryz.func160,Tryz.ntmps160;go_wp2
   all_goals
    go_ret;refine⟨Vg ?_,rfl⟩;unfold wrap32;omega
 · have HT:Hid (v.tmod 4294967296= -((-v)%4294967296)):=by
    have e:v= -(-v):=by omega
    show v.tmod 4294967296=_;rw[e,Int.neg_tmod,Int.tmod_eq_emod_of_nonneg (by omega),Int.neg_neg]
   have hm1: -4294967296<v.tmod 4294967296:=by rw[HT.out];omega
   have hm2:v.tmod 4294967296≤0:=by rw[HT.out];omega
   go_enter Tryz.func160,Tryz.ntmps160;go_wp2
   all_goals
    go_ret;refine⟨Vg ?_,rfl⟩;have h:=HT.out;unfold wrap32;omega
theorem Zak (a:Int): -2147483648≤wrap32 a∧wrap32 a<2147483648:=by unfold wrap32;omega
theorem Zdv (v:Int)(sg:Nat)(x:Int): -2147483648≤YK v sg x∧YK v sg x<2147483648:=by
 unfold YK
 split
 · exact Zak _
 · split
   · exact Zak _
   · split
     · exact Zak _
     · split
       · omega
       · exact Zak _
theorem ZeC (x:Nat→Int)(ts:List (Nat×Nat))(k:Nat): -2147483648≤YW x (ts.take k)∧YW x (ts.take k)<2147483648:=by
 by_cases hk:k=0
 · subst hk;simp[YW]
 · by_cases hl:k-1<ts.length
   · have:=VN x ts (k-1) hl;rw[show k-1+1=k by omega]at this;rw[this];exact Zdv _ _ _
   · by_cases he:ts=[]
     · subst he;simp[YW]
     · have h1:0<ts.length:=List.length_pos_iff.mpr he;have:=VN x ts (ts.length-1) (by omega);rw[show ts.length-1+1=ts.length by omega]at this;rw[List.take_of_length_le (by omega),←List.take_length (l:=ts),this];exact Zdv _ _ _
theorem mul_bd {v y:Int}(h1: -2147483648≤v)(h2:v<2147483648)(h3: -2147483648≤y)(h4:y<2147483648): -4611686018427387904≤v*y∧v*y≤4611686018427387904:=by
 have hv:v.natAbs≤2147483648:=by omega
 have hy:y.natAbs≤2147483648:=by omega
 have:=Nat.mul_le_mul hv hy;rw[←Int.natAbs_mul]at this;omega
theorem Zj3 {v y:Int}(h1: -2147483648≤v)(h2:v<2147483648): -2147483648≤v.tdiv y∧v.tdiv y≤2147483648:=by
 have h:v.natAbs.div y.natAbs≤v.natAbs:=Nat.div_le_self _ _;rw[←Int.natAbs_tdiv]at h;omega
theorem Zis (g cap:Nat)(ts:List (Nat×Nat))(x:Nat→Int)(w:World)(hl:ZcD w g ts)(h8:ts.length≤8)(hks:∀t∈ts,t.1≤3∧t.2≤7)(hx:∀k,-2147483648≤x k∧x k<2147483648):
 Calls Tryz.prog 140 #[.slice (some ⟨g,0,none⟩) ts.length cap,.agg #[.int .i32 (x 0),.int .i32 (x 1),.int .i32 (x 2),.int .i32 (x 3),.int .i32 (x 4),.int .i32 (x 5),.int .i32 (x 6),.int .i32 (x 7)]] w fun e w'=>
  e=.returned (.int .i32 (YW x ts))∧Below w.heap.size w w':=by
 have HKS:=hid hks;have HX:=hid hx;clear hks hx;go_enter Tryz.func140,Tryz.ntmps140;go_wp2
 go_loopw [5,6] (fun v i wr=>∃k:Nat,k≤ts.length∧i=.int .i64 k∧v=.int .i64 (YW x (ts.take k))∧(∀j,j≤7→wr.cell? ⟨w.heap.size,j,none⟩=some (.int .i32 (x j)))∧Below w.heap.size w wr) (fun _ i _=>ts.length-(intOf i).toNat)
 case atStart=>exact⟨0,Nat.zero_le _,rfl,rfl,fun j hj=>box8 x w _ j hj,(Below.refl _ _).alloc (Nat.le_refl _) _⟩
 case round=>
  obtain⟨k,hk,rfl,rfl,hst,hnx⟩:=hrel;by_cases hlt:k<ts.length
  · have hl2:=hl.below hnx;obtain⟨sg,hsg0⟩:∃sg,sg=ts[k].1:=⟨_,rfl⟩;obtain⟨ky,hky0⟩:∃ky,ky=ts[k].2:=⟨_,rfl⟩;have hsg:=hl2.sign k hlt;have hky:=hl2.key k hlt;have hmm:=HKS.out ts[k] (List.getElem_mem hlt);have hE:=VN x ts k hlt;rw[←hsg0]at hsg hmm hE;rw[←hky0]at hky hmm hE;obtain⟨y,hy⟩:∃y,y=x ky:=⟨_,rfl⟩;obtain⟨v,hv⟩:∃v,v=YW x (ts.take k):=⟨_,rfl⟩;have hxc:=hst ky hmm.2;have hyb:=HX.out ky;have hvb:=ZeC x ts k;rw[←hy]at hxc hyb hE;rw[←hv]at hvb hE⊢;have HE:=hid hE;have HST:=hid hst;obtain⟨hm3,hm7⟩:=hmm;obtain⟨hy1,hy2⟩:=hyb;obtain⟨hv1,hv2⟩:=hvb;clear hsg0 hky0 hy hv hE hst;have hc:sg=0∨sg=1∨sg=2∨(sg=3∧y=0)∨(sg=3∧y≠0):=by omega
    rcases hc with rfl|rfl|rfl|⟨rfl,hb⟩|⟨rfl,hb⟩
    · go_wp2_with (go_at_call 160;refine(XF _ _ (by omega) (by omega)).mono ?_;rintro e w' ⟨rfl,rfl⟩)
      go_roundw
      case rel=>exact⟨k+1,by omega,by go_num,by rw[HE.out];simp[YK],HST.out,hnx⟩
      case measure=>simp[intOf];omega
    · go_wp2_with (go_at_call 160;refine(XF _ _ (by omega) (by omega)).mono ?_;rintro e w' ⟨rfl,rfl⟩)
      go_roundw
      case rel=>exact⟨k+1,by omega,by go_num,by rw[HE.out];simp[YK],HST.out,hnx⟩
      case measure=>simp[intOf];omega
    · obtain⟨b1,b2⟩:=mul_bd hv1 hv2 hy1 hy2
      go_wp2_with (go_at_call 160;refine(XF _ _ (by omega) (by omega)).mono ?_;rintro e w' ⟨rfl,rfl⟩)
      go_roundw
      case rel=>exact⟨k+1,by omega,by go_num,by rw[HE.out];simp[YK],HST.out,hnx⟩
      case measure=>simp[intOf];omega
    · have hyz:(y==0)=true:=beq_iff_eq.mpr hb;have HY:=hid hb;clear hb
      go_wp2_with (go_at_call 160;refine(XF _ _ (by omega) (by omega)).mono ?_;rintro e w' ⟨rfl,rfl⟩)
      go_roundw
      case rel=>exact⟨k+1,by omega,by go_num,by rw[HE.out];simp[YK,HY.out,wrap32],HST.out,hnx⟩
      case measure=>simp[intOf];omega
    · have hyz:(y==0)=false:=beq_eq_false_iff_ne.mpr hb;obtain⟨b1,b2⟩:=Zj3 (y:=y) hv1 hv2
      go_wp2_with (go_at_call 160;refine(XF _ _ (by omega) (by omega)).mono ?_;rintro e w' ⟨rfl,rfl⟩)
      go_roundw
      case rel=>exact⟨k+1,by omega,by go_num,by rw[HE.out];simp[YK,hb],HST.out,hnx⟩
      case measure=>simp[intOf];omega
  · have hz:k=ts.length:=by omega
    subst hz;obtain⟨hv1,hv2⟩:=ZeC x ts ts.length;rw[List.take_length]at hv1 hv2⊢;go_wp2;go_ret;exact⟨rfl,hnx⟩
theorem ZbU (s:ByteArray)(w:World)(er:Int)(hs:s.size≤maxLen)(hr:Q.readL s.data.toList=(er,[])):
 Calls Tryz.prog 26 #[.string s] w fun e w'=>e=.returned (.tuple #[.agg #[.int .u8 0,.int .i64 0],.int .i64 er])∧Below w.heap.size w w':=by
 have HR:=hid hr;clear hr;go_enter Tryz.func26,Tryz.ntmps26
 go_wp2_with (go_at_call 72;refine(Zba s _ er hs HR.out).mono ?_;rintro e w1 ⟨rfl,he,hb⟩;have hc0:=hb.cell (p:=⟨w.heap.size,0,none⟩) (by simp);have hc1:=hb.cell (p:=⟨w.heap.size,1,none⟩) (by simp);have hf0:=hb.frozen (p:=⟨w.heap.size,0,none⟩) (by simp);have hf1:=hb.frozen (p:=⟨w.heap.size,1,none⟩) (by simp);simp[go_sem]at hc0 hc1 hf0 hf1)
 refine bodyPost_ret (v:=.tuple #[.agg #[.int .u8 0,.int .i64 0],.int .i64 er]) (by simp[results,Tryz.results26,go_sem,hc0,hc1]) rfl ⟨rfl,?_⟩;exact(((((Below.refl _ _).alloc (Nat.le_refl _) _).trans (hb.mono (by simp))).setCell (Nat.le_refl _) _).setCell (Nat.le_refl _) _)
theorem Zfd (s:ByteArray)(w:World)(ts:List (Nat×Nat))(hr:Q.readL s.data.toList=(0,ts)):
 Calls Tryz.prog 26 #[.string s] w fun e w'=>e=.returned (.tuple #[.agg #[.int .u8 (Z5 ts),.int .i64 (ts.length:Int)],.int .i64 0])∧Below w.heap.size w w':=by
 have HR:=hid hr;obtain⟨hne,h8,hks⟩:ts≠[]∧ts.length≤8∧∀t∈ts,t.1≤3∧t.2≤7:=by
  rcases Q.readL_cases s.data.toList with h|h|⟨us,h,r⟩
  · rw[h]at hr;simp at hr
  · rw[h]at hr;simp at hr
  · rw[h]at hr;simp at hr;subst hr;exact r
 have HKS:=hid hks;clear hr hne hks;go_enter Tryz.func26,Tryz.ntmps26
 go_wp2_with (first
  |(go_at_call 72;refine(ZbT s _ ts HR.out).mono ?_;rintro e w1 ⟨g,cap,rfl,hg,hl,hb⟩;have hc0:=hb.cell (p:=⟨w.heap.size,0,none⟩) (by simp);have hc1:=hb.cell (p:=⟨w.heap.size,1,none⟩) (by simp);have hf0:=hb.frozen (p:=⟨w.heap.size,0,none⟩) (by simp);have hf1:=hb.frozen (p:=⟨w.heap.size,1,none⟩) (by simp);simp[go_sem]at hc0 hc1 hf0 hf1)
  |(go_at_call 73;refine(Zct _ _ ts _ (by assumption) h8 HKS.out).mono ?_;rintro e w' ⟨rfl,rfl⟩))
 refine bodyPost_ret (v:=.tuple #[.agg #[.int .u8 (Z5 ts),.int .i64 (ts.length:Int)],.int .i64 0]) (by simp[results,Tryz.results26,go_sem,hc0,hc1]) rfl ⟨rfl,?_⟩;exact(((((Below.refl _ _).alloc (Nat.le_refl _) _).trans (hb.mono (by simp))).setCell (Nat.le_refl _) _).setCell (Nat.le_refl _) _)
theorem Zay (s:ByteArray)(w:World)(hs:s.size≤maxLen):
 Calls Tryz.prog 26 #[.string s] w fun e w'=>
  e=.returned (.tuple #[.agg #[.int .u8 (Z5 (Q.readL s.data.toList).2),.int .i64 ((Q.readL s.data.toList).2.length:Int)],.int .i64 (Q.readL s.data.toList).1])∧Below w.heap.size w w':=by
 rcases Q.readL_cases s.data.toList with h|h|⟨us,h,r⟩
 · rw[h];exact ZbU s w 3 hs h
 · rw[h];exact ZbU s w 4 hs h
 · rw[h];exact Zfd s w us h
theorem Zf4 (s:ByteArray)(w:World)(hs:s.size≤maxLen):
 Calls Tryz.prog 12 #[.string s] w fun e w'=>e=.returned (.bool true)∧Below w.heap.size w w':=by
 have hp:=fun W=>ZfU s W hs;have hq:=fun W=>Zay s W hs;obtain⟨K,T,E,hK⟩:∃K T E:Int,K=Z5 (Q.readL s.data.toList).2∧T=((Q.readL s.data.toList).2.length:Int)∧E=(Q.readL s.data.toList).1:=⟨_,_,_,rfl,rfl,rfl⟩;rw[←hK.1,←hK.2.1,←hK.2.2]at hp hq;have HP:=hid hp;have HQ:=hid hq;clear hp hq hK;go_enter Tryz.func12,Tryz.ntmps12
 go_wp2_with (first
  |(go_at_call 25;refine(HP.out _).mono ?_;rintro e w1 ⟨rfl,hb⟩)
  |(go_at_call 26;refine(HQ.out _).mono ?_;rintro e w2 ⟨rfl,hb2⟩;have hz2:w1.heap.size<w2.heap.size:=(by have:=hb2.size;simp at this;omega);have hc0:=hb2.cell (p:=⟨w1.heap.size,0,none⟩) (by simp);have hc1:=hb2.cell (p:=⟨w1.heap.size,1,none⟩) (by simp);simp[go_sem]at hc0 hc1))
 go_ret;have hbw:Below w.heap.size w w2:=(hb.alloc hb.size _).trans (hb2.mono (by have:=hb.size;simp;omega));exact⟨rfl,hbw.alloc hbw.size _⟩
end Go.Proofs.YtpfcacedpkaihaaGreat
