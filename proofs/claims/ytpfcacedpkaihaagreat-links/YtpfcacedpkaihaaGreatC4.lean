import Derived.Test.YtpfcacedpkaihaaGreatC2
import Derived.Test.YtpfcacedpkaihaaGreatC1
namespace Go.Proofs.YtpfcacedpkaihaaGreat
open Go.RowKit
set_option maxRecDepth 100000
set_option maxHeartbeats 16000000
def cs (l:List (Nat×Nat)):List Value:=l.flatMap fun t=>[.int .i64 (t.1:Int),.int .i64 (t.2:Int)]
theorem ZjB (l:List (Nat×Nat))(a b:Nat):cs (l++[(a,b)])=cs l++[.int .i64 (a:Int),.int .i64 (b:Int)]:=by simp[cs]
theorem Tryz.infoStep :(Tryz.prog.info? 204).map (fun i=>(i.zero,i.size,i.bytes))=some (some (.agg #[.int .i64 0,.int .i64 0]),2,16):=by kernel_rfl
theorem VJ {E B:Nat}{w wr w1:World}{v v':Value}{o:Obj}{l:List (Nat×Nat)}{a b:Nat}(hB:B≤wr.heap.size)
 (hown:wr.ownsRow B E 2 v l.length (cs l)) (hnx:Below B w wr)
 (hown':w1.ownsRow B E 2 v' (l.length+1) (cs l++[.int .i64 (a:Int),.int .i64 (b:Int)])) (hgrow:(wr.alloc o).grownBy w1 v.ownBlock):
 w1.ownsRow B E 2 v' (l++[(a,b)]).length (cs (l++[(a,b)]))∧Below B w w1:=by
 refine⟨by rw[ZjB];simpa using hown',(hnx.alloc hB o).grown hgrow (by simp;omega) (fun j hj=>(hown.lt j hj).1)⟩
theorem ZiU {s:ByteArray}{k sg:Nat}{l:List (Nat×Nat)}(hk:k<s.size)(hl:Q.isLet s[k]=true)
 (h:Q.cutL 0 s.data.toList=(Q.cutL sg (s.data.toList.drop k)).map (l++ ·)) (he:¬k+1<s.size):
 Q.cutL 0 s.data.toList=some (l++[(sg,s[k].toNat-97)]):=by
 rw[h,YQ s k hk,List.drop_eq_nil_of_le (by simp;omega),Q.cutL_one _ _ hl];rfl
theorem Zia {s:ByteArray}{k sg a:Nat}{l:List (Nat×Nat)}(hk:k<s.size)
 (h:Q.cutL 0 s.data.toList=(Q.cutL sg (s.data.toList.drop k)).map (l++ ·)) (he:k+1<s.size)
 (hp:Q.sgn (s.data.toList.drop (k+1))=(a,0)):Q.cutL 0 s.data.toList=none:=by
 rw[h,YQ s k hk];by_cases hl:Q.isLet s[k]=true
 · rw[Q.cutL_more _ _ _ hl (by rw[YQ s (k+1) he];simp),hp];rfl
 · rw[Q.cutL_notlet _ _ _ (by simpa using hl)];rfl
theorem Zjo {s:ByteArray}{k sg:Nat}{l:List (Nat×Nat)}(hk:k<s.size)(hl:Q.isLet s[k]=false)
 (h:Q.cutL 0 s.data.toList=(Q.cutL sg (s.data.toList.drop k)).map (l++ ·)):Q.cutL 0 s.data.toList=none:=by
 rw[h,YQ s k hk,Q.cutL_notlet _ _ _ hl];rfl
theorem ZiX {s:ByteArray}{k sg:Nat}{l:List (Nat×Nat)}(hk:¬k<s.size)
 (h:Q.cutL 0 s.data.toList=(Q.cutL sg (s.data.toList.drop k)).map (l++ ·)):Q.cutL 0 s.data.toList=none:=by
 rw[h,List.drop_eq_nil_of_le (by simp;omega)];rfl
theorem ZjJ {s:ByteArray}{k sg a b:Nat}{l:List (Nat×Nat)}(hk:k<s.size)(hl:Q.isLet s[k]=true)
 (h:Q.cutL 0 s.data.toList=(Q.cutL sg (s.data.toList.drop k)).map (l++ ·)) (he:k+1<s.size)
 (hp:Q.sgn (s.data.toList.drop (k+1))=(a,b)) (hb:b≠0):
 Q.cutL 0 s.data.toList=(Q.cutL a (s.data.toList.drop (k+1+b))).map ((l++[(sg,s[k].toNat-97)])++ ·)∧k+1+b≤s.size∧a≤3:=by
 have hle:=Q.sgn_le (s.data.toList.drop (k+1));rw[hp]at hle;simp at hle;refine⟨?_,by omega,by omega⟩;rw[h,YQ s k hk,Q.cutL_more _ _ _ hl (by rw[YQ s (k+1) he];simp),hp];simp only[hb,if_false,List.drop_drop,Option.map_map];congr 1;funext x;simp
theorem ZcZ (s:ByteArray)(i a b:Nat)(w:World)(hs:s.size≤maxLen)(hi:i<s.size)(hp:Q.sgn (s.data.toList.drop i)=(a,b))(j:Int)(hj:j=i):
 Calls Tryz.prog 166 #[.string s,.int .i64 j] w fun e w'=>e=.returned (.tuple #[.int .i64 (a:Int),.int .i64 (b:Int)])∧w=w':=by
 have h:=ZfF s i w hs hi;rw[hp]at h;rw[hj];exact h
theorem Xd (a b:Int):∀u∈[Value.int .i64 a,Value.int .i64 b],u.oneCell'=true:=by
 intro u hu;simp at hu;rcases hu with rfl|rfl<;>rfl
theorem ZgN (s:ByteArray)(w:World)(hs:s.size≤40):
 Calls Tryz.prog 157 #[.string s] w fun e w'=>∃v,e=.returned (.tuple #[v,.bool (Q.cutL 0 s.data.toList).isSome])∧
  w'.ownsRow w.heap.size 204 2 v ((Q.cutL 0 s.data.toList).getD []).length (cs ((Q.cutL 0 s.data.toList).getD []))∧Below w.heap.size w w':=by
 have hm:s.size≤maxLen:=by unfold maxLen;omega
 obtain⟨i0,hi,hz0,hz1,hz2⟩:=info_parts Tryz.infoStep;have HI:Hid (Tryz.prog.info? 204=some i0∧i0.zero=some (.agg #[.int .i64 0,.int .i64 0])∧i0.size=2∧i0.bytes=16):=⟨hi,hz0,hz1,hz2⟩;clear hi hz0 hz1 hz2;have hend:Hid (Q.cutL 0 s.data.toList=none→∀wr,Below w.heap.size w wr→∃v,Ending.returned (.tuple #[.slice none 0 0,.bool false])=.returned (.tuple #[v,.bool (Q.cutL 0 s.data.toList).isSome])∧
  wr.ownsRow w.heap.size 204 2 v ((Q.cutL 0 s.data.toList).getD []).length (cs ((Q.cutL 0 s.data.toList).getD []))∧Below w.heap.size w wr):=by
  intro h wr hb;rw[h];exact⟨_,rfl,World.ownsRow_nil _ _ _ _,hb⟩
 have hfin:Hid (∀l,Q.cutL 0 s.data.toList=some l→∀v wr,wr.ownsRow w.heap.size 204 2 v l.length (cs l)→Below w.heap.size w wr→
  ∃v1,Ending.returned (.tuple #[v,.bool true])=.returned (.tuple #[v1,.bool (Q.cutL 0 s.data.toList).isSome])∧
  wr.ownsRow w.heap.size 204 2 v1 ((Q.cutL 0 s.data.toList).getD []).length (cs ((Q.cutL 0 s.data.toList).getD []))∧Below w.heap.size w wr):=by
  intro l h v wr ho hb;rw[h];exact⟨_,rfl,ho,hb⟩
 go_enter Tryz.func157,Tryz.ntmps157;go_wp2
 go_loopw [4,5,6] (fun v g i wr=>∃(k sg:Nat)(l:List (Nat×Nat)),k≤s.size∧i=.int .i64 k∧g=.int .i64 sg∧l.length≤k∧
  wr.ownsRow w.heap.size 204 2 v l.length (cs l)∧Below w.heap.size w wr∧Hid (Q.cutL 0 s.data.toList=(Q.cutL sg (s.data.toList.drop k)).map (l++ ·)))
  (fun _ _ i _=>s.size-(intOf i).toNat)
 case atStart=>exact⟨0,0,[],Nat.zero_le _,rfl,rfl,Nat.le_refl _,World.ownsRow_nil _ _ _ _,Below.refl _ _,by simp[Hid]⟩
 case round=>
  obtain⟨k,sg,l,hk,rfl,rfl,hlk,hown,hnx,HP⟩:=hrel;by_cases hlt:k<s.size
  · cases hl:Q.isLet s[k]with
    |false=>
     have HL:=hid hl;clear hl
     go_wp2_with (go_at_call 165;refine(Zij _ _ HL.out).mono ?_;rintro e w' ⟨rfl,rfl⟩)
     go_ret2;exact hend.out (Zjo hlt HL.out HP.out) _ hnx
    |true=>
     have HL:=hid hl;clear hl;have hB:w.heap.size≤wr.heap.size:=hnx.size;obtain⟨kk,hkk⟩:∃kk:Nat,kk=s[k].toNat-97:=⟨_,rfl⟩;have HK:=hid hkk;have hkey:=fun w=>ZhD s[k] w HL.out;rw[←hkk]at hkey;have HKey:=hid hkey;clear hkey hkk;by_cases hlast:k+1<s.size
     · obtain⟨a,b,hp⟩:∃a b,Q.sgn (s.data.toList.drop (k+1))=(a,b):=⟨_,_,rfl⟩;have HS:=hid hp;clear hp;have hne:(((k:Int)+1)==(s.size:Int))=false:=by simp;omega
       have hb2:b≤2:=by have:=Q.sgn_le (s.data.toList.drop (k+1));rw[HS.out]at this;exact this.2.2
       by_cases hb:b=0
       · have hbz:((b:Int)==0)=true:=by simp;omega
         have HB:=hid hb;clear hb
         go_wp2_with (first
         |(go_at_call 165;refine(HKey.out _).mono ?_;rintro e w' ⟨rfl,rfl⟩)
         |(go_at_call 166;refine(ZcZ s (k+1) a b _ hm hlast HS.out _ (by omega)).mono ?_;rintro e w' ⟨rfl,rfl⟩)
         |(at_builtin;refine wpList_append_own _ rfl (.tmp 24) (.tmp 28) 200 rfl w.heap.size 204 i0 (.agg #[.int .i64 0,.int .i64 0]) 2 16 Tryz.underlying200 HI.out.1 HI.out.2.1 HI.out.2.2.1 HI.out.2.2.2 rfl (by decide) _ _ _ rfl (hown.alloc _) ⟨wr.heap.size,0,none⟩ 1 1 [.int .i64 sg,.int .i64 kk] rfl rfl (cell_two_new _ _ _ _) (Xd _ _) (by unfold maxLen;omega) (by omega) (by simp;omega) ?_;intro v' w1 hown' hgrow _))
         go_ret2;have HS0:=HS.out;rw[HB.out]at HS0;obtain⟨_,r2⟩:=VJ (a:=sg) (b:=kk) hB hown hnx (by assumption) (by assumption);exact hend.out (Zia hlt HP.out hlast HS0) _ r2
       · have hbz:((b:Int)==0)=false:=by simp;omega
         go_wp2_with (first
         |(go_at_call 165;refine(HKey.out _).mono ?_;rintro e w' ⟨rfl,rfl⟩)
         |(go_at_call 166;refine(ZcZ s (k+1) a b _ hm hlast HS.out _ (by omega)).mono ?_;rintro e w' ⟨rfl,rfl⟩)
         |(at_builtin;refine wpList_append_own _ rfl (.tmp 24) (.tmp 28) 200 rfl w.heap.size 204 i0 (.agg #[.int .i64 0,.int .i64 0]) 2 16 Tryz.underlying200 HI.out.1 HI.out.2.1 HI.out.2.2.1 HI.out.2.2.2 rfl (by decide) _ _ _ rfl (hown.alloc _) ⟨wr.heap.size,0,none⟩ 1 1 [.int .i64 sg,.int .i64 kk] rfl rfl (cell_two_new _ _ _ _) (Xd _ _) (by unfold maxLen;omega) (by omega) (by simp;omega) ?_;intro v' w1 hown' hgrow _))
         obtain⟨r1,r2⟩:=VJ (a:=sg) (b:=kk) hB hown hnx (by assumption) (by assumption);obtain⟨q1,q2,q3⟩:=ZjJ hlt HL.out HP.out hlast HS.out hb
         go_roundw
         case rel=>exact⟨k+1+b,a,l++[(sg,kk)],q2,by go_num,rfl,by simp;omega,r1,r2,by rw[HK.out];exact q1⟩
         case measure=>simp[intOf];omega
     · have hne:(((k:Int)+1)==(s.size:Int))=true:=by simp;omega
       go_wp2_with (first
        |(go_at_call 165;refine(HKey.out _).mono ?_;rintro e w' ⟨rfl,rfl⟩)
        |(at_builtin;refine wpList_append_own _ rfl (.tmp 24) (.tmp 28) 200 rfl w.heap.size 204 i0 (.agg #[.int .i64 0,.int .i64 0]) 2 16 Tryz.underlying200 HI.out.1 HI.out.2.1 HI.out.2.2.1 HI.out.2.2.2 rfl (by decide) _ _ _ rfl (hown.alloc _) ⟨wr.heap.size,0,none⟩ 1 1 [.int .i64 sg,.int .i64 kk] rfl rfl (cell_two_new _ _ _ _) (Xd _ _) (by unfold maxLen;omega) (by omega) (by simp;omega) ?_;intro v' w1 hown' hgrow _))
       go_ret2;obtain⟨r1,r2⟩:=VJ (a:=sg) (b:=kk) hB hown hnx (by assumption) (by assumption);exact hfin.out _ (by rw[HK.out];exact ZiU hlt HL.out HP.out hlast) _ _ r1 r2
  · go_wp2;go_ret2;exact hend.out (ZiX hlt HP.out) _ hnx
def YK (v:Int)(sg:Nat)(x:Int):Int:=
 if sg=0 then wrap32 (v+x)else if sg=1 then wrap32 (v-x)else if sg=2 then wrap32 (v*x)else if x=0 then 0 else wrap32 (v.tdiv x)
theorem Vg {k:IntKind}{a b:Int}(h:a=b):Ending.returned (.int k a)=.returned (.int k b):=by rw[h]
theorem Zg0 (a b:Int)(sg:Nat)(w:World)(hs:sg≤3):
 Calls Tryz.prog 159 #[.int .i32 a,.int .i64 sg,.int .i32 b] w fun e w'=>e=.returned (.int .i32 (YK a sg b))∧w=w':=by
 have hc:sg=0∨sg=1∨sg=2∨(sg=3∧b=0)∨(sg=3∧b≠0):=by omega
 rcases hc with rfl|rfl|rfl|⟨rfl,hb⟩|⟨rfl,hb⟩
 · go_enter Tryz.func159,Tryz.ntmps159;go_wp2;go_ret;exact⟨Vg (by simp[YK]),rfl⟩
 · go_enter Tryz.func159,Tryz.ntmps159;go_wp2;go_ret;exact⟨Vg (by simp[YK]),rfl⟩
 · go_enter Tryz.func159,Tryz.ntmps159;go_wp2;go_ret;exact⟨Vg (by simp[YK]),rfl⟩
 · have hz:(b==0)=true:=by simpa using hb
   subst hb;go_enter Tryz.func159,Tryz.ntmps159;go_wp2;go_ret;exact⟨Vg (by simp[YK]),rfl⟩
 · have hz:(b==0)=false:=by simpa using hb
   go_enter Tryz.func159,Tryz.ntmps159;go_wp2;go_ret;exact⟨Vg (by simp[YK,hb]),rfl⟩
def bitN (k:Nat):Int:=if k=0 then 1 else if k=1 then 2 else if k=2 then 4 else if k=3 then 8 else if k=4 then 16 else if k=5 then 32 else if k=6 then 64 else 128
theorem Zj4 (k:Nat)(w:World)(hk:k≤7):
 Calls Tryz.prog 125 #[.int .i64 k] w fun e w'=>e=.returned (.int .u8 (bitN k))∧w=w':=by
 have hc:k=0∨k=1∨k=2∨k=3∨k=4∨k=5∨k=6∨k=7:=by omega
 rcases hc with rfl|rfl|rfl|rfl|rfl|rfl|rfl|rfl
 all_goals
  go_enter Tryz.func125,Tryz.ntmps125;go_wp2;go_ret;exact⟨Vg (by decide),rfl⟩
theorem ZcA {w:World}{B E n:Nat}{v:Value}{xs:List Value}(h:w.ownsRow B E 2 v n xs):∃ao cap,v=.slice ao n cap:=by
 obtain⟨_,h|⟨g,cap,_,hv,_⟩⟩:=h
 · exact⟨none,0,by rw[h.1,h.2]⟩
 · exact⟨_,cap,hv⟩
theorem cs_at (ts:List (Nat×Nat))(j:Nat)(h:j<ts.length):(cs ts)[j*2]?=some (.int .i64 (ts[j].1:Int))∧(cs ts)[j*2+1]?=some (.int .i64 (ts[j].2:Int)):=by
 induction ts generalizing j with
 |nil=>simp at h
 |cons t r ih=>
  match j with
  |0=>simp[cs]
  |j+1=>
   have:=ih j (by simpa using h);have e1:(j+1)*2=j*2+2:=by omega
   have e2:(j+1)*2+1=(j*2+1)+2:=by omega
   rw[e2,e1];simpa[cs]using this
structure ZcD (w:World)(g:Nat)(ts:List (Nat×Nat)):Prop where
 lt:g<w.heap.size
 sign:∀j (h:j<ts.length),w.cell? ⟨g,j*2,none⟩=some (.int .i64 (ts[j].1:Int))
 key:∀j (h:j<ts.length),w.cell? ⟨g,j*2+1,none⟩=some (.int .i64 (ts[j].2:Int))
theorem ZcD.below {w w':World}{g:Nat}{ts:List (Nat×Nat)}(h:ZcD w g ts)(hb:Below w.heap.size w w'):ZcD w' g ts:=
 ⟨Nat.lt_of_lt_of_le h.lt hb.size,fun j hj=>(hb.cell (p:=⟨g,j*2,none⟩) h.lt).trans (h.sign j hj),fun j hj=>(hb.cell (p:=⟨g,j*2+1,none⟩) h.lt).trans (h.key j hj)⟩
theorem ZeM (g k:Nat):(⟨g,0,none⟩:Addr).add k=⟨g,k,none⟩:=by
 cases k<;>simp[Addr.add]
theorem ZcS {w:World}{B E:Nat}{v:Value}{ts:List (Nat×Nat)}(h:w.ownsRow B E 2 v ts.length (cs ts))(hne:ts≠[]):
 ∃g cap,v=.slice (some ⟨g,0,none⟩) ts.length cap∧B≤g∧ZcD w g ts:=by
 have h2:=h;obtain⟨_,h1|⟨g,cap,cur,rfl,hB,hh,hr⟩⟩:=h
 · exact absurd (List.length_eq_zero_iff.mp h1.2) hne
 · refine⟨g,cap,rfl,hB,?_,?_,?_⟩
   · by_cases hg:g<w.heap.size
     · exact hg
     · rw[Array.getElem?_eq_none (by omega)]at hh;simp at hh
   · intro j hj;have:=h2.cells (g:=g) rfl (j*2) _ (cs_at ts j hj).1;rw[ZeM]at this;exact this
   · intro j hj;have:=h2.cells (g:=g) rfl (j*2+1) _ (cs_at ts j hj).2;rw[ZeM]at this;exact this
theorem Zig (s:ByteArray)(w:World)(hs:s.size≤40)(hc:Q.cutL 0 s.data.toList=none):
 Calls Tryz.prog 157 #[.string s] w fun e w'=>∃ao cap,e=.returned (.tuple #[.slice ao 0 cap,.bool false])∧Below w.heap.size w w':=by
 refine(ZgN s w hs).mono ?_;rintro e w' ⟨v,he,ho,hb⟩;rw[hc]at he ho;obtain⟨ao,cap,rfl⟩:=ZcA ho;exact⟨ao,cap,he,hb⟩
theorem Zex (s:ByteArray)(w:World)(hs:s.size≤40)(ts:List (Nat×Nat))(hc:Q.cutL 0 s.data.toList=some ts):
 Calls Tryz.prog 157 #[.string s] w fun e w'=>∃g cap,e=.returned (.tuple #[.slice (some ⟨g,0,none⟩) ts.length cap,.bool true])∧w.heap.size≤g∧ZcD w' g ts∧Below w.heap.size w w':=by
 refine(ZgN s w hs).mono ?_;rintro e w' ⟨v,he,ho,hb⟩;rw[hc]at he ho;obtain⟨g,cap,rfl,hB,hl⟩:=ZcS ho (by intro h;simp at h;subst h;exact Q.cutL_ne _ _ hc);exact⟨g,cap,he,hB,hl,hb⟩
theorem ZiZ (s:ByteArray)(w:World)(er:Int)(hs:s.size≤maxLen)(hr:Q.readL s.data.toList=(er,[])):
 Calls Tryz.prog 124 #[.string s] w fun e w'=>e=.returned (.tuple #[.slice none 0 0,.int .i64 er])∧(er==0)=false∧Below w.heap.size w w':=by
 unfold maxLen at hs;by_cases h40:40<s.size
 · have he:er=3:=by simp[Q.readL,h40]at hr;exact hr.symm
   subst he;clear hr;go_enter Tryz.func124,Tryz.ntmps124;go_wp2;go_ret2;exact⟨rfl,rfl,Below.refl _ _⟩
 · have h40':s.size≤40:=by omega
   cases hc:Q.cutL 0 s.data.toList with
   |none=>
    have he:er=4:=by simp[Q.readL,h40,hc]at hr;exact hr.symm
    subst he;have HC:=hid hc;clear hr hc h40;go_enter Tryz.func124,Tryz.ntmps124
    go_wp2_with (go_at_call 157;refine(Zig s _ h40' HC.out).mono ?_;rintro e w1 ⟨ao,cap,rfl,hb⟩)
    go_ret2;exact⟨rfl,rfl,by assumption⟩
   |some ts=>
    have h8:8<ts.length:=by
     by_cases h8:8<ts.length
     · exact h8
     · simp[Q.readL,h40,hc,h8]at hr;exact absurd (hr.2▸hc) (Q.cutL_ne _ _)
    have he:er=3:=by simp[Q.readL,h40,hc,h8]at hr;exact hr.symm
    subst he;have HC:=hid hc;clear hr hc h40;go_enter Tryz.func124,Tryz.ntmps124
    go_wp2_with (go_at_call 157;refine(Zex s _ h40' ts HC.out).mono ?_;rintro e w1 ⟨g,cap,rfl,hg,hl,hb⟩)
    go_ret2;exact⟨rfl,rfl,by assumption⟩
theorem ZcR (s:ByteArray)(w:World)(ts:List (Nat×Nat))(hr:Q.readL s.data.toList=(0,ts)):
 Calls Tryz.prog 124 #[.string s] w fun e w'=>∃g cap,e=.returned (.tuple #[.slice (some ⟨g,0,none⟩) ts.length cap,.int .i64 0])∧w.heap.size≤g∧ZcD w' g ts∧Below w.heap.size w w':=by
 have h40':s.size≤40:=by
  by_cases h:40<s.size
  · simp[Q.readL,h]at hr
  · omega
 have hc:Q.cutL 0 s.data.toList=some ts∧ts.length≤8:=by
  have h:¬40<s.size:=by omega
  cases hc:Q.cutL 0 s.data.toList with
  |none=>simp[Q.readL,h,hc]at hr
  |some us=>
   by_cases h8:8<us.length
   · simp[Q.readL,h,hc,h8]at hr
   · simp[Q.readL,h,hc,h8]at hr;subst hr;exact⟨rfl,by omega⟩
 obtain⟨hc,h8⟩:=hc;have HC:=hid hc;clear hr hc;go_enter Tryz.func124,Tryz.ntmps124
 go_wp2_with (go_at_call 157;refine(Zex s _ h40' ts HC.out).mono ?_;rintro e w1 ⟨g,cap,rfl,hg,hl,hb⟩)
 go_ret2;exact⟨_,_,rfl,by assumption,by assumption,by assumption⟩
end Go.Proofs.YtpfcacedpkaihaaGreat
