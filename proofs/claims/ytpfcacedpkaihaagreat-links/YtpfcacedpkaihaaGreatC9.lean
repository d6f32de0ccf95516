import Derived.Deep.QuietTactic
import Derived.BigQuiet
import Derived.Lib.Strings
import Derived.Test.YtpfcacedpkaihaaGreatC4
namespace Go.Proofs.YtpfcacedpkaihaaGreat
open Go.RowKit
set_option maxRecDepth 100000
set_option maxHeartbeats 16000000
theorem Zg3 (w:World):
 Calls Tryz.prog 167 #[] w fun e w'=>e=.returned (.slice (some ⟨w.heap.size,0,none⟩) 4 4)∧
  w.alloc (.cells #[.string ⟨#[43]⟩,.string ⟨#[45]⟩,.string ⟨#[195,151]⟩,.string ⟨#[195,183]⟩] 9)=w':=by
 go_enter Tryz.func167,Tryz.ntmps167;go_wp2;go_ret;exact⟨rfl,rfl⟩
def sS :Nat→List UInt8
 |0=>[43]
 |1=>[45]
 |2=>[195,151]
 |_=>[195,183]
def rsg (l:List UInt8):Int×Int:=if(Q.sgn l).2=0 then(-1,0)else(((Q.sgn l).1:Int),((Q.sgn l).2:Int))
theorem Zi8 (l:List UInt8)(k:Nat)(hk:k<4)(h:l.take (sS k).length=sS k):Q.sgn l=(k,(sS k).length):=by
 have hc:k=0∨k=1∨k=2∨k=3:=by omega
 match l with
 |[]=>rcases hc with rfl|rfl|rfl|rfl<;>simp[sS]at h
 |[c]=>rcases hc with rfl|rfl|rfl|rfl<;>simp[sS]at h<;>subst h<;>decide
 |c::d::r=>
  rcases hc with rfl|rfl|rfl|rfl
  · simp[sS]at h;subst h;simp[Q.sgn,sS]
  · simp[sS]at h;subst h;simp[Q.sgn,sS]
  · simp[sS]at h;obtain⟨rfl,rfl⟩:=h;simp[Q.sgn,sS]
  · simp[sS]at h;obtain⟨rfl,rfl⟩:=h;simp[Q.sgn,sS]
theorem Zhv (l:List UInt8)(h:∀k,k<4→¬l.take (sS k).length=sS k):(Q.sgn l).2=0:=by
 have h0:=h 0 (by omega);have h1:=h 1 (by omega);have h2:=h 2 (by omega);have h3:=h 3 (by omega);have ne:∀(c:UInt8)(n:UInt8),¬c=n→¬c.toNat=n.toNat:=fun c n hn he=>hn (UInt8.toNat_inj.mp he)
 match l with
 |[]=>rfl
 |[c]=>
  simp[sS]at h0 h1;have a:=ne c 43 h0;have b:=ne c 45 h1;simp at a b;simp[Q.sgn,a,b]
 |c::d::r=>
  simp[sS]at h0 h1 h2 h3;have a:=ne c 43 h0;have b:=ne c 45 h1;simp at a b;by_cases hc:c.toNat=195
  · have hc':c=195:=UInt8.toNat_inj.mp hc;have a':=ne d 151 (h2 hc');have b':=ne d 183 (h3 hc');simp at a' b';simp[Q.sgn,hc,a',b']
  · simp[Q.sgn,a,b,hc]
theorem Vi {r:ByteArray}{n:Nat}{l:List UInt8}(h:((r.extract 0 n).toList==l)=true):r.data.toList.take n=l:=by
 have:=eq_of_beq h;rw[Lib.toList_data,Lib.extract_data]at this;simpa using this
theorem XL {r:ByteArray}{n:Nat}{l:List UInt8}(h:((r.extract 0 n).toList==l)=false):¬r.data.toList.take n=l:=by
 intro he;rw[Lib.toList_data,Lib.extract_data]at h;simp[he]at h
theorem VO {r:ByteArray}{l:List UInt8}(h:¬l.length≤r.size):¬r.data.toList.take l.length=l:=by
 intro he;have:=congrArg List.length he;simp at this;omega
theorem ZbL {l:List UInt8}{k:Nat}(hk:k<4)(h:l.take (sS k).length=sS k):rsg l=((k:Int),((sS k).length:Int)):=by
 have:=Zi8 l k hk h;have h0:¬(sS k).length=0:=by
  have hc:k=0∨k=1∨k=2∨k=3:=by omega
  rcases hc with rfl|rfl|rfl|rfl<;>decide
 simp only[rsg,this,h0,if_false]
theorem Zje {l:List UInt8}(h:∀k,k<4→¬l.take (sS k).length=sS k):rsg l=(-1,0):=by simp[rsg,Zhv l h]
theorem Xe {l:List UInt8}{k:Nat}(h:∀j,j<k→¬l.take (sS j).length=sS j)(hk:¬l.take (sS k).length=sS k):∀j,j<k+1→¬l.take (sS j).length=sS j:=by
 intro j hj;by_cases e:j=k
 · rw[e];exact hk
 · exact h j (by omega)
theorem Ul {p:Int×Int}{a b:Int}(h:p=(a,b)):Ending.returned (.tuple #[.int .i64 a,.int .i64 b])=.returned (.tuple #[.int .i64 p.1,.int .i64 p.2]):=by rw[h]
theorem Zhj (r:ByteArray)(w:World)(hs:r.size≤maxLen):
 Calls Tryz.prog 158 #[.string r] w fun e w'=>e=.returned (.tuple #[.int .i64 (rsg r.data.toList).1,.int .i64 (rsg r.data.toList).2])∧Below w.heap.size w w':=by
 unfold maxLen at hs;go_enter Tryz.func158,Tryz.ntmps158
 go_wp2_with (go_at_call 167;refine(Zg3 _).mono ?_;rintro e w1 ⟨rfl,hw1⟩)
 have hb1:Below w.heap.size w w1:=by rw[←hw1];exact(Below.refl _ _).alloc (Nat.le_refl _) _
 have HW:=hid hw1;clear hw1
 go_loopw [5] (fun i wr=>∃k:Nat,k≤4∧i=.int .i64 k∧Below w1.heap.size w1 wr∧Hid (∀j,j<k→¬r.data.toList.take (sS j).length=sS j)) (fun i _=>4-(intOf i).toNat)
 case atStart=>exact⟨0,by omega,rfl,Below.refl _ _,fun j hj=>absurd hj (Nat.not_lt_zero _)⟩
 case round=>
  obtain⟨k,hk,rfl,hnx,HM⟩:=hrel;have hz:w.heap.size<w1.heap.size:=by rw[←HW.out];simp
  have hbw:=hb1.trans (hnx.mono (Nat.le_of_lt hz));by_cases hlt:k<4
  · have hc:k=0∨k=1∨k=2∨k=3:=by omega
    rcases hc with rfl|rfl|rfl|rfl
    · have hcell:wr.cell? ⟨w.heap.size,0,none⟩=some (.string ⟨#[43]⟩):=by
       rw[hnx.cell (p:=⟨w.heap.size,0,none⟩) hz,←HW.out];simp[go_sem]
      by_cases hl:1≤r.size
      · have hl':(1:Int)≤(r.size:Int):=by omega
        have hd:decide ((1:Int)≤(r.size:Int))=true:=by simpa using hl'
        go_wp2_with fail
        go_quiet (fail)
        go_wp2
        · go_ret2;exact⟨Ul (ZbL (k:=0) (by omega) (Vi ‹_›)),below_drewN hbw _⟩
        · go_roundw
          case rel=>exact⟨1,by omega,by go_num,below_drewN hnx _,Xe (k:=0) HM.out (XL ‹_›)⟩
          case measure=>simp[intOf]
      · have hl':¬(1:Int)≤(r.size:Int):=by omega
        have hd:decide ((1:Int)≤(r.size:Int))=false:=by simpa using hl'
        go_wp2_with fail
        go_quiet (fail)
        go_wp2
        go_roundw
        case rel=>exact⟨1,by omega,by go_num,below_drewN hnx _,Xe (k:=0) HM.out (VO hl)⟩
        case measure=>simp[intOf]
    · have hcell:wr.cell? ⟨w.heap.size,1,none⟩=some (.string ⟨#[45]⟩):=by
       rw[hnx.cell (p:=⟨w.heap.size,1,none⟩) hz,←HW.out];simp[go_sem]
      by_cases hl:1≤r.size
      · have hl':(1:Int)≤(r.size:Int):=by omega
        have hd:decide ((1:Int)≤(r.size:Int))=true:=by simpa using hl'
        go_wp2_with fail
        go_quiet (fail)
        go_wp2
        · go_ret2;exact⟨Ul (ZbL (k:=1) (by omega) (Vi ‹_›)),below_drewN hbw _⟩
        · go_roundw
          case rel=>exact⟨2,by omega,by go_num,below_drewN hnx _,Xe (k:=1) HM.out (XL ‹_›)⟩
          case measure=>simp[intOf]
      · have hl':¬(1:Int)≤(r.size:Int):=by omega
        have hd:decide ((1:Int)≤(r.size:Int))=false:=by simpa using hl'
        go_wp2_with fail
        go_quiet (fail)
        go_wp2
        go_roundw
        case rel=>exact⟨2,by omega,by go_num,below_drewN hnx _,Xe (k:=1) HM.out (VO hl)⟩
        case measure=>simp[intOf]
    · have hcell:wr.cell? ⟨w.heap.size,2,none⟩=some (.string ⟨#[195,151]⟩):=by
       rw[hnx.cell (p:=⟨w.heap.size,2,none⟩) hz,←HW.out];simp[go_sem]
      by_cases hl:2≤r.size
      · have hl':(2:Int)≤(r.size:Int):=by omega
        have hd:decide ((2:Int)≤(r.size:Int))=true:=by simpa using hl'
        go_wp2_with fail
        go_quiet (fail)
        go_wp2
        · go_ret2;exact⟨Ul (ZbL (k:=2) (by omega) (Vi ‹_›)),below_drewN hbw _⟩
        · go_roundw
          case rel=>exact⟨3,by omega,by go_num,below_drewN hnx _,Xe (k:=2) HM.out (XL ‹_›)⟩
          case measure=>simp[intOf]
      · have hl':¬(2:Int)≤(r.size:Int):=by omega
        have hd:decide ((2:Int)≤(r.size:Int))=false:=by simpa using hl'
        go_wp2_with fail
        go_quiet (fail)
        go_wp2
        go_roundw
        case rel=>exact⟨3,by omega,by go_num,below_drewN hnx _,Xe (k:=2) HM.out (VO hl)⟩
        case measure=>simp[intOf]
    · have hcell:wr.cell? ⟨w.heap.size,3,none⟩=some (.string ⟨#[195,183]⟩):=by
       rw[hnx.cell (p:=⟨w.heap.size,3,none⟩) hz,←HW.out];simp[go_sem]
      by_cases hl:2≤r.size
      · have hl':(2:Int)≤(r.size:Int):=by omega
        have hd:decide ((2:Int)≤(r.size:Int))=true:=by simpa using hl'
        go_wp2_with fail
        go_quiet (fail)
        go_wp2
        · go_ret2;exact⟨Ul (ZbL (k:=3) (by omega) (Vi ‹_›)),below_drewN hbw _⟩
        · go_roundw
          case rel=>exact⟨4,by omega,by go_num,below_drewN hnx _,Xe (k:=3) HM.out (XL ‹_›)⟩
          case measure=>simp[intOf]
      · have hl':¬(2:Int)≤(r.size:Int):=by omega
        have hd:decide ((2:Int)≤(r.size:Int))=false:=by simpa using hl'
        go_wp2_with fail
        go_quiet (fail)
        go_wp2
        go_roundw
        case rel=>exact⟨4,by omega,by go_num,below_drewN hnx _,Xe (k:=3) HM.out (VO hl)⟩
        case measure=>simp[intOf]
  · go_wp2;go_ret2;exact⟨Ul (Zje (fun j hj=>HM.out j (by omega))),hbw⟩
theorem Tryz.infoTerm :(Tryz.prog.info? 209).map (fun i=>(i.zero,i.size,i.bytes))=some (some (.agg #[.int .i64 0,.int .i64 0]),2,16):=by kernel_rfl
def Zi4 :Value→Nat| .string b=>b.size|_=>0
theorem ZfT (r:ByteArray)(h:0<r.size):r.data.toList=r[0]::(r.extract 1 r.size).data.toList:=by
 rw[Lib.extract_data];have:=YQ r 0 h;simp at this⊢;rw[this];simp;rw[List.take_of_length_le (by simp)]
theorem Zc2 (r:ByteArray)(h:¬0<r.size):r.data.toList=[]:=by
 apply List.eq_nil_of_length_eq_zero;rw[Array.length_toList];show r.size=0;omega
theorem Zd1 (r:ByteArray)(b n:Nat)(hn:n=r.size):(r.extract b n).data.toList=r.data.toList.drop b:=by
 subst hn;rw[Lib.extract_data,List.take_of_length_le (by simp)]
theorem ZfN {w w':World}{B E n:Nat}{v:Value}{xs:List Value}(h:w.ownsRow B E 2 v n xs)(hb:Below w.heap.size w w'):w'.ownsRow B E 2 v n xs:=by
 obtain⟨h1,h2|⟨g,cap,cur,hv,hg,hh,r⟩⟩:=h
 · exact⟨h1,.inl h2⟩
 · refine⟨h1,.inr ⟨g,cap,cur,hv,hg,?_,r⟩⟩;rw[hb.block g]
   · exact hh
   · by_cases hgl:g<w.heap.size
     · exact hgl
     · rw[Array.getElem?_eq_none (by omega)]at hh;simp at hh
theorem Zdh (s:ByteArray)(w:World)(hs:s.size≤40):
 Calls Tryz.prog 126 #[.string s] w fun e w'=>∃v,e=.returned (.tuple #[v,.bool (Q.cutL 0 s.data.toList).isSome])∧
  w'.ownsRow w.heap.size 209 2 v ((Q.cutL 0 s.data.toList).getD []).length (cs ((Q.cutL 0 s.data.toList).getD []))∧Below w.heap.size w w':=by
 obtain⟨i0,hi,hz0,hz1,hz2⟩:=info_parts Tryz.infoTerm;have HI:Hid (Tryz.prog.info? 209=some i0∧i0.zero=some (.agg #[.int .i64 0,.int .i64 0])∧i0.size=2∧i0.bytes=16):=⟨hi,hz0,hz1,hz2⟩;clear hi hz0 hz1 hz2;have hend:Hid (Q.cutL 0 s.data.toList=none→∀wr,Below w.heap.size w wr→∃v,Ending.returned (.tuple #[.slice none 0 0,.bool false])=.returned (.tuple #[v,.bool (Q.cutL 0 s.data.toList).isSome])∧
  wr.ownsRow w.heap.size 209 2 v ((Q.cutL 0 s.data.toList).getD []).length (cs ((Q.cutL 0 s.data.toList).getD []))∧Below w.heap.size w wr):=by
  intro h wr hb;rw[h];exact⟨_,rfl,World.ownsRow_nil _ _ _ _,hb⟩
 have hfin:Hid (∀l,Q.cutL 0 s.data.toList=some l→∀v wr,wr.ownsRow w.heap.size 209 2 v l.length (cs l)→Below w.heap.size w wr→
  ∃v1,Ending.returned (.tuple #[v,.bool true])=.returned (.tuple #[v1,.bool (Q.cutL 0 s.data.toList).isSome])∧
  wr.ownsRow w.heap.size 209 2 v1 ((Q.cutL 0 s.data.toList).getD []).length (cs ((Q.cutL 0 s.data.toList).getD []))∧Below w.heap.size w wr):=by
  intro l h v wr ho hb;rw[h];exact⟨_,rfl,ho,hb⟩
 go_enter Tryz.func126,Tryz.ntmps126;go_wp2
 go_loopw [0,4,5] (fun q v g wr=>∃(r:ByteArray)(sg:Nat)(l:List (Nat×Nat)),q=.string r∧r.size+l.length≤40∧g=.int .i64 sg∧
  wr.ownsRow w.heap.size 209 2 v l.length (cs l)∧Below w.heap.size w wr∧Hid (Q.cutL 0 s.data.toList=(Q.cutL sg r.data.toList).map (l++ ·)))
  (fun q _ _ _=>Zi4 q)
 case atStart=>exact⟨s,0,[],rfl,by simpa using hs,rfl,World.ownsRow_nil _ _ _ _,Below.refl _ _,by simp[Hid]⟩
 case round=>
  obtain⟨r,sg,l,rfl,hk,rfl,hown,hnx,HP⟩:=hrel;by_cases hlt:0<r.size
  · have hz0:((r.size:Int)==0)=false:=beq_eq_false_iff_ne.mpr (by omega);have HC:Hid (r.data.toList=r[0]::(r.extract 1 r.size).data.toList):=ZfT r hlt;cases hl:Q.isLet r[0]with
    |false=>
     have HL:=hid hl;have h1:(r[0].toNat:Int)<97∨(97≤(r[0].toNat:Int)∧104<(r[0].toNat:Int)):=by simp[Q.isLet]at hl;omega
     clear hl;rcases h1 with h1|⟨h1,h2⟩
     all_goals
      go_wp2;go_ret2;exact hend.out (by rw[HP.out,HC.out,Q.cutL_notlet _ _ _ HL.out];rfl) _ hnx
    |true=>
     have HL:=hid hl;have h1:97≤(r[0].toNat:Int):=by simp[Q.isLet]at hl;omega
     have h2:(r[0].toNat:Int)≤104:=by simp[Q.isLet]at hl;omega
     clear hl;have hB:w.heap.size≤wr.heap.size:=hnx.size;have hr1:(r.extract 1 r.size).size=r.size-1:=by simp
     have hsz1:1≤r.size:=hlt;have HG:Hid ((((r[0].toNat:Int)-97))=((r[0].toNat-97:Nat):Int)):=by simp only[Hid];omega
     by_cases hone:r.size=1
     · have HO:=hid hone;have hz1:(((r.size-1:Nat):Int)==0)=true:=beq_iff_eq.mpr (by omega);clear hone
       go_wp2_with (first
        |(at_builtin;refine wpList_append_own _ rfl (.tmp 21) (.tmp 28) 147 rfl w.heap.size 209 i0 (.agg #[.int .i64 0,.int .i64 0]) 2 16 Tryz.underlying147 HI.out.1 HI.out.2.1 HI.out.2.2.1 HI.out.2.2.2 rfl (by decide) _ _ _ rfl (hown.alloc _) ⟨wr.heap.size,0,none⟩ 1 1 [.int .i64 sg,.int .i64 ((r[0].toNat:Int)-97)] rfl rfl (cell_two_new _ _ _ _) (Xd _ _) (by unfold maxLen;omega) (by omega) (by simp;omega) ?_;intro v' w1 hown' hgrow _))
       go_ret2;obtain⟨q1,q2⟩:=VJ (a:=sg) (b:=r[0].toNat-97) hB hown hnx (by rw[←HG.out];assumption) (by assumption);exact hfin.out _ (by rw[HP.out,HC.out,Zc2 (r.extract 1 r.size) (by rw[hr1,HO.out];omega),Q.cutL_one _ _ HL.out];rfl) _ _ q1 q2
     · have hz1:(((r.size-1:Nat):Int)==0)=false:=beq_eq_false_iff_ne.mpr (by omega);have hm1:(r.extract 1 r.size).size≤maxLen:=by rw[hr1];unfold maxLen;omega
       have hne:(r.extract 1 r.size).data.toList≠[]:=by intro h;have:=congrArg List.length h;rw[Array.length_toList]at this;have h2:(r.extract 1 r.size).size=0:=this;omega
       have hsg:=fun W=>Zhj (r.extract 1 r.size) W hm1;obtain⟨a,b,hp⟩:∃a b,Q.sgn (r.extract 1 r.size).data.toList=(a,b):=⟨_,_,rfl⟩;have hbd:=Q.sgn_le (r.extract 1 r.size).data.toList;rw[hp]at hbd;rw[Array.length_toList]at hbd;have hbd1:b≤r.size-1:=by have:=hbd.1;have h2:b≤(r.extract 1 r.size).size:=this;omega
       have hcut:=Q.cutL_more sg r[0] (r.extract 1 r.size).data.toList HL.out hne;rw[hp]at hcut;have HCut:=hid hcut;clear hcut;by_cases hb:b=0
       · have hv:rsg (r.extract 1 r.size).data.toList=(-1,0):=by unfold rsg;rw[hp];simp[hb]
         rw[hv]at hsg;have HS:=hid hsg;have HB:=hid hb;clear hsg hv hb hp hbd hne
         go_wp2_with (first
          |(go_at_call 158;refine(HS.out _).mono ?_;rintro e w2 ⟨rfl,hb2⟩)
          |(at_builtin;refine wpList_append_own _ rfl (.tmp 21) (.tmp 28) 147 rfl w.heap.size 209 i0 (.agg #[.int .i64 0,.int .i64 0]) 2 16 Tryz.underlying147 HI.out.1 HI.out.2.1 HI.out.2.2.1 HI.out.2.2.2 rfl (by decide) _ _ _ rfl (hown.alloc _) ⟨wr.heap.size,0,none⟩ 1 1 [.int .i64 sg,.int .i64 ((r[0].toNat:Int)-97)] rfl rfl (cell_two_new _ _ _ _) (Xd _ _) (by unfold maxLen;omega) (by omega) (by simp;omega) ?_;intro v' w1 hown' hgrow _))
         go_ret2;obtain⟨q1,q2⟩:=VJ (a:=sg) (b:=r[0].toNat-97) hB hown hnx (by rw[←HG.out];assumption) (by assumption);exact hend.out (by rw[HP.out,HC.out,HCut.out,HB.out];rfl) _ (q2.trans (hb2.mono q2.size))
       · have hv:rsg (r.extract 1 r.size).data.toList=((a:Int),(b:Int)):=by unfold rsg;rw[hp];simp[hb]
         rw[hv]at hsg;have HS:=hid hsg;clear hsg hv hp hbd hne
         go_wp2_with (first
          |(go_at_call 158;refine(HS.out _).mono ?_;rintro e w2 ⟨rfl,hb2⟩)
          |(at_builtin;refine wpList_append_own _ rfl (.tmp 21) (.tmp 28) 147 rfl w.heap.size 209 i0 (.agg #[.int .i64 0,.int .i64 0]) 2 16 Tryz.underlying147 HI.out.1 HI.out.2.1 HI.out.2.2.1 HI.out.2.2.2 rfl (by decide) _ _ _ rfl (hown.alloc _) ⟨wr.heap.size,0,none⟩ 1 1 [.int .i64 sg,.int .i64 ((r[0].toNat:Int)-97)] rfl rfl (cell_two_new _ _ _ _) (Xd _ _) (by unfold maxLen;omega) (by omega) (by simp;omega) ?_;intro v' w1 hown' hgrow _))
         obtain⟨q1,q2⟩:=VJ (a:=sg) (b:=r[0].toNat-97) hB hown hnx (by rw[←HG.out];assumption) (by assumption);have q3:=ZfN q1 hb2
         go_roundw
         case rel=>exact⟨_,a,l++[(sg,r[0].toNat-97)],rfl,by simp;omega,rfl,q3,q2.trans (hb2.mono q2.size),by rw[Zd1 _ _ _ (by simp),HP.out,HC.out,HCut.out,if_neg hb];simp[Hid,Function.comp_def]⟩
         case measure=>simp[Zi4];omega
  · have hz0:((r.size:Int)==0)=true:=beq_iff_eq.mpr (by omega);go_wp2;go_ret2;exact hend.out (by rw[HP.out,Zc2 r hlt];rfl) _ hnx
end Go.Proofs.YtpfcacedpkaihaaGreat
