import Derived.Deep.MidRow
import Derived.Test.YtpfcacedpkaihaaGreatC11
namespace Go.Proofs.YtpfcacedpkaihaaGreat
open Go.RowKit
set_option maxRecDepth 100000
set_option maxHeartbeats 16000000
theorem six {j:Nat}(h:j<6):j=0∨j=1∨j=2∨j=3∨j=4∨j=5:=by omega
def Zcz (s:Nat→Yb):Array Value:=#[.bool (s 0).reads,.int .i64 (s 0).num,.int .u64 ((s 0).lo:Int),.int .u64 ((s 0).hi:Int),.bool (s 1).reads,.int .i64 (s 1).num,.int .u64 ((s 1).lo:Int),.int .u64 ((s 1).hi:Int),.bool (s 2).reads,.int .i64 (s 2).num,.int .u64 ((s 2).lo:Int),.int .u64 ((s 2).hi:Int),.bool (s 3).reads,.int .i64 (s 3).num,.int .u64 ((s 3).lo:Int),.int .u64 ((s 3).hi:Int),.bool (s 4).reads,.int .i64 (s 4).num,.int .u64 ((s 4).lo:Int),.int .u64 ((s 4).hi:Int),.bool (s 5).reads,.int .i64 (s 5).num,.int .u64 ((s 5).lo:Int),.int .u64 ((s 5).hi:Int)]
theorem Tryz.seatAt0 (x0 x1 x2 x3 x4 x5 x6 x7 x8 x9 x10 x11 x12 x13 x14 x15 x16 x17 x18 x19 x20 x21 x22 x23:Value)(w:World):(Instr.index 122 (.agg #[x0,x1,x2,x3,x4,x5,x6,x7,x8,x9,x10,x11,x12,x13,x14,x15,x16,x17,x18,x19,x20,x21,x22,x23]) (.int .i64 0)).run Tryz.prog w=.ok (.agg #[x0,x1,x2,x3]) w:=by kernel_rfl
theorem Tryz.seatAt1 (x0 x1 x2 x3 x4 x5 x6 x7 x8 x9 x10 x11 x12 x13 x14 x15 x16 x17 x18 x19 x20 x21 x22 x23:Value)(w:World):(Instr.index 122 (.agg #[x0,x1,x2,x3,x4,x5,x6,x7,x8,x9,x10,x11,x12,x13,x14,x15,x16,x17,x18,x19,x20,x21,x22,x23]) (.int .i64 1)).run Tryz.prog w=.ok (.agg #[x4,x5,x6,x7]) w:=by kernel_rfl
theorem Tryz.seatAt2 (x0 x1 x2 x3 x4 x5 x6 x7 x8 x9 x10 x11 x12 x13 x14 x15 x16 x17 x18 x19 x20 x21 x22 x23:Value)(w:World):(Instr.index 122 (.agg #[x0,x1,x2,x3,x4,x5,x6,x7,x8,x9,x10,x11,x12,x13,x14,x15,x16,x17,x18,x19,x20,x21,x22,x23]) (.int .i64 2)).run Tryz.prog w=.ok (.agg #[x8,x9,x10,x11]) w:=by kernel_rfl
theorem Tryz.seatAt3 (x0 x1 x2 x3 x4 x5 x6 x7 x8 x9 x10 x11 x12 x13 x14 x15 x16 x17 x18 x19 x20 x21 x22 x23:Value)(w:World):(Instr.index 122 (.agg #[x0,x1,x2,x3,x4,x5,x6,x7,x8,x9,x10,x11,x12,x13,x14,x15,x16,x17,x18,x19,x20,x21,x22,x23]) (.int .i64 3)).run Tryz.prog w=.ok (.agg #[x12,x13,x14,x15]) w:=by kernel_rfl
theorem Tryz.seatAt4 (x0 x1 x2 x3 x4 x5 x6 x7 x8 x9 x10 x11 x12 x13 x14 x15 x16 x17 x18 x19 x20 x21 x22 x23:Value)(w:World):(Instr.index 122 (.agg #[x0,x1,x2,x3,x4,x5,x6,x7,x8,x9,x10,x11,x12,x13,x14,x15,x16,x17,x18,x19,x20,x21,x22,x23]) (.int .i64 4)).run Tryz.prog w=.ok (.agg #[x16,x17,x18,x19]) w:=by kernel_rfl
theorem Tryz.seatAt5 (x0 x1 x2 x3 x4 x5 x6 x7 x8 x9 x10 x11 x12 x13 x14 x15 x16 x17 x18 x19 x20 x21 x22 x23:Value)(w:World):(Instr.index 122 (.agg #[x0,x1,x2,x3,x4,x5,x6,x7,x8,x9,x10,x11,x12,x13,x14,x15,x16,x17,x18,x19,x20,x21,x22,x23]) (.int .i64 5)).run Tryz.prog w=.ok (.agg #[x20,x21,x22,x23]) w:=by kernel_rfl
theorem ZgP (s:Nat→Yb)(k:Nat)(hk:k<6)(w:World):(Instr.index 122 (.agg (Zcz s)) (.int .i64 (k:Int))).run Tryz.prog w=.ok (.agg #[.bool (s k).reads,.int .i64 (s k).num,.int .u64 ((s k).lo:Int),.int .u64 ((s k).hi:Int)]) w:=by
 rcases six hk with rfl|rfl|rfl|rfl|rfl|rfl
 · exact Tryz.seatAt0 _ _ _ _ _ _ _ _ _ _ _ _ _ _ _ _ _ _ _ _ _ _ _ _ w
 · exact Tryz.seatAt1 _ _ _ _ _ _ _ _ _ _ _ _ _ _ _ _ _ _ _ _ _ _ _ _ w
 · exact Tryz.seatAt2 _ _ _ _ _ _ _ _ _ _ _ _ _ _ _ _ _ _ _ _ _ _ _ _ w
 · exact Tryz.seatAt3 _ _ _ _ _ _ _ _ _ _ _ _ _ _ _ _ _ _ _ _ _ _ _ _ w
 · exact Tryz.seatAt4 _ _ _ _ _ _ _ _ _ _ _ _ _ _ _ _ _ _ _ _ _ _ _ _ w
 · exact Tryz.seatAt5 _ _ _ _ _ _ _ _ _ _ _ _ _ _ _ _ _ _ _ _ _ _ _ _ w
theorem Tryz.sizeSeats :(Tryz.prog.info? 122).map (·.size)=some 24:=by kernel_rfl
theorem Dev.seats {w:World}{b:Nat}{D:Ze}(h:Dev w b D):w.rangeAt b 3 (Zcz D.seats).toList:=by
 intro j v hj;rw[h.blk.cell,←Array.getElem?_toList];have e:D.cells.toList=[.int .i64 D.clock,D.vc,.int .i64 (D.begun:Int)]++((Zcz D.seats).toList++[D.vq,D.vn]):=rfl;rw[e,List.getElem?_append_right (by simp),List.getElem?_append_left (by have:=(List.getElem?_eq_some_iff.mp hj).1;simpa using this)];simpa using hj
def Zi7 (w:World)(s:Nat→Yb)(e:Ending)(w':World):Prop:=
 Za (fun _=>False) w w'∧((∃j,j<6∧(s j).reads=false∧e=.returned (.tuple #[.int .i64 (j:Int),.bool true]))∨((∀i,i<6→(s i).reads=true)∧e=.returned (.tuple #[.int .i64 0,.bool false])))
theorem dfree (w:World)(b:Nat)(D:Ze)(h:Dev w b D):
 Calls Tryz.prog 132 #[.pointer (some ⟨b,2,none⟩)] w fun e w'=>Zi7 w D.seats e w':=by
 obtain⟨cs,hcs⟩:∃cs,cs=(Zcz D.seats).toList:=⟨_,rfl⟩;have hr:w.rangeAt b 3 cs:=by rw[hcs];exact h.seats
 have HLEN:Hid ((Tryz.prog.info? 122).map (·.size)=some cs.length):=by rw[hcs];exact Tryz.sizeSeats
 generalize hs:D.seats=s at*
 have HIX:Hid (∀(k:Nat)(hk:k<6)(w:World),(Instr.index 122 (.agg cs.toArray) (.int .i64 (k:Int))).run Tryz.prog w=.ok (.agg #[.bool (s k).reads,.int .i64 (s k).num,.int .u64 ((s k).lo:Int),.int .u64 ((s k).hi:Int)]) w):=by rw[hcs];exact ZgP s
 clear h hcs hs;go_enter Tryz.func132,Tryz.ntmps132
 go_wp2_with (refine wpList_load_mid rfl 122 _ rfl b 3 rfl cs _ hr Tryz.underlying122 rfl HLEN.out ?_)
 go_loopw [10] (fun i wr=>∃k:Nat,k≤6∧i=.int .i64 k∧Hid (∀i,i<k→(s i).reads=true)∧Hid (Za (fun _=>False) w wr)) (fun i _=>6-(intOf i).toNat)
 case atStart=>exact⟨0,by omega,rfl,fun i hi=>absurd hi (Nat.not_lt_zero _),Za.refl _ _⟩
 case round=>
  obtain⟨k,hk,rfl,HA,HK⟩:=hrel;by_cases hlt:k<6
  · have ix:=HIX.out k hlt;generalize hsk:s k=sk at ix;have HSK:=hid hsk;clear hsk;obtain⟨rd,nm,lo,hi⟩:=sk;simp only at ix;cases rd with
    |false=>
     go_wp2;go_ret2;exact⟨HK.out.allocNew _,.inl ⟨k,hlt,by rw[HSK.out],rfl⟩⟩
    |true=>
     go_wp2
     go_roundw
     case rel=>exact⟨k+1,by omega,by go_num,fun i hi=>(Nat.lt_succ_iff_lt_or_eq.mp hi).elim (HA.out i) (fun e=>by rw[e,HSK.out]),HK.out.allocNew _⟩
     case measure=>simp[intOf];omega
  · have hk':k=6:=by omega
    subst hk';go_wp2;go_ret2;exact⟨HK.out,.inr ⟨HA.out,rfl⟩⟩
def Zjk (w:World)(s:Nat→Yb)(m:Int)(e:Ending)(w':World):Prop:=
 Za (fun _=>False) w w'∧((∃j,j<6∧(s j).reads=true∧(s j).num=m∧e=.returned (.tuple #[.int .i64 (j:Int),.bool true]))∨((∀i,i<6→(s i).reads=true→(s i).num≠m)∧e=.returned (.tuple #[.int .i64 0,.bool false])))
theorem Zej (w:World)(b:Nat)(D:Ze)(m:Int)(h:Dev w b D):
 Calls Tryz.prog 133 #[.pointer (some ⟨b,2,none⟩),.int .i64 m] w fun e w'=>Zjk w D.seats m e w':=by
 obtain⟨cs,hcs⟩:∃cs,cs=(Zcz D.seats).toList:=⟨_,rfl⟩;have hr:w.rangeAt b 3 cs:=by rw[hcs];exact h.seats
 have HLEN:Hid ((Tryz.prog.info? 122).map (·.size)=some cs.length):=by rw[hcs];exact Tryz.sizeSeats
 generalize hs:D.seats=s at*
 have HIX:Hid (∀(k:Nat)(hk:k<6)(w:World),(Instr.index 122 (.agg cs.toArray) (.int .i64 (k:Int))).run Tryz.prog w=.ok (.agg #[.bool (s k).reads,.int .i64 (s k).num,.int .u64 ((s k).lo:Int),.int .u64 ((s k).hi:Int)]) w):=by rw[hcs];exact ZgP s
 clear h hcs hs;go_enter Tryz.func133,Tryz.ntmps133
 go_wp2_with (refine wpList_load_mid rfl 122 _ rfl b 3 rfl cs _ hr Tryz.underlying122 rfl HLEN.out ?_)
 go_loopw [12] (fun i wr=>∃k:Nat,k≤6∧i=.int .i64 k∧Hid (∀i,i<k→(s i).reads=true→(s i).num≠m)∧Hid (Za (fun _=>False) w wr)) (fun i _=>6-(intOf i).toNat)
 case atStart=>exact⟨0,by omega,rfl,fun i hi=>absurd hi (Nat.not_lt_zero _),Za.refl _ _⟩
 case round=>
  obtain⟨k,hk,rfl,HA,HK⟩:=hrel;by_cases hlt:k<6
  · have ix:=HIX.out k hlt;generalize hsk:s k=sk at ix;have HSK:=hid hsk;clear hsk;obtain⟨rd,nm,lo,hi⟩:=sk;simp only at ix;cases rd with
    |false=>
     go_wp2
     go_roundw
     case rel=>exact⟨k+1,by omega,by go_num,fun i hi=>(Nat.lt_succ_iff_lt_or_eq.mp hi).elim (HA.out i) (fun e=>by rw[e,HSK.out];intro h;cases h),HK.out.allocNew _⟩
     case measure=>simp[intOf];omega
    |true=>
     by_cases hm:nm=m
     · have hb:(nm==m)=true:=beq_iff_eq.mpr hm;have HM:=hid hm;clear hm;go_wp2;go_ret2;exact⟨HK.out.allocNew _,.inl ⟨k,hlt,by rw[HSK.out],by rw[HSK.out];exact HM.out,rfl⟩⟩
     · have hb:(nm==m)=false:=beq_eq_false_iff_ne.mpr hm;have HM:=hid hm;clear hm;go_wp2
       go_roundw
       case rel=>exact⟨k+1,by omega,by go_num,fun i hi=>(Nat.lt_succ_iff_lt_or_eq.mp hi).elim (HA.out i) (fun e=>by rw[e,HSK.out];intro _;exact HM.out),HK.out.allocNew _⟩
       case measure=>simp[intOf];omega
  · have hk':k=6:=by omega
    subst hk';go_wp2;go_ret2;exact⟨HK.out,.inr ⟨HA.out,rfl⟩⟩
end Go.Proofs.YtpfcacedpkaihaaGreat
