import Derived.Deep.RegionWith
import Derived.Test.YtpfcacedpkaihaaGreatC11
namespace Go.Proofs.YtpfcacedpkaihaaGreat
open Go.RowKit
set_option maxRecDepth 100000
set_option maxHeartbeats 16000000
theorem ZdM (w:World)(b:Nat)(ao:Option Addr)(n cap:Nat)(hn:8<n)(hm:n≤maxLen):
 Calls Tryz.prog 29 #[.pointer (some ⟨b,0,none⟩),.slice ao n cap] w fun e w'=>e=.returned (.tuple #[.int .u64 0,.int .i64 3])∧w=w':=by
 unfold maxLen at hm;go_enter Tryz.func29,Tryz.ntmps29;go_wp2;go_ret2;exact⟨rfl,rfl⟩
def Zj9 (w:World)(e:Ending)(w':World):Prop:=e=.returned (.tuple #[.int .u64 0,.int .i64 5])∧w=w'
theorem Zfj (w:World)(b:Nat)(ao:Option Addr)(n cap:Nat)(ws:List (Int×Int))(hw:Wr w ao n ws)(hn:n≤8)(hk:ws.all Yl=false):
 Calls Tryz.prog 29 #[.pointer (some ⟨b,0,none⟩),.slice ao n cap] w fun e w'=>Zj9 w e w':=by
 have HW:=hid hw;have HB:=hid hk;have hl:=hw.len;clear hw hk;go_enter Tryz.func29,Tryz.ntmps29;go_wp2
 go_loop [6] (fun i=>∃k:Nat,k≤n∧i=.int .i64 k∧Hid (∀j (h:j<ws.length),j<k→Yl ws[j]=true)) (fun i=>n-(intOf i).toNat)
 case atStart=>exact⟨0,Nat.zero_le _,rfl,fun j _ hj=>absurd hj (Nat.not_lt_zero _)⟩
 case round=>
  obtain⟨k,hkn,rfl,HP⟩:=hrel;by_cases hlt:k<n
  · have hlt':k<ws.length:=by omega
    obtain⟨bl,off,hao,c0,_⟩:=HW.out.cell k hlt';obtain⟨x,hx⟩:∃x,x=ws[k].1:=⟨_,rfl⟩;rw[←hx]at c0;have HX:Hid (Yl ws[k]=(decide (0≤x)&&decide (x<8))):=by simp[Hid,Yl,hx]
    have HAO:=hid hao;subst hao;clear hx;by_cases h0:x<0
    · have hd:decide (x<0)=true:=by simpa using h0
      go_wp2;go_ret2;exact⟨rfl,rfl⟩
    · have hd:decide (x<0)=false:=by simpa using h0
      by_cases h8:8≤x
      · go_wp2;go_ret2;exact⟨rfl,rfl⟩
      · go_wp2
        go_round
        case rel=>
         refine⟨k+1,by omega,by go_num,fun j hj hjk=> ?_⟩;by_cases e:j=k
         · subst e;rw[HX.out];simp;omega
         · exact HP.out j hj (by omega)
        case measure=>simp[intOf];omega
  · exfalso;have:ws.all Yl=true:=by
     rw[List.all_eq_true];intro y hy;obtain⟨j,hj,rfl⟩:=List.getElem_of_mem hy;exact HP.out j hj (by omega)
    rw[HB.out]at this;cases this
end Go.Proofs.YtpfcacedpkaihaaGreat
