import Derived.Deep.RegionWith
import Derived.Deep.DeepCutAuto
import Derived.Test.YtpfcacedpkaihaaGreatC4
namespace Go.Proofs.YtpfcacedpkaihaaGreat
open Go.RowKit
set_option maxRecDepth 100000
set_option maxHeartbeats 16000000
def Z5 (ts:List (Nat×Nat)):Int:=ts.foldl (fun K t=>bits .or .u8 K (bitN t.2)) 0
theorem ZbS (ts:List (Nat×Nat))(j:Nat)(h:j<ts.length):Z5 (ts.take (j+1))=bits .or .u8 (Z5 (ts.take j)) (bitN ts[j].2):=by
 rw[Z5,List.take_succ_eq_append_getElem h,List.foldl_append];rfl
theorem Zb5 (s:ByteArray)(w:World)(er:Int)(hs:s.size≤maxLen)(hr:Q.readL s.data.toList=(er,[])):
 Calls Tryz.prog 71 #[.string s] w fun e w'=>e=.returned (.tuple #[.agg #[.int .u8 0,.int .i64 0],.int .i64 er])∧Below w.heap.size w w':=by
 have HR:=hid hr;clear hr;go_enter Tryz.func71,Tryz.ntmps71
 go_wp2_with (go_at_call 124;refine(ZiZ s _ er hs HR.out).mono ?_;rintro e w1 ⟨rfl,he,hb⟩;have hc0:=hb.cell (p:=⟨w.heap.size,0,none⟩) (by simp);have hc1:=hb.cell (p:=⟨w.heap.size,1,none⟩) (by simp);have hf0:=hb.frozen (p:=⟨w.heap.size,0,none⟩) (by simp);have hf1:=hb.frozen (p:=⟨w.heap.size,1,none⟩) (by simp);simp[go_sem]at hc0 hc1 hf0 hf1)
 refine bodyPost_ret (v:=.tuple #[.agg #[.int .u8 0,.int .i64 0],.int .i64 er]) (by simp[results,Tryz.results71,go_sem,hc0,hc1]) rfl ⟨rfl,?_⟩;exact(((((Below.refl _ _).alloc (Nat.le_refl _) _).trans (hb.mono (by simp))).setCell (Nat.le_refl _) _).setCell (Nat.le_refl _) _)
structure Shp (w1 wr:World)(K n:Int):Prop where
 keys:wr.cell? ⟨w1.heap.size,0,none⟩=some (.int .u8 K)
 terms:wr.cell? ⟨w1.heap.size,1,none⟩=some (.int .i64 n)
 free:wr.frozen? ⟨w1.heap.size,0,none⟩=false
 below:Below w1.heap.size w1 wr
 size:w1.heap.size<wr.heap.size
theorem Shp.step {w1 wr:World}{K n:Int}(h:Shp w1 wr K n)(K':Int)(o:Obj):Shp w1 ((wr.setCell ⟨w1.heap.size,0,none⟩ (.int .u8 K')).alloc o).drew K' n:=by
 have hz:=h.size;have hs:(wr.setCell ⟨w1.heap.size,0,none⟩ (.int .u8 K')).heap.size=wr.heap.size:=by simp
 refine⟨?_,?_,?_,?_,?_⟩
 · show((wr.setCell ⟨w1.heap.size,0,none⟩ (.int .u8 K')).alloc o).cell? _=_;rw[World.cell?_alloc_past _ _ _ (by omega)];exact World.cell?_setCell_same _ _ _ h.keys
 · show((wr.setCell ⟨w1.heap.size,0,none⟩ (.int .u8 K')).alloc o).cell? _=_;rw[World.cell?_alloc_past _ _ _ (by omega),World.cell?_setCell_other _ _ _ _ (by simp)];exact h.terms
 · show((wr.setCell ⟨w1.heap.size,0,none⟩ (.int .u8 K')).alloc o).frozen? _=_;rw[World.frozen?_alloc_past _ _ _ (by omega),World.frozen?_setCell];exact h.free
 · exact(((h.below.setCell (Nat.le_refl _) _).alloc (by omega) o).drew)
 · show _<((wr.setCell ⟨w1.heap.size,0,none⟩ (.int .u8 K')).alloc o).heap.size;simp;omega
theorem Uk (s:ByteArray)(w:World)(ts:List (Nat×Nat))(hr:Q.readL s.data.toList=(0,ts)):
 Calls Tryz.prog 71 #[.string s] w fun e w'=>e=.returned (.tuple #[.agg #[.int .u8 (Z5 ts),.int .i64 (ts.length:Int)],.int .i64 0])∧Below w.heap.size w w':=by
 have HR:=hid hr;obtain⟨hne,h8,hks⟩:ts≠[]∧ts.length≤8∧∀t∈ts,t.1≤3∧t.2≤7:=by
  rcases Q.readL_cases s.data.toList with h|h|⟨us,h,r⟩
  · rw[h]at hr;simp at hr
  · rw[h]at hr;simp at hr
  · rw[h]at hr;simp at hr;subst hr;exact r
 have HKS:=hid hks;clear hr hne hks;go_enter Tryz.func71,Tryz.ntmps71
 go_wp2_with (go_at_call 124;refine(ZcR s _ ts HR.out).mono ?_;rintro e w1 ⟨g,cap,rfl,hg,hl,hb⟩)
 have hsz:w.heap.size<w1.heap.size:=by have:=hb.size;simp at this;omega
 have hb1:Below w.heap.size w w1:=(((Below.refl _ _).alloc (Nat.le_refl _) _).trans (hb.mono (by simp)));have HC:Hid (w1.cell? ⟨w.heap.size,0,none⟩=some (.int .u8 0)∧w1.cell? ⟨w.heap.size,1,none⟩=some (.int .i64 0)∧w1.frozen? ⟨w.heap.size,0,none⟩=false∧w1.frozen? ⟨w.heap.size,1,none⟩=false):=by
  have hc0:=hb.cell (p:=⟨w.heap.size,0,none⟩) (by simp);have hc1:=hb.cell (p:=⟨w.heap.size,1,none⟩) (by simp);have hf0:=hb.frozen (p:=⟨w.heap.size,0,none⟩) (by simp);have hf1:=hb.frozen (p:=⟨w.heap.size,1,none⟩) (by simp);simp[go_sem]at hc0 hc1 hf0 hf1;exact⟨hc0,hc1,hf0,hf1⟩
 clear hb
 go_loopw [23] (fun i wr=>∃k:Nat,k≤ts.length∧i=.int .i64 k∧Shp w1 wr (Z5 (ts.take k)) ts.length) (fun i _=>ts.length-(intOf i).toNat)
 case atStart=>exact⟨0,Nat.zero_le _,rfl,by simp[Z5,go_sem],by simp[go_sem],by simp[go_sem],(Below.refl _ _).alloc (Nat.le_refl _) _,by simp⟩
 case round=>
  obtain⟨k,hk,rfl,hsh⟩:=hrel;by_cases hlt:k<ts.length
  · have hl2:=hl.below hsh.below;have hsg:=hl2.sign k hlt;have hky:=hl2.key k hlt;obtain⟨hm3,hm7⟩:=HKS.out ts[k] (List.getElem_mem hlt);have HE:Hid (Z5 (ts.take (k+1))=bits .or .u8 (Z5 (ts.take k)) (bitN ts[k].2)):=ZbS ts k hlt;have hz:w1.heap.size<wr.heap.size:=hsh.size;have hgz:g<wr.heap.size:=hl2.lt;have hkeys:=hsh.keys;have hfree:=hsh.free;go_wp2
    go_region_with (go_at_call 125;refine(Zj4 _ _ hm7).mono ?_;rintro e w' ⟨rfl,rfl⟩)
    all_goals
     have hst:=hsh.step (bits .or .u8 (Z5 (ts.take k)) (bitN ts[k].2)) (Obj.cells #[.int .i64 (ts[k].1:Int),.int .i64 (ts[k].2:Int)] 204);clear hsg hky hkeys hfree hl2 hsh;go_wp2
     go_roundw
     case rel=>first|exact⟨k+1,by omega,by go_num,by rw[HE.out];exact hst⟩|((repeat apply Exists.intro);exact⟨⟨k+1,by omega,by go_num,by rw[HE.out];exact hst⟩,rfl⟩)
     case measure=>simp[intOf];omega
  · have hz:k=ts.length:=by omega
    subst hz;have hkeys:=hsh.keys;have hterms:=hsh.terms;have hfree:=hsh.free;have hsize:=hsh.size;rw[List.take_length]at hkeys;have hc0:=(hsh.below.cell (p:=⟨w.heap.size,0,none⟩) hsz).trans HC.out.1;have hc1:=(hsh.below.cell (p:=⟨w.heap.size,1,none⟩) hsz).trans HC.out.2.1;have hf0:=(hsh.below.frozen (p:=⟨w.heap.size,0,none⟩) hsz).trans HC.out.2.2.1;have hf1:=(hsh.below.frozen (p:=⟨w.heap.size,1,none⟩) hsz).trans HC.out.2.2.2;have hbl:=hb1.trans (hsh.below.mono (Nat.le_of_lt hsz));clear hsh;go_wp2;refine bodyPost_ret (v:=.tuple #[.agg #[.int .u8 (Z5 ts),.int .i64 (ts.length:Int)],.int .i64 0]) (by simp[results,Tryz.results71,go_sem,hc0,hc1]) rfl ⟨rfl,?_⟩;exact(hbl.setCell (Nat.le_refl _) _).setCell (Nat.le_refl _) _
theorem ZaE (s:ByteArray)(w:World)(hs:s.size≤maxLen):
 Calls Tryz.prog 71 #[.string s] w fun e w'=>
  e=.returned (.tuple #[.agg #[.int .u8 (Z5 (Q.readL s.data.toList).2),.int .i64 ((Q.readL s.data.toList).2.length:Int)],.int .i64 (Q.readL s.data.toList).1])∧Below w.heap.size w w':=by
 rcases Q.readL_cases s.data.toList with h|h|⟨us,h,r⟩
 · rw[h];exact Zb5 s w 3 hs h
 · rw[h];exact Zb5 s w 4 hs h
 · rw[h];exact Uk s w us h
theorem ZfU (s:ByteArray)(w:World)(hs:s.size≤maxLen):
 Calls Tryz.prog 25 #[.string s] w fun e w'=>
  e=.returned (.tuple #[.agg #[.int .u8 (Z5 (Q.readL s.data.toList).2),.int .i64 ((Q.readL s.data.toList).2.length:Int)],.int .i64 (Q.readL s.data.toList).1])∧Below w.heap.size w w':=by
 have hq:=fun W=>ZaE s W hs;obtain⟨K,T,E,hK⟩:∃K T E:Int,K=Z5 (Q.readL s.data.toList).2∧T=((Q.readL s.data.toList).2.length:Int)∧E=(Q.readL s.data.toList).1:=⟨_,_,_,rfl,rfl,rfl⟩;rw[←hK.1,←hK.2.1,←hK.2.2]at hq⊢;have HQ:=hid hq;clear hq hK;go_enter Tryz.func25,Tryz.ntmps25
 go_wp2_with (go_at_call 71;refine(HQ.out _).mono ?_;rintro e w1 ⟨rfl,hb⟩;have hc0:=hb.cell (p:=⟨w.heap.size,0,none⟩) (by simp);have hc1:=hb.cell (p:=⟨w.heap.size,1,none⟩) (by simp);have hf0:=hb.frozen (p:=⟨w.heap.size,0,none⟩) (by simp);have hf1:=hb.frozen (p:=⟨w.heap.size,1,none⟩) (by simp);simp[go_sem]at hc0 hc1 hf0 hf1)
 refine bodyPost_ret (v:=.tuple #[.agg #[.int .u8 K,.int .i64 T],.int .i64 E]) (by simp[results,Tryz.results25,go_sem,hc0,hc1]) rfl ⟨rfl,?_⟩;exact(((((Below.refl _ _).alloc (Nat.le_refl _) _).trans (hb.mono (by simp))).setCell (Nat.le_refl _) _).setCell (Nat.le_refl _) _)
end Go.Proofs.YtpfcacedpkaihaaGreat
