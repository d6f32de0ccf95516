import Derived.Laws.AppendOwnNone
import Derived.Test.YtpfcacedpkaihaaGreatC24
namespace Go.Proofs.YtpfcacedpkaihaaGreat
open Go.RowKit
set_option maxRecDepth 100000
set_option maxHeartbeats 16000000
theorem ZhA (w:World)(T size:Nat):Row (w.alloc (.cells #[] T)) T size (.slice (some ⟨w.heap.size,0,none⟩) 0 0) 0 []:=
 ⟨by simp,.inr ⟨w.heap.size,0,#[],rfl,Nat.zero_le _,Blk.new w T #[],Nat.le_refl _,Nat.zero_le _,by simp,by simp⟩⟩
def VC (w:World)(l:List Zh)(e:Ending)(w':World):Prop:=
 ∃v,e=.returned v∧Row w' 55 6 v l.length (l.flatMap Zk)∧Za (fun _=>False) w w'∧∀k,v.ownBlock=some k→w.heap.size≤k
theorem ZhZ {w w1 w':World}{l:List Zh}{v':Value}{o:Obj}(h1:w1=w.alloc o)(hA:Zc w1 w' 55 6 (.slice (some ⟨w.heap.size,0,none⟩) 0 0) v' 0 l.length [] (l.flatMap Zk)):VC w l (.returned v') w':=by
 subst h1;refine⟨v',rfl,by have:=hA.row;rwa [Nat.zero_add,List.nil_append]at this,(Za.alloc w o (fun _=>False)).trans hA.kept (fun _=>id) (fun k hk he=> ?_),fun k hk=> ?_⟩
 · simp[Value.ownBlock]at he;omega
 · rcases hA.own with e|e
   · rw[e]at hk;simp[Value.ownBlock]at hk;omega
   · have:=e k hk;simp at this;omega
theorem dlist (w:World)(b:Nat)(D:Ze)(h:Dev w b D)(hf:D.Fit):
 Calls Tryz.prog 98 #[.pointer (some ⟨b,27,none⟩)] w fun e w'=>VC w D.puts e w':=by
 have hqm:=hf.qmax;have hbl:=h.blk.lt;obtain⟨i0,hi,hz0,hz1,hz2⟩:=info_parts Tryz.infoEntry;have HI:Hid (Tryz.prog.info? 55=some i0∧i0.zero=some (.agg #[.string ByteArray.empty,.int .i32 0,.int .u64 0,.int .u64 0,.bool false,.int .u64 0])∧i0.size=6∧i0.bytes=56):=⟨hi,hz0,hz1,hz2⟩;clear hi hz0 hz1 hz2;have HRE:Hid (Row (w.alloc (.cells #[] 55)) 55 6 (.slice (some ⟨w.heap.size,0,none⟩) 0 0) 0 []):=ZhA w _ 6;rcases h.puts.shape with⟨hv,hn,_⟩|⟨g,cap,cur,hv,hb,hc,hcm,hs,htk⟩
 · have c27:=h.c27;rw[hv]at c27;have HE:Hid (D.puts=[]):=List.eq_nil_of_length_eq_zero hn;clear h hf hv hn;go_enter Tryz.func98,Tryz.ntmps98
   go_wp2_with (at_builtin;refine wpList_append_own_none rfl (.tmp 3) (.tmp 7) 51 rfl 0 55 i0 6 Tryz.underlying51 HI.out.1 (.slice (some ⟨w.heap.size,0,none⟩) 0 0) 0 [] rfl HRE.out rfl ?_)
   go_ret;rw[HE.out];exact⟨_,rfl,HRE.out,Za.alloc _ _ _,fun k hk=>by simp[Value.ownBlock]at hk;omega⟩
 · have c27:=h.c27;rw[hv]at c27;have HNEWS:Hid (∀j u,(D.puts.flatMap Zk)[j]?=some u→(w.alloc (.cells #[] 55)).cell? ((⟨g,0,none⟩:Addr).add j)=some u):=by
    intro j u hj;have e:(⟨g,0,none⟩:Addr).add j=⟨g,j,none⟩:=by cases j<;>simp[Addr.add]
    rw[e];exact(World.cell?_alloc_past _ g j hb.lt).trans (h.puts.cell (by rw[hv];rfl) j u hj)
   have HLC:Hid ((D.puts.flatMap Zk).length=D.puts.length*6):=YJ Zk 6 (fun _=>rfl) D.puts;have b1:0+D.puts.length≤maxLen:=by unfold maxLen;omega
   have b2:(0+D.puts.length)*56≤140737488355328:=by omega
   clear h hf hv hb hs htk;go_enter Tryz.func98,Tryz.ntmps98
   go_wp2_with (at_builtin;go_must (refine Zf _ rfl (.tmp 3) (.tmp 7) 51 rfl 55 i0 (.agg #[.string ByteArray.empty,.int .i32 0,.int .u64 0,.int .u64 0,.bool false,.int .u64 0]) 6 56 Tryz.underlying51 HI.out.1 HI.out.2.1 HI.out.2.2.1 HI.out.2.2.2 rfl (by decide) (.slice (some ⟨w.heap.size,0,none⟩) 0 0) 0 [] rfl HRE.out ⟨g,0,none⟩ D.puts.length cap (D.puts.flatMap Zk) rfl HLC.out HNEWS.out (Y9 D.puts) b1 b2 ?_);intro v' w1 hA;have HA:Hid (VC w D.puts (.returned v') w1):=ZhZ rfl hA;clear hA)
   go_ret;exact HA.out
theorem dputs (w:World)(b:Nat)(D:Ze)(h:Dev w b D)(hf:D.Fit):
 Calls Tryz.prog 40 #[.pointer (some ⟨b,0,none⟩)] w fun e w'=>VC w D.puts e w':=by
 have H0:Hid (Calls Tryz.prog 98 #[.pointer (some ⟨b,27,none⟩)] w fun e w'=>∃ao cap,e=.returned (.slice ao D.puts.length cap)∧Hid (VC w D.puts (.returned (.slice ao D.puts.length cap)) w')):=(dlist w b D h hf).mono fun e w' hp=>by
  obtain⟨v,e1,r1,r2,r3⟩:=hp;obtain⟨ao,cap,hv,_⟩:=r1.form;subst e1 hv;exact⟨ao,cap,rfl,_,rfl,r1,r2,r3⟩
 clear h hf;go_enter Tryz.func40,Tryz.ntmps40
 go_wp2_with (go_at_call 98;refine H0.out.mono ?_;rintro e w1 ⟨ao,cap,rfl,hr⟩)
 go_ret;exact hr.out
end Go.Proofs.YtpfcacedpkaihaaGreat
