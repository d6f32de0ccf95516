import Derived.Deep.MidRow
import Derived.Test.YtpfcacedpkaihaaGreatC5
import Derived.Test.YtpfcacedpkaihaaGreatC15
namespace Go.Proofs.YtpfcacedpkaihaaGreat
open Go.RowKit
set_option maxRecDepth 100000
set_option maxHeartbeats 16000000
section
variable {w:World} {a:Act} {K:Act→World→Prop} {Q:Exit→Act→World→Prop} {af:Array Edge} {ps:String}
theorem Vm {d s:Nat}{T:TypeId}(h:K (a.put (some d) (a.tmps.getD s undef)) w):Oper.wp Tryz.prog {dst:=some d,op:=.move (.tmp s),type:=T,pos:=ps,after:=af,guard:=none} a w K Q:=by
 unfold Oper.wp;simp only[execOp];exact h
theorem Zda {d s:Nat}{T:TypeId}(h:K (a.put (some d) (a.tmps.getD s undef)) w):Oper.wp Tryz.prog {dst:=some d,op:=Op.assign (.tmp s),type:=T,pos:=ps,after:=af,guard:=none} a w K Q:=by
 unfold Oper.wp;simp only[execOp];exact h
theorem Zad {d s zb:Nat}{z0 z1 z2 z3 z4 z5:Value}(hs:a.tmps.getD s undef=.pointer (some ⟨zb,0,none⟩))(hb:Blk w zb 55 #[z0,z1,z2,z3,z4,z5])(h:K (a.put (some d) (.agg #[z0,z1,z2,z3,z4,z5])) w):
 Oper.wp Tryz.prog {dst:=some d,op:=.load 55 (.tmp s),type:=55,pos:=ps,after:=af,guard:=none} a w K Q:=by
 refine wp_load_mid 55 (.tmp s) rfl zb 0 hs [z0,z1,z2,z3,z4,z5] _ (fun j v hv=> ?_) Tryz.underlying55 rfl (by kernel_rfl) h;rw[hb.cell,Nat.zero_add];simpa using hv
theorem op_bs1 {z0 z1 z2 z3 z4 z5:Value}(h16:a.tmps[16]?.getD undef=.agg #[z0,z1,z2,z3,z4,z5])(h:K (a.put (some 17) (.slice (some ⟨w.heap.size,0,none⟩) 1 1)) (w.alloc (.cells #[z0,z1,z2,z3,z4,z5] 55))):
 Oper.wp Tryz.prog {dst:=some 17,op:=Op.buildSlice 51 1 #[(0,.tmp 16)],type:=51,pos:=ps,after:=af,guard:=none} a w K Q:=by
 unfold Oper.wp;simp[execOp,Act.eval,h16,go_sem];exact h
theorem op_bs2 {z0 z1 z2 z3 z4 z5:Value}(h20:a.tmps[20]?.getD undef=.agg #[z0,z1,z2,z3,z4,z5])(h21:a.tmps[21]?.getD undef=.agg #[z0,z1,z2,z3,z4,z5])(h:K (a.put (some 22) (.slice (some ⟨w.heap.size,0,none⟩) 2 2)) (w.alloc (.cells #[z0,z1,z2,z3,z4,z5,z0,z1,z2,z3,z4,z5] 55))):
 Oper.wp Tryz.prog {dst:=some 22,op:=Op.buildSlice 51 2 #[(0,.tmp 20),(1,.tmp 21)],type:=51,pos:=ps,after:=af,guard:=none} a w K Q:=by
 unfold Oper.wp;simp[execOp,Act.eval,h20,h21,go_sem];exact h
theorem op_bs3 {z0 z1 z2 z3 z4 z5:Value}(h25:a.tmps[25]?.getD undef=.agg #[z0,z1,z2,z3,z4,z5])(h26:a.tmps[26]?.getD undef=.agg #[z0,z1,z2,z3,z4,z5])(h27:a.tmps[27]?.getD undef=.agg #[z0,z1,z2,z3,z4,z5])(h:K (a.put (some 28) (.slice (some ⟨w.heap.size,0,none⟩) 3 3)) (w.alloc (.cells #[z0,z1,z2,z3,z4,z5,z0,z1,z2,z3,z4,z5,z0,z1,z2,z3,z4,z5] 55))):
 Oper.wp Tryz.prog {dst:=some 28,op:=Op.buildSlice 51 3 #[(0,.tmp 25),(1,.tmp 26),(2,.tmp 27)],type:=51,pos:=ps,after:=af,guard:=none} a w K Q:=by
 unfold Oper.wp;simp[execOp,Act.eval,h25,h26,h27,go_sem];exact h
theorem op_bs4 {o0 o1 o2 o3:Option Addr}{n0 n1 n2 n3 c0 c1 c2 c3:Nat}(h14:a.tmps[14]?.getD undef=.slice o0 n0 c0)(h18:a.tmps[18]?.getD undef=.slice o1 n1 c1)(h23:a.tmps[23]?.getD undef=.slice o2 n2 c2)(h29:a.tmps[29]?.getD undef=.slice o3 n3 c3)
 (h:K (a.put (some 30) (.slice (some ⟨w.heap.size,0,none⟩) 4 4)) (w.alloc (.cells #[.slice o0 n0 c0,.slice o1 n1 c1,.slice o2 n2 c2,.slice o3 n3 c3] 51))):
 Oper.wp Tryz.prog {dst:=some 30,op:=Op.buildSlice 49 4 #[(0,.tmp 14),(1,.tmp 18),(2,.tmp 23),(3,.tmp 29)],type:=49,pos:=ps,after:=af,guard:=none} a w K Q:=by
 unfold Oper.wp;simp[execOp,Act.eval,h14,h18,h23,h29,go_sem];exact h
def Lies' (w:World)(v:Value)(n m:Nat)(v':Value)(w':World):Prop:=
 (∃g cap,v=.slice (some ⟨g,0,none⟩) n cap∧n+m≤cap∧v'=.slice (some ⟨g,0,none⟩) (n+m) cap∧Za (fun k=>k=g) w w')∨
 (∃g cap c,v'=.slice (some ⟨g,0,none⟩) (n+m) cap∧w.heap.size≤g∧Blk w' g 55 c∧(n+m)*6≤c.size∧Za (fun _=>False) w w')
theorem Zbg {d s x m gb n:Nat}{T:TypeId}{v:Value}{xs news:List Value}(hm0:0<m)(hs:a.tmps.getD s undef=v)(hx:a.tmps.getD x undef=.slice (some ⟨gb,0,none⟩) m m)(hv:Row w 55 6 v n xs)(hb:Blk w gb 55 news.toArray)(hl:news.length=m*6)(h1:∀u∈news,u.oneCell'=true)(hn:n≤1000000)(hm:m≤3)
 (h:∀v' w',Lies' w v n m v' w'→Row w' 55 6 v n xs→K (a.put (some d) v') w'):
 Oper.wp Tryz.prog {dst:=some d,op:=Op.call {callee:=Callee.builtin Builtin.append,args:=#[.tmp s,.tmp x],argTypes:=#[51,51]},type:=T,pos:=ps,after:=af,guard:=none} a w K Q:=by
 obtain⟨i0,hi,hz0,hz1,hz2⟩:=info_parts Tryz.infoEntry;have hnews:∀j u,news[j]?=some u→w.cell? ((⟨gb,0,none⟩:Addr).add j)=some u:=by
  intro j u hj;have e:(⟨gb,0,none⟩:Addr).add j=⟨gb,j,none⟩:=by cases j<;>simp[Addr.add]
  rw[e,hb.cell];simpa using hj
 refine Vd w (.tmp s) (.tmp x) 51 rfl 55 i0 _ 6 56 Tryz.underlying51 hi hz0 hz1 hz2 rfl (by decide) v n xs hs hv ⟨gb,0,none⟩ m m hm0 news hx hl hnews h1 (by unfold maxLen;omega) (by omega) fun v' w' hp=> ?_;rcases hp with⟨g,cap,e1,e2,e3,hR,hk⟩|⟨g,cap,e1,hg,hR,hk⟩
 · exact h v' w' (.inl ⟨g,cap,e1,e2,e3,hk⟩) hR
 · rcases hR.shape with⟨_,hn0,_⟩|⟨g2,cap2,cur2,hv2,hb2,hc2,_,hs2,_⟩
   · omega
   · rw[e1]at hv2;injection hv2 with q1 _ q2;injection q1 with q1;injection q1 with q1 _ _;subst q1 q2;exact h v' w' (.inr ⟨g,cap,cur2,e1,hg,hb2,by rw[hs2];exact Nat.mul_le_mul_right _ hc2,hk⟩) (hv.kept hk (fun _ _=>id))
end
end Go.Proofs.YtpfcacedpkaihaaGreat
