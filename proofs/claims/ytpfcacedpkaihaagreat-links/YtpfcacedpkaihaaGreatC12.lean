import Derived.Test.YtpfcacedpkaihaaGreatC11
namespace Go.Proofs.YtpfcacedpkaihaaGreat
open Go.RowKit
set_option maxRecDepth 100000
set_option maxHeartbeats 16000000
theorem Ze2 {w w2 w':World}{b k g t:Nat}{R:Zd}{nd:Zi}{v v':Value}{l0:List Nat}(hR:Ref w2 b (R.putN k {nd with fl:=v,fls:=l0}))(hK:Za (R.fp b) w w2)(hfe:V4 nd t=false)(hl:l0=Xv t nd.fls)(h12:l0.length<12)
 (hnd:R.nodes[k]?=some nd) (ho:R.vn.ownBlock=some g) (hnew:∀x,v.ownBlock=some x→w.heap.size≤x)
 (hA:Zc w2 w' 53 1 v v' l0.length 1 (ZL l0) [.int .u64 (t:Int)]):X8 w b R k nd t (.returned (.tuple #[])) (w'.setCell ⟨g,k*7+3,none⟩ v'):=by
 obtain⟨z1,z2,z3⟩:=hR.pushFl (t:=t) (nd:={nd with fl:=v,fls:=l0}) (ZaK (List.getElem?_eq_some_iff.mp hnd).1) ho hA;rw[ZaC]at z1 z3;have e:({nd with fl:=v',fls:=l0++[t]}:Zi)=Xi nd t v':=by simp[Xi,leftN,hfe,←hl,h12]
 have e2:({({nd with fl:=v,fls:=l0}:Zi)with fl:=v',fls:=({nd with fl:=v,fls:=l0}:Zi).fls++[t]}:Zi)=Xi nd t v':=e;rw[e2]at z1 z3;refine⟨rfl,v',z1,hK.trans z2 (fun _=>id) (fun x hx hf=> ?_),fun x hx=> ?_⟩
 · rcases Zjt (y:={nd with fl:=v,fls:=l0}) hnd rfl hf with h|h
   · exact h
   · have:=hnew x h;omega
 · rcases z3 x hx with h|h
   · rcases Zjt (y:={nd with fl:=v,fls:=l0}) hnd rfl h with h|h
     · exact .inl h
     · exact .inr (hnew x h)
   · exact .inr (Nat.le_trans hK.size h)
theorem Ze5 {w w2:World}{b k t:Nat}{R:Zd}{nd:Zi}{v:Value}{l0:List Nat}(hR:Ref w2 b (R.putN k {nd with fl:=v,fls:=l0}))(hK:Za (R.fp b) w w2)(hfe:V4 nd t=false)(hl:l0=Xv t nd.fls)(h12:¬l0.length<12)
 (hnd:R.nodes[k]?=some nd) (hnew:∀x,v.ownBlock=some x→w.heap.size≤x):X8 w b R k nd t (.returned (.tuple #[])) w2:=by
 have e:({nd with fl:=v,fls:=l0}:Zi)=Xi nd t v:=by simp[Xi,leftN,hfe,←hl,h12]
 rw[e]at hR;refine⟨rfl,v,hR,hK,fun x hx=> ?_⟩;rw[←e]at hx;rcases Zjt (y:={nd with fl:=v,fls:=l0}) hnd rfl hx with h|h
 · exact .inl h
 · exact .inr (hnew x h)
theorem app_in {w2 w':World}{b k:Nat}{R:Zd}{nd:Zi}{v':Value}{n:Nat}{xs news:List Value}{o:Obj}(hR:Ref w2 b R)(hnd:R.nodes[k]?=some nd)(hA:Zc ((w2.alloc o).drew) w' 53 1 nd.fl v' n 1 xs news):
 w'.cell? ⟨b,3,none⟩=some R.vn∧(∀g,R.vn.ownBlock=some g→w'.cell? ⟨g,k*7+3,none⟩=some nd.fl∧w'.frozen? ⟨g,k*7+3,none⟩=false)∧Zc w2 w' 53 1 nd.fl v' n 1 xs news:=by
 obtain⟨hk,hnd'⟩:=List.getElem?_eq_some_iff.mp hnd;have rf:=hR.fls nd (List.mem_of_getElem? hnd);have hkp:Za (fun x=>nd.fl.ownBlock=some x) w2 w':=(((Za.alloc w2 o (fun _=>False)).drew).trans hA.kept (fun _=>False.elim) (fun _ _=>id));have blk:=hR.blk.kept hkp fun he=>rf.ne_block hR.blk (by decide) he;have row:=hR.nodes.kept hkp fun j hj he=>rf.ne_row hR.nodes (by decide) j he hj;refine⟨blk.cell 3,fun g hg=>⟨row.cell hg (k*7+3) _ (by rw[Zy R.nodes k hk 3 (by omega),hnd'];rfl),row.free hg _⟩,hA.row,hkp,?_⟩;rcases hA.own with e|e
 · exact .inl e
 · refine .inr fun x hx=> ?_;have h1:=e x hx;have h2:w2.heap.size+1≤x:=by simpa using h1
   omega
theorem ZjG (w:World)(b:Nat)(R:Zd)(k t:Nat)(nd:Zi)(h:Ref w b R)(hf:R.Fit)(hnd:R.nodes[k]?=some nd)(_ht:t≤700)(hfe:V4 nd t=false):
 Calls Tryz.prog 78 #[.pointer (some ⟨b,0,none⟩),.int .i64 k,.int .u64 t] w fun e w'=>X8 w b R k nd t e w':=by
 obtain⟨hk,hnd'⟩:=List.getElem?_eq_some_iff.mp hnd;have hmem:nd∈R.nodes:=List.mem_of_getElem? hnd;have hm:=hf.nmax;obtain⟨hfm,hhz,hft⟩:=hf.fmax nd hmem;obtain⟨g,cap,hv,ho,hgl⟩:=h.nodes.block (by omega);obtain⟨ao,fc,hfl,_⟩:=(h.fls nd hmem).form;obtain⟨i0,hi,hz0,hz1,hz2⟩:=info_parts Tryz.infoStamp;have HI:Hid (Tryz.prog.info? 53=some i0∧i0.zero=some (.int .u64 0)∧i0.size=1∧i0.bytes=8):=⟨hi,hz0,hz1,hz2⟩;clear hi hz0 hz1 hz2;have HR:=hid h;have HV:Hid (R.vn=.slice (some ⟨g,0,none⟩) R.nodes.length cap∧R.vn.ownBlock=some g):=⟨hv,ho⟩;have HN:Hid (R.nodes[k]?=some nd∧nd∈R.nodes∧nd.fl=.slice ao nd.fls.length fc∧R.Fit):=⟨hnd,hmem,hfl,hf⟩;have HFT:=hid hft;have HC:Hid (∀W:World,Ref W b R→W.cell? ⟨b,3,none⟩=some (.slice (some ⟨g,0,none⟩) R.nodes.length cap)∧W.cell? ⟨g,k*7,none⟩=some (.bool nd.up)∧W.cell? ⟨g,k*7+2,none⟩=some (.int .u64 (nd.horizon:Int))∧
  W.cell? ⟨g,k*7+3,none⟩=some (.slice ao nd.fls.length fc)∧W.frozen? ⟨g,k*7+3,none⟩=false):=by
  intro W hW;refine⟨by rw[hW.c3,hv],?_,?_,?_,hW.nodes.free ho _⟩
  · exact hW.nodes.cell ho (k*7) _ (by have:=Zy R.nodes k hk 0 (by omega);rw[Nat.add_zero]at this;rw[this,hnd'];rfl)
  · exact hW.nodes.cell ho (k*7+2) _ (by rw[Zy R.nodes k hk 2 (by omega),hnd'];rfl)
  · exact hW.nodes.cell ho (k*7+3) _ (by rw[Zy R.nodes k hk 3 (by omega),hnd',←hfl];rfl)
 have HFC:Hid (∀W:World,Ref W b R→∀j (hj:j<nd.fls.length),∃gf,ao=some ⟨gf,0,none⟩∧W.cell? ⟨gf,j,none⟩=some (.int .u64 (nd.fls[j]:Int))):=by
  intro W hW j hj;obtain⟨gf,cf,e1,e2,_⟩:=(hW.fls nd hmem).block (by omega);rw[hfl]at e1;injection e1 with e1 _ _;exact⟨gf,e1,(hW.fls nd hmem).cell e2 j _ (by simp[ZL,hj])⟩
 have HC2:Hid (∀(W:World)(nd2:Zi),Ref W b (R.putN k nd2)→W.cell? ⟨b,3,none⟩=some (.slice (some ⟨g,0,none⟩) R.nodes.length cap)∧W.cell? ⟨g,k*7+3,none⟩=some nd2.fl∧W.frozen? ⟨g,k*7+3,none⟩=false):=by
  intro W nd2 hW;refine⟨by rw[hW.c3];show some R.vn=_;rw[hv],?_,hW.nodes.free ho _⟩;refine hW.nodes.cell ho (k*7+3) _ ?_;show((R.nodes.set k nd2).flatMap nodeC)[k*7+3]?=_;rw[Zy (R.nodes.set k nd2) k (by simpa using hk) 3 (by omega),List.getElem_set_self];rfl
 clear h hf hv ho hnd hnd' hmem hfl hft;go_enter Tryz.func78,Tryz.ntmps78;go_wp2
 go_loopw [6,7] (fun v i wr=>∃j:Nat,j≤nd.fls.length∧i=.int .i64 j∧Hid (ZeT w wr v (Xv t (nd.fls.take j)))) (fun _ i _=>nd.fls.length-(intOf i).toNat)
 case atStart=>exact⟨0,Nat.zero_le _,rfl,⟨Row.nil _ _ _,fun x hx=>by simp[Value.ownBlock]at hx,Za.refl _ _⟩⟩
 case round=>
  obtain⟨j,hj,rfl,HFi⟩:=hrel;have HRr:Hid (Ref wr b R):=HR.out.kept HFi.out.kept (fun _ _=>id);obtain⟨c3,a0,a2,a3,f3⟩:=HC.out wr HRr.out;by_cases hlt:j<nd.fls.length
  · obtain⟨gf,hao,hcell⟩:=HFC.out wr HRr.out j hlt;have hs:=Zcw t nd.fls j hlt;have hle:=ZaT t nd.fls j;have htb:=HFT.out nd.fls[j] (List.getElem_mem hlt);obtain⟨x,hx⟩:∃x,x=nd.fls[j]:=⟨_,rfl⟩;rw[←hx]at hcell hs htb;have HS:=hid hs;rw[hao]at a3;clear hs hx;by_cases hgt:t<x+100
    · have hgz:g<wr.heap.size:=HRr.out.nodes.lt g HV.out.2;have hbz:b<wr.heap.size:=HRr.out.blk.lt
      go_wp2_with (at_builtin;refine Zf _ rfl (.tmp 35) (.tmp 47) 144 rfl 53 i0 (.int .u64 0) 1 8 Tryz.underlying144 HI.out.1 HI.out.2.1 HI.out.2.2.1 HI.out.2.2.2 rfl (by decide) _ _ _ rfl (HFi.out.row.kept (Za.alloc _ _ (fun _=>False)) (fun _ _=>id)) ⟨wr.heap.size,0,none⟩ 1 1 [.int .u64 x] rfl rfl (cell_one_new _ _ _) (XC _) (by unfold maxLen;omega) (by omega) ?_;intro v' w1 hA)
      have HP:=HFi.out.push hA
      go_roundw
      case rel=>exact⟨j+1,by omega,by go_num,by rw[HS.out,if_pos hgt];exact HP⟩
      case measure=>simp[intOf];omega
    · go_wp2
      go_roundw
      case rel=>exact⟨j+1,by omega,by go_num,by rw[HS.out,if_neg hgt];exact HFi⟩
      case measure=>simp[intOf];omega
  · have hj':j=nd.fls.length:=by omega
    subst hj';rw[List.take_length]at HFi;obtain⟨l0,hl0⟩:∃l0,l0=Xv t nd.fls:=⟨_,rfl⟩;have hle:=ZaT t nd.fls nd.fls.length;rw[List.take_length,←hl0]at hle;rw[←hl0]at HFi;have HL0:=hid hl0;clear hl0;obtain⟨av,cv,hvv,_⟩:=HFi.out.row.form;subst hvv;have hnew:∀x,(Value.slice av l0.length cv).ownBlock=some x→w.heap.size≤x:=HFi.out.own;have HR1:Hid (Ref (wr.setCell ⟨g,k*7+3,none⟩ (.slice av l0.length cv)) b (R.putN k {nd with fl:=.slice av l0.length cv,fls:=l0})):=by
     exact HR.out.setFl HN.out.1 HV.out.2 _ l0 HFi.out.kept HFi.out.row hnew
    have HK1:Hid (Za (R.fp b) w (wr.setCell ⟨g,k*7+3,none⟩ (.slice av l0.length cv))):=
     HFi.out.kept.trans (Za.setCell wr ⟨g,k*7+3,none⟩ (.slice av l0.length cv)) (fun _=>False.elim) (fun x _ hx=>Ue (by rw[HV.out.2,hx]))
    have hsz:w.heap.size≤(wr.setCell ⟨g,k*7+3,none⟩ (.slice av l0.length cv)).heap.size:=HK1.out.size;have hgz:g<wr.heap.size:=HRr.out.nodes.lt g HV.out.2;have hgb:g≠b:=fun e=>HR.out.nodes.ne_block HR.out.blk (by decide) (by rw[HV.out.2,e]);have hbg:b≠g:=Ne.symm hgb;clear hnew;have HNEW:Hid (∀x,(Value.slice av l0.length cv).ownBlock=some x→w.heap.size≤x):=HFi.out.own;have HFE:=hid hfe;have hcs:nd.up=false∨(nd.up=true∧(t:Int)≤(nd.horizon:Int)+40):=by
     cases hu:nd.up with
     |false=>exact .inl rfl
     |true=>refine .inr ⟨rfl,?_⟩;simp[V4,hu]at hfe;omega
    clear hfe;by_cases h12:l0.length<12
    · rcases hcs with hup|⟨hup,hle2⟩
      all_goals
       rw[hup]at a0;clear hup;go_wp2;generalize hW1:wr.setCell ⟨g,k*7+3,none⟩ (.slice av l0.length cv)=w2 at HR1 HK1 hsz⊢;clear hW1;obtain⟨d3,e4,g3⟩:=HC2.out w2 _ HR1.out;have hb2:b<w2.heap.size:=HR1.out.blk.lt;have hg2:g<w2.heap.size:=HR1.out.nodes.lt g HV.out.2;have qb:∀o:Obj,(w2.alloc o).cell? ⟨b,3,none⟩=some (.slice (some ⟨g,0,none⟩) R.nodes.length cap):=fun o=>(World.cell?_alloc_past _ _ _ hb2).trans d3;have qg:∀o:Obj,(w2.alloc o).cell? ⟨g,k*7+3,none⟩=some (.slice av l0.length cv):=fun o=>(World.cell?_alloc_past _ _ _ hg2).trans e4;have HROW:Hid (∀o:Obj,Row ((w2.alloc o).drew) 53 1 (.slice av l0.length cv) l0.length (ZL l0)):=fun o=>(HR1.out.fls {nd with fl:=.slice av l0.length cv,fls:=l0} (List.mem_of_getElem? (ZaK hk))).kept ((Za.alloc w2 o (fun _=>False)).drew) (fun _ _=>id);have HAP:Hid (∀(o:Obj)(w':World)(v':Value)(news:List Value),Zc ((w2.alloc o).drew) w' 53 1 (.slice av l0.length cv) v' l0.length 1 (ZL l0) news→w'.cell? ⟨b,3,none⟩=some (.slice (some ⟨g,0,none⟩) R.nodes.length cap)∧w'.cell? ⟨g,k*7+3,none⟩=some (.slice av l0.length cv)∧w'.frozen? ⟨g,k*7+3,none⟩=false∧Zc w2 w' 53 1 (.slice av l0.length cv) v' l0.length 1 (ZL l0) news):=by
        intro o w' v' news hA;obtain⟨y1,y2,y3⟩:=app_in (nd:={nd with fl:=.slice av l0.length cv,fls:=l0}) HR1.out (ZaK hk) hA;exact⟨y1.trans (by show some R.vn=_;rw[HV.out.1]),(y2 g HV.out.2).1,(y2 g HV.out.2).2,y3⟩
       have b1:l0.length+1≤maxLen:=by unfold maxLen;omega
       have b2:(l0.length+1)*8≤140737488355328:=by omega
       clear c3 a0 a2 a3 f3
       go_region_law (refine Zw rfl (.tmp 103) (.tmp 105) 144 rfl 53 i0 (.int .u64 0) 1 8 Tryz.underlying144 HI.out.1 HI.out.2.1 HI.out.2.2.1 HI.out.2.2.2 rfl (Nat.succ_pos 0) (.slice av l0.length cv) l0.length (ZL l0) rfl (HROW.out _) ⟨w2.heap.size,0,none⟩ 1 1 [.int .u64 t] rfl rfl (fun j u hj=>cell_one_new w2 _ _ j u hj) (XC _) b1 b2 ?_;intro v' w' hA;obtain⟨p1,p2,p3,p4⟩:=HAP.out _ _ _ _ hA;clear hA;obtain⟨ao',cap',hv',_⟩:=p4.row.form;subst hv')
       all_goals
        have HP4:=hid p4;clear p4 p1 p2 p3 qb qg d3 e4;go_wp2
        go_end0
        exact Ze2 HR1.out HK1.out HFE.out HL0.out h12 HN.out.1 HV.out.2 HNEW.out HP4.out
    · rcases hcs with hup|⟨hup,hle2⟩
      all_goals
       rw[hup]at a0;clear hup;go_wp2
       go_end0
       exact Ze5 HR1.out HK1.out HFE.out HL0.out h12 HN.out.1 HNEW.out
end Go.Proofs.YtpfcacedpkaihaaGreat
