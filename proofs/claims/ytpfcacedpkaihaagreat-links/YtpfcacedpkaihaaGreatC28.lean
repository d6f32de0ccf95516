import Derived.Test.YtpfcacedpkaihaaGreatC27
namespace Go.Proofs.YtpfcacedpkaihaaGreat
open Go.RowKit
set_option maxRecDepth 100000
set_option maxHeartbeats 16000000
theorem Zjf (q:ByteArray)(W:World)(hq:q.size≤maxLen):Calls Tryz.prog 71 #[.string q] W fun e w'=>∃n er:Int,e=.returned (.tuple #[.agg #[.int .u8 (Xk q),.int .i64 n],.int .i64 er])∧Za (fun _=>False) W w':=
 (ZaE q W hq).mono fun _ _ hp=>⟨_,_,hp.1,Za.of_below hp.2 _⟩
theorem dhear (w:World)(b k ge j:Nat)(D:Ze)(nd:Zn)(x:Zu)(t:Nat)(K:Int)(h:Dev w b D)(hnd:D.nodes[k]?=some nd)(he:nd.en.ownBlock=some ge)(hx:nd.p.ents[j]?=some x)(hq:x.e.q.size≤maxLen):
 Calls Tryz.prog 164 #[.pointer (some ⟨ge,j*7,none⟩),.int .u64 t,.int .u8 K] w fun e w'=>e=.returned (.tuple #[])∧Hid (Zl w b D k {nd.p with ents:=nd.p.ents.set j (YT t K x)} w'):=by
 have hgl:ge<w.heap.size:=(h.ents nd (List.mem_of_getElem? hnd)).lt ge he;have hj:=(List.getElem?_eq_some_iff.mp hx).1;have HS:Hid (∀W,Za (fun _=>False) w W→YT t K x=x→Zl w b D k {nd.p with ents:=nd.p.ents.set j (YT t K x)} W):=fun W hW e=>by rw[e,XT hx];exact Zl.of_kept h hnd hW
 have HT:Hid (∀(W:World)(y:Zu),Za (fun i=>i=ge) w W→Row W 227 7 nd.en nd.p.ents.length ((nd.p.ents.set j y).flatMap Go.Proofs.YtpfcacedpkaihaaGreat.heldC)→y=YT t K x→Zl w b D k {nd.p with ents:=nd.p.ents.set j (YT t K x)} W):=fun W y hk hr hy=>by
  subst hy;exact⟨_,rfl,h.turnEnts hnd _ (hk.mono fun i hi=>by rw[hi];exact he) (by rw[List.length_set];exact hr)⟩
 have HRW:Hid (∀W,Za (fun _=>False) w W→Row W 227 7 nd.en nd.p.ents.length (nd.p.ents.flatMap Go.Proofs.YtpfcacedpkaihaaGreat.heldC)):=fun W hW=>(h.ents nd (List.mem_of_getElem? hnd)).kept hW (fun _ _=>id);have HX:Hid (nd.p.ents[j]?=some x∧nd.en.ownBlock=some ge∧j<nd.p.ents.length):=⟨hx,he,hj⟩;have e0:w.cell? ⟨ge,j*7,none⟩=some (.string x.e.q):=h.heldC hnd he hx 0 (by omega) _ rfl;have e3:w.cell? ⟨ge,j*7+3,none⟩=some (.int .u64 (x.e.till:Int)):=h.heldC hnd he hx 3 (by omega) _ rfl;have e4:w.cell? ⟨ge,j*7+4,none⟩=some (.bool x.e.op):=h.heldC hnd he hx 4 (by omega) _ rfl;have e5:w.cell? ⟨ge,j*7+5,none⟩=some (.int .u64 (x.e.kn:Int)):=h.heldC hnd he hx 5 (by omega) _ rfl;have HEF:Hid (∀W,Za (fun _=>False) w W→W.cell? ⟨ge,j*7+3,none⟩=some (.int .u64 (x.e.till:Int))∧W.cell? ⟨ge,j*7+4,none⟩=some (.bool x.e.op)∧∀f,W.frozen? ⟨ge,f,none⟩=false):=fun W hW=>⟨hW.hold e3,hW.hold e4,fun f=>(World.frozen?_of_block (a:=⟨ge,f,none⟩) (hW.block ge hgl id)).trans (h.heldF hnd he f)⟩;have HQ:Hid (∀W,Calls Tryz.prog 71 #[.string x.e.q] W fun e w'=>∃n er:Int,e=.returned (.tuple #[.agg #[.int .u8 (Xk x.e.q),.int .i64 n],.int .i64 er])∧Za (fun _=>False) W w'):=fun W=>Zjf _ W hq;have HE:Hid (YT t K x=if x.e.op=true∧x.e.kn<t∧(bits .and .u8 K (Xk x.e.q) !=0)=true then {x with e:={x.e with op:=false,till:=t}}else x):=rfl;clear h hnd he hx hj hq;obtain⟨⟨xq,xv,xf,xt,xo,xk⟩,us⟩:=x;dsimp only at*
 generalize Xk xq=KQ at*
 cases xo with
 |false=>
  go_enter Tryz.func164,Tryz.ntmps164;go_wp2
  (try simp only[Exit.inBlock,Exit.then]);refine bodyPost_ret (results_none rfl _ _ _) rfl ?_
  exact⟨rfl,HS.out _ (Za.refl _ _) (by rw[HE.out];simp)⟩
 |true=>
  by_cases hkt:xk<t
  · have hd:decide ((t:Int)≤(xk:Int))=false:=by simp;omega
    cases hbt:(bits .and .u8 K KQ !=0)with
    |true=>
     go_enter Tryz.func164,Tryz.ntmps164
     go_wp2_with (go_at_call 71;refine(HQ.out _).mono ?_;rintro e w1 ⟨n,er,rfl,hk1⟩;have hgl1:ge<w1.heap.size:=Nat.lt_of_lt_of_le hgl hk1.size;have hne:ge≠w1.heap.size:=Nat.ne_of_lt hgl1;have HK1:Hid (Za (fun _=>False) w w1):=hk1;obtain⟨y3,y4,yf⟩:=HEF.out _ hk1;clear hk1)
     go_end0
     refine⟨rfl,HT.out _ ⟨⟨xq,xv,xf,t,false,xk⟩,us⟩ ?_ ?_ (by rw[HE.out];simp[hkt,hbt])⟩
     · exact((HK1.out.trans (Za.setCell _ ⟨ge,j*7+4,none⟩ _) (H:=fun i=>i=ge) (fun _=>False.elim) (fun _ _=>id)).trans (Za.setCell _ ⟨ge,j*7+3,none⟩ _) (H:=fun i=>i=ge) (fun _=>id) (fun _ _=>id)).allocNew _
     · have r1:=(HRW.out _ HK1.out).held (y:=⟨⟨xq,xv,xf,xt,false,xk⟩,us⟩) (u:=.bool false) HX.out.2.1 HX.out.1 (f:=4) (by omega) rfl;have r2:=r1.held (y:=⟨⟨xq,xv,xf,t,false,xk⟩,us⟩) (u:=.int .u64 (t:Int)) HX.out.2.1 (List.getElem?_set_self HX.out.2.2) (f:=3) (by omega) rfl;rw[List.set_set]at r2;exact r2.kept (Za.alloc _ _ (fun _=>False)) (fun _ _=>id)
    |false=>
     go_enter Tryz.func164,Tryz.ntmps164
     go_wp2_with (go_at_call 71;refine(HQ.out _).mono ?_;rintro e w1 ⟨n,er,rfl,hk1⟩)
     go_end0
     exact⟨rfl,HS.out _ (hk1.allocNew _) (by rw[HE.out];simp[hbt])⟩
  · have hd:decide ((t:Int)≤(xk:Int))=true:=by simp;omega
    go_enter Tryz.func164,Tryz.ntmps164;go_wp2
    (try simp only[Exit.inBlock,Exit.then]);refine bodyPost_ret (results_none rfl _ _ _) rfl ?_
    exact⟨rfl,HS.out _ (Za.refl _ _) (by rw[HE.out];simp[hkt])⟩
def YA (l:List Zu)(t:Nat)(K:Int)(j:Nat):List Zu:=(l.take j).map (YT t K)++l.drop j
theorem Ze7 (l:List Zu)(t:Nat)(K:Int):YA l t K 0=l:=by simp[YA]
theorem Zfy (l:List Zu)(t:Nat)(K:Int):YA l t K l.length=l.map (YT t K):=by simp[YA]
theorem Zf5 (l:List Zu)(t:Nat)(K:Int)(j:Nat):(YA l t K j).length=l.length:=by simp[YA];omega
theorem Zg8 (l:List Zu)(t:Nat)(K:Int)(j:Nat)(h:j<l.length):(YA l t K j)[j]?=some l[j]:=by
 unfold YA;rw[List.getElem?_append_right (by simp;omega)];simp[Nat.min_eq_left (Nat.le_of_lt h)]
theorem ZeL (l:List Zu)(t:Nat)(K:Int)(j:Nat)(h:j<l.length):(YA l t K j).set j (YT t K l[j])=YA l t K (j+1):=by
 unfold YA;rw[List.set_append_right _ _ (by simp;omega),List.take_succ_eq_append_getElem h,List.map_append,List.append_assoc];congr 1;have e:l.drop j=l[j]::l.drop (j+1):=List.drop_eq_getElem_cons h;simp only[List.length_map,List.length_take,Nat.min_eq_left (Nat.le_of_lt h),Nat.sub_self];rw[e];rfl
theorem Zei (w:World)(b k g:Nat)(D:Ze)(nd:Zn)(K:Int)(h:Dev w b D)(hnd:D.nodes[k]?=some nd)(ho:D.vn.ownBlock=some g)(hok:nd.p.Ok 1000000):
 Calls Tryz.prog 153 #[.pointer (some ⟨g,k*8,none⟩),.int .u8 K] w fun e w'=>e=.returned (.tuple #[])∧Hid (Zl w b D k (nd.p.hearOne K) w'):=by
 have hz:=hok.hz;have hel:=hok.el;have c2:w.cell? ⟨g,k*8+2,none⟩=some (.int .u64 (nd.p.horizon:Int)):=h.nodeC hnd ho 2 (by omega) _ rfl;have f2:w.frozen? ⟨g,k*8+2,none⟩=false:=h.nodeF ho _;obtain⟨z,hzz⟩:∃z,z=nd.p.horizon:=⟨_,rfl⟩;have H1:Hid (Zv w b D (w.setCell ⟨g,k*8+2,none⟩ (.int .u64 ((z:Int)+1))) (D.putN k {nd with p:={nd.p with horizon:=z+1}})):=h.cellN hnd ho 2 (by omega) _ rfl rfl;have HND:Hid (D.nodes[k]?=some nd∧D.vn.ownBlock=some g):=⟨hnd,ho⟩;have HR:Hid (∀W,Zv w b D W (D.putN k {nd with p:={nd.p with horizon:=z+1}})→Calls Tryz.prog 163 #[.pointer (some ⟨g,k*8,none⟩),.agg #[.int .u64 ((z:Int)+1),.int .u8 K]] W fun e w'=>e=.returned (.tuple #[])∧Hid (Zl w b D k {nd.p with horizon:=z+1,hists:=Ye nd.p.hists (z+1,K)} w')):=fun W hB=>
  (ZjE W b k g _ _ (z+1,K) hB.1 (ZY _ hnd) ho (by have:=hok.hl;dsimp only;omega)).mono fun e w' hp=>⟨hp.1,by
   obtain⟨n2,e2,hb2⟩:=hp.2.out;refine⟨n2,e2,?_⟩;have:=hB.trans hb2
   rwa [ZJ]at this⟩
 obtain⟨l,hll⟩:∃l,l=nd.p.ents:=⟨_,rfl⟩;have HH:Hid (∀(W:World)(j:Nat)(hj:j<l.length),Zl w b D k {nd.p with horizon:=z+1,hists:=Ye nd.p.hists (z+1,K),ents:=YA l (z+1) K j} W→∃(ge ca:Nat),W.cell? ⟨g,k*8+5,none⟩=some (.slice (some ⟨ge,0,none⟩) l.length ca)∧W.cell? ⟨g,k*8+2,none⟩=some (.int .u64 ((z:Int)+1))∧Calls Tryz.prog 164 #[.pointer (some ⟨ge,j*7,none⟩),.int .u64 ((z:Int)+1),.int .u8 K] W fun e w'=>e=.returned (.tuple #[])∧Hid (Zl w b D k {nd.p with horizon:=z+1,hists:=Ye nd.p.hists (z+1,K),ents:=YA l (z+1) K (j+1)} w')):=fun W j hj hT=>by
  obtain⟨n3,e3,hb3⟩:=hT;have hn3:=ZY n3 hnd;have hen:n3.p.ents=YA l (z+1) K j:=by rw[e3]
  have hlen:n3.p.ents.length=l.length:=by rw[hen,Zf5]
  obtain⟨ge,ca,hv,hown⟩:=hb3.1.block_of hn3 (j:=j) (by omega);have hx:n3.p.ents[j]?=some l[j]:=by rw[hen];exact Zg8 l _ K j hj
  refine⟨ge,ca,by rw[←hlen,←hv];exact hb3.1.nodeC hn3 ho 5 (by omega) _ rfl,?_,(dhear W b k ge j _ n3 l[j] (z+1) K hb3.1 hn3 hown hx (hok.eq _ (by rw[←hll];exact List.getElem_mem hj))).mono fun e w' hp=>⟨hp.1,?_⟩⟩
  · have:=hb3.1.nodeC hn3 ho 2 (by omega) _ rfl;rw[e3]at this;exact this
  · obtain⟨n4,e4,hb4⟩:=hp.2.out;refine⟨n4,?_,by have:=hb3.trans hb4;rwa [ZJ]at this⟩;rw[e4,hen,ZeL l _ K j hj,e3]
 have HZ:Hid (∀W,Zl w b D k {nd.p with horizon:=z+1,hists:=Ye nd.p.hists (z+1,K)} W→Zl w b D k {nd.p with horizon:=z+1,hists:=Ye nd.p.hists (z+1,K),ents:=YA l (z+1) K 0} W∧∃(ao:Option Addr)(ca:Nat),W.cell? ⟨g,k*8+5,none⟩=some (.slice ao l.length ca)):=fun W hT=>by
  refine⟨by rw[Ze7,hll];exact hT,?_⟩;obtain⟨n3,e3,hb3⟩:=hT;have hn3:=ZY n3 hnd;obtain⟨ao,ca,hv,_⟩:=(hb3.1.ents n3 (List.mem_of_getElem? hn3)).form;refine⟨ao,ca,?_⟩;have hc:=hb3.1.nodeC hn3 ho 5 (by omega) _ rfl;rw[hv,e3]at hc;rw[hll];exact hc
 have HE:Hid (∀W,Zl w b D k {nd.p with horizon:=z+1,hists:=Ye nd.p.hists (z+1,K),ents:=YA l (z+1) K l.length} W→Zl w b D k (nd.p.hearOne K) W):=fun W hT=>by
  rw[Zfy,hll,hzz]at hT;exact hT
 have HC2:Hid (∀W,Zv w b D W (D.putN k {nd with p:={nd.p with horizon:=z+1}})→W.cell? ⟨g,k*8+2,none⟩=some (.int .u64 ((z:Int)+1))):=fun W hB=>hB.1.nodeC (ZY _ hnd) ho 2 (by omega) _ rfl;rw[←hzz]at c2 hz;rw[←hll]at hel;clear h hnd ho hok hzz hll;go_enter Tryz.func153,Tryz.ntmps153
 go_wp2_with (go_at_call 163;refine(HR.out _ H1.out).mono ?_;rintro e w1 ⟨rfl,hT1⟩;obtain⟨hT2,ao,ca,c5⟩:=HZ.out _ hT1.out;have HT2:Hid (Zl w b D k {nd.p with horizon:=z+1,hists:=Ye nd.p.hists (z+1,K),ents:=YA l (z+1) K 0} w1):=hT2;clear hT2 hT1)
 go_loopw [26] (fun iv wr=>∃j:Nat,j≤l.length∧iv=.int .i64 j∧Hid (Zl w b D k {nd.p with horizon:=z+1,hists:=Ye nd.p.hists (z+1,K),ents:=YA l (z+1) K j} wr)) (fun iv _=>l.length-(intOf iv).toNat)
 case atStart=>exact⟨0,Nat.zero_le _,rfl,HT2.out⟩
 case round=>
  obtain⟨j,hj,rfl,HT⟩:=hrel;by_cases hlt:j<l.length
  · obtain⟨ge,ca',d5,d2,hcall⟩:=HH.out wr j hlt HT.out;have HCALL:Hid (Calls Tryz.prog 164 #[.pointer (some ⟨ge,j*7,none⟩),.int .u64 ((z:Int)+1),.int .u8 K] wr fun e w'=>e=.returned (.tuple #[])∧Hid (Zl w b D k {nd.p with horizon:=z+1,hists:=Ye nd.p.hists (z+1,K),ents:=YA l (z+1) K (j+1)} w')):=hcall;have hj0:(0:Int)≤(j:Int):=by omega
    have hj1:(j:Int)<(l.length:Int):=by omega
    clear hcall
    go_wp2_with (go_at_call 164;refine HCALL.out.mono ?_;rintro e w3 ⟨rfl,hT3⟩)
    go_roundw
    case rel=>exact⟨j+1,by omega,by go_num,hT3.out⟩
    case measure=>simp[intOf];omega
  · have hjn:j=l.length:=by omega
    subst hjn;go_wp2
    go_end0
    exact⟨rfl,HE.out _ HT.out⟩
theorem dHear (w:World)(b k g:Nat)(D:Ze)(nd:Zn)(K:Int)(h:Dev w b D)(hnd:D.nodes[k]?=some nd)(ho:D.vn.ownBlock=some g)(hok:nd.p.Ok 900000):
 Calls Tryz.prog 121 #[.pointer (some ⟨g,k*8,none⟩),.int .u8 K] w fun e w'=>e=.returned (.tuple #[])∧Hid (Zl w b D k (nd.p.hear K) w'):=by
 have H1:Hid (Calls Tryz.prog 153 #[.pointer (some ⟨g,k*8,none⟩),.int .u8 K] w fun e w'=>e=.returned (.tuple #[])∧Hid (∃p,Zl w b D k p w'∧p.Ok 900001∧Zb.hearGo 4 p=nd.p.hear K)):=
  (Zei w b k g D nd K h hnd ho ⟨by have:=hok.hz;omega,hok.hl,hok.wl,hok.el,hok.eq⟩).mono fun e w' hp=>⟨hp.1,_,hp.2.out,hok.hearOne K,rfl⟩
 have H2:Hid (∀(W:World)(j:Nat)(hj:j<4),(∃p,Zl w b D k p W∧p.Ok (900001+j)∧Zb.hearGo (4-j) p=nd.p.hear K)→∃(kk:Int)(wt:Bool),Calls Tryz.prog 154 #[.pointer (some ⟨g,k*8,none⟩)] W fun e w'=>e=.returned (.tuple #[.int .u8 kk,.bool wt])∧(wt=false→Hid (Zl w b D k (nd.p.hear K) w'))∧(wt=true→Hid (Calls Tryz.prog 153 #[.pointer (some ⟨g,k*8,none⟩),.int .u8 kk] w' fun e w''=>e=.returned (.tuple #[])∧Hid (∃p,Zl w b D k p w''∧p.Ok (900001+(j+1))∧Zb.hearGo (4-(j+1)) p=nd.p.hear K)))):=by
  rintro W j hj ⟨p,⟨n3,e3,hb3⟩,hpo,hgo⟩;have hn3:=ZY n3 hnd;subst e3;refine⟨YV n3.p.waits (n3.p.horizon+1),ZB n3.p.waits (n3.p.horizon+1),(dnext W b k g _ n3 hb3.1 hn3 ho hpo.wl (by have:=hpo.hz;omega)).mono fun e w' hp=>⟨hp.1,fun hw=> ?_,fun hw=> ?_⟩⟩
  · obtain⟨n4,e4,hb4⟩:=hp.2.out;refine⟨n4,?_,by have:=hb3.trans hb4;rwa [ZJ]at this⟩;have e:4-j=(4-(j+1))+1:=by omega
    rw[e4,←hgo,e,Zb.hearGo,if_neg (by rw[hw];simp)]
  · obtain⟨n4,e4,hb4⟩:=hp.2.out;have hb5:=hb3.trans hb4;rw[ZJ]at hb5;have hn4:=ZY n4 hnd;have hok4:n4.p.Ok (900001+j):=by rw[e4];exact hpo.dropNext
    refine(Zei w' b k g _ n4 _ hb5.1 hn4 ho ⟨by have:=hok4.hz;omega,hok4.hl,hok4.wl,hok4.el,hok4.eq⟩).mono fun e w'' hp2=>⟨hp2.1,n4.p.hearOne (YV n3.p.waits (n3.p.horizon+1)),?_,hok4.hearOne _,?_⟩
    · obtain⟨n6,e6,hb6⟩:=hp2.2.out;exact⟨n6,e6,by have:=hb5.trans hb6;rwa [ZJ]at this⟩
    · have e:4-j=(4-(j+1))+1:=by omega
      rw[←hgo,e,Zb.hearGo,if_pos hw,e4]
 have H3:Hid (∀W,(∃p,Zl w b D k p W∧p.Ok (900001+4)∧Zb.hearGo (4-4) p=nd.p.hear K)→Zl w b D k (nd.p.hear K) W):=by
  rintro W ⟨p,hT,_,hgo⟩;rw[←hgo];exact hT
 clear h hnd ho hok;go_enter Tryz.func121,Tryz.ntmps121
 go_wp2_with (go_at_call 153;refine H1.out.mono ?_;rintro e w1 ⟨rfl,hT1⟩)
 go_loopw [9] (fun iv wr=>∃j:Nat,j≤4∧iv=.int .i64 j∧Hid (∃p,Zl w b D k p wr∧p.Ok (900001+j)∧Zb.hearGo (4-j) p=nd.p.hear K)) (fun iv _=>4-(intOf iv).toNat)
 case atStart=>exact⟨0,Nat.zero_le _,rfl,hT1.out⟩
 case round=>
  obtain⟨j,hj,rfl,HT⟩:=hrel;by_cases hlt:j<4
  · obtain⟨kk,wt,hcall⟩:=H2.out wr j hlt HT.out;have HC:=hid hcall;clear hcall;cases wt with
    |false=>
     go_wp2_with (go_at_call 154;refine HC.out.mono ?_;rintro e w3 ⟨rfl,hT3,hT4⟩;have HT3:=hT3 rfl;clear hT3 hT4)
     (try simp only[Exit.inBlock,Exit.then]);refine bodyPost_ret (results_none rfl _ _ _) rfl ?_
     exact⟨rfl,HT3⟩
    |true=>
     go_wp2_with first
      |(go_at_call 154;refine HC.out.mono ?_;rintro e w3 ⟨rfl,hT3,hT4⟩;have HT4:=hT4 rfl;clear hT3 hT4)
      |(go_at_call 153;refine HT4.out.mono ?_;rintro e w4 ⟨rfl,hT5⟩)
     go_roundw
     case rel=>exact⟨j+1,by omega,by go_num,hT5⟩
     case measure=>simp[intOf];omega
  · have hjn:j=4:=by omega
    subst hjn;go_wp2
    go_end0
    exact⟨rfl,H3.out _ HT.out⟩
theorem Dev.putFlight {w wr:World}{b k g:Nat}{D:Ze}{nd:Zn}(h:Dev w b D)(hnd:D.nodes[k]?=some nd)(ho:D.vn.ownBlock=some g)(l:List (Nat×Int))(v:Value)(hG:ZG 192 2 Zp w wr v l):Zl w b D k {nd.p with flight:=l} (wr.setCell ⟨g,k*8+7,none⟩ v):=
 ⟨{nd with p:={nd.p with flight:=l},fl:=v},rfl,h.rowN hnd ho 3 7 (by omega) (by omega) ⟨192,2,nd.fl,nd.p.flight.length,nd.p.flight.flatMap Zp⟩ ⟨192,2,v,l.length,l.flatMap Zp⟩ v rfl rfl rfl (hG.kept.mono (fun _=>False.elim)) hG.row hG.own⟩
theorem dage (w:World)(b k g:Nat)(D:Ze)(nd:Zn)(t:Nat)(h:Dev w b D)(hnd:D.nodes[k]?=some nd)(ho:D.vn.ownBlock=some g)(hl:nd.p.flight.length≤1000)(hs:∀c∈nd.p.flight,c.1≤1000000):
 Calls Tryz.prog 129 #[.pointer (some ⟨g,k*8+7,none⟩),.int .u64 t] w fun e w'=>e=.returned (.tuple #[])∧Hid (Zl w b D k (nd.p.age t) w'):=by
 have hr:=h.flight nd (List.mem_of_getElem? hnd);obtain⟨ao,cap,hv,hp⟩:=hr.pairs;have c7:w.cell? ⟨g,k*8+7,none⟩=some nd.fl:=h.nodeC hnd ho 7 (by omega) _ rfl;have f7:w.frozen? ⟨g,k*8+7,none⟩=false:=h.nodeF ho _;have hgl:g<w.heap.size:=World.block_lt_of_cell? w _ c7;have HC:Hid (∀W,Za (fun _=>False) w W→W.cell? ⟨g,k*8+7,none⟩=some nd.fl∧W.frozen? ⟨g,k*8+7,none⟩=false):=fun W hW=>⟨hW.hold c7,(World.frozen?_of_block (a:=⟨g,k*8+7,none⟩) (hW.block g hgl id)).trans f7⟩;rw[hv]at c7 HC;obtain⟨l,hll⟩:∃l,l=nd.p.flight:=⟨_,rfl⟩;have HP:Hid (∀j (hj:j<l.length),∃gw,ao=some ⟨gw,0,none⟩∧gw<w.heap.size∧w.cell? ⟨gw,j*2,none⟩=some (.int .u64 (l[j].1:Int))∧w.cell? ⟨gw,j*2+1,none⟩=some (.int .u8 l[j].2)):=by rw[hll];exact hp
 have HF:Hid (∀(v:Value)(wr:World),ZG 192 2 Zp w wr v (l.filter fun c=>decide (t<c.1+100))→Zl w b D k (nd.p.age t) (wr.setCell ⟨g,k*8+7,none⟩ v)):=fun v wr hG=>by rw[hll]at hG;exact h.putFlight hnd ho _ v hG
 have HS:Hid (∀j (hj:j<l.length),l[j].1≤1000000):=fun j hj=>hs _ (by rw[←hll];exact List.getElem_mem hj);rw[←hll]at hl c7 HC;obtain⟨i0,hi,hz0,hz1,hz2⟩:=info_parts Tryz.infoSent;have HI:Hid (Tryz.prog.info? 192=some i0∧i0.zero=some (.agg #[.int .u64 0,.int .u8 0])∧i0.size=2∧i0.bytes=16):=⟨hi,hz0,hz1,hz2⟩;clear hi hz0 hz1 hz2 h hnd ho hr hp hv hll hs f7;go_enter Tryz.func129,Tryz.ntmps129;go_wp2
 go_loopw [4,12] (fun v iv wr=>∃j:Nat,j≤l.length∧iv=.int .i64 j∧Hid (ZG 192 2 Zp w wr v ((l.take j).filter fun c=>decide (t<c.1+100)))) (fun _ iv _=>l.length-(intOf iv).toNat)
 case atStart=>exact⟨0,Nat.zero_le _,rfl,ZG.start _ _ _ _⟩
 case round=>
  obtain⟨j,hj,rfl,HG⟩:=hrel;obtain⟨av,cv,hvv,_⟩:=HG.out.row.form;have hfl:=Zcg l (fun c=>decide (t<c.1+100)) j;obtain⟨n,hn⟩:∃n,n=((l.take j).filter fun c=>decide (t<c.1+100)).length:=⟨_,rfl⟩;rw[←hn]at hvv hfl;subst hvv;by_cases hlt:j<l.length
  · obtain⟨gw,hao,hgw,p0,p1⟩:=HP.out j hlt;have HFT:=Zbj l (fun c=>decide (t<c.1+100)) j hlt;have hsx:=HS.out j hlt;obtain⟨x,hx⟩:∃x,x=l[j]:=⟨_,rfl⟩;rw[←hx]at p0 p1 HFT hsx;have d0:=HG.out.kept.hold p0;have d1:=HG.out.kept.hold p1;have hj0:(0:Int)≤(j:Int):=by omega
    have hj1:(j:Int)<(l.length:Int):=by omega
    clear hx p0 p1 hgw;subst hao;by_cases he:t<x.1+100
    · have HX:Hid ((l.take (j+1)).filter (fun c=>decide (t<c.1+100))=(l.take j).filter (fun c=>decide (t<c.1+100))++[x]):=by show _=_;rw[HFT,if_pos (by simpa using he)]
      have hd:decide ((t:Int)<(x.1:Int)+100)=true:=by simp;omega
      have HROW:Hid (∀o o',Row ((wr.alloc o).alloc o') 192 2 (.slice av n cv) n (((l.take j).filter fun c=>decide (t<c.1+100)).flatMap Zp)):=fun o o'=>by have:=(HG.out.row.kept (Za.alloc wr o (fun _=>False)) (fun _ _=>id)).kept (Za.alloc _ o' (fun _=>False)) (fun _ _=>id);rw[←hn]at this;exact this
      have HNX:Hid (∀(o o':Obj)(w':World)(v':Value),Zc ((wr.alloc o).alloc o') w' 192 2 (.slice av n cv) v' n 1 (((l.take j).filter fun c=>decide (t<c.1+100)).flatMap Zp) (Zp x)→ZG 192 2 Zp w w' v' ((l.take j).filter (fun c=>decide (t<c.1+100))++[x])):=by
       intro o o' w' v' hA;rw[hn]at hA HG;exact(HG.out.more ((Za.alloc wr o (fun _=>False)).allocNew o')).next hA
      have b1:n+1≤maxLen:=by unfold maxLen;omega
      have b2:(n+1)*16≤140737488355328:=by omega
      clear HFT he hn
      go_wp2_with (at_builtin;go_must (refine Zf _ rfl (.tmp 21) (.tmp 23) 135 rfl 192 i0 (.agg #[.int .u64 0,.int .u8 0]) 2 16 Tryz.underlying135 HI.out.1 HI.out.2.1 HI.out.2.2.1 HI.out.2.2.2 rfl (by decide) (.slice av n cv) n _ rfl (HROW.out _ _) ⟨wr.heap.size+1,0,none⟩ 1 1 (Zp x) rfl rfl (fun j u hj=>by simpa using Y8 (wr.alloc _) x _ j u hj) (Ys x) b1 b2 ?_);intro v' w1 hA;have HA:Hid (ZG 192 2 Zp w w1 v' ((l.take j).filter (fun c=>decide (t<c.1+100))++[x])):=HNX.out _ _ _ _ hA;clear hA)
      go_roundw
      case rel=>exact⟨j+1,by omega,by go_num,by rw[HX.out];exact HA.out⟩
      case measure=>simp[intOf];omega
    · have HX:Hid ((l.take (j+1)).filter (fun c=>decide (t<c.1+100))=(l.take j).filter (fun c=>decide (t<c.1+100))):=by show _=_;rw[HFT,if_neg (by simpa using he),List.append_nil]
      have hd:decide ((t:Int)<(x.1:Int)+100)=false:=by simp;omega
      clear HFT he hn;go_wp2
      go_roundw
      case rel=>exact⟨j+1,by omega,by go_num,by rw[HX.out];exact HG.out.more (Za.alloc _ _ _)⟩
      case measure=>simp[intOf];omega
  · have hjn:j=l.length:=by omega
    subst hjn;obtain⟨d7,e7⟩:=HC.out wr HG.out.kept;have HZ:Hid (Zl w b D k (nd.p.age t) (wr.setCell ⟨g,k*8+7,none⟩ (.slice av n cv))):=HF.out _ _ (by have:=HG.out;rwa [List.take_length]at this);clear hn;go_wp2
    go_end0
    exact⟨rfl,HZ.out⟩
def XV (w:World)(b:Nat)(D:Ze)(k:Nat)(p:Zb)(i:Int)(e:Ending)(w':World):Prop:=
 ((i<0∨(p.flight.length:Int)≤i)∧e=.returned (.tuple #[.agg #[.int .u64 0,.int .u8 0],.int .i64 10])∧Za (fun _=>False) w w')∨
 (∃(j:Nat)(x:Nat×Int),i=(j:Int)∧p.flight[j]?=some x∧e=.returned (.tuple #[.agg #[.int .u64 (x.1:Int),.int .u8 x.2],.int .i64 0])∧Hid (Zl w b D k (p.take j) w'))
theorem Zgm (w:World)(b k g:Nat)(D:Ze)(nd:Zn)(i:Int)(h:Dev w b D)(hnd:D.nodes[k]?=some nd)(ho:D.vn.ownBlock=some g)(hi:i<0∨(nd.p.flight.length:Int)≤i):
 Calls Tryz.prog 111 #[.pointer (some ⟨g,k*8+7,none⟩),.int .i64 i] w fun e w'=>XV w b D k nd.p i e w':=by
 obtain⟨ao,cap,hv,_⟩:=(h.flight nd (List.mem_of_getElem? hnd)).form;have c7:w.cell? ⟨g,k*8+7,none⟩=some nd.fl:=h.nodeC hnd ho 7 (by omega) _ rfl;have hgl:g<w.heap.size:=World.block_lt_of_cell? w _ c7;rw[hv]at c7;have HIX:=hid hi;by_cases h0:i<0
 · have hd:decide (i<0)=true:=by simpa using h0
   clear h hnd ho hv hi;go_enter Tryz.func111,Tryz.ntmps111;go_wp2;exact bodyPost_ret (v:=.tuple #[.agg #[.int .u64 0,.int .u8 0],.int .i64 10]) (by simp[results,Tryz.results111,go_sem]) rfl (.inl ⟨HIX.out,rfl,Za.alloc _ _ _⟩)
 · have hd:decide (i<0)=false:=by simpa using h0
   have h1:(nd.p.flight.length:Int)≤i:=by omega
   clear h hnd ho hv hi;go_enter Tryz.func111,Tryz.ntmps111;go_wp2;exact bodyPost_ret (v:=.tuple #[.agg #[.int .u64 0,.int .u8 0],.int .i64 10]) (by simp[results,Tryz.results111,go_sem]) rfl (.inl ⟨HIX.out,rfl,Za.alloc _ _ _⟩)
theorem Zet (w:World)(b k g:Nat)(D:Ze)(nd:Zn)(i:Nat)(h:Dev w b D)(hnd:D.nodes[k]?=some nd)(ho:D.vn.ownBlock=some g)(hl:nd.p.flight.length≤1000)(hi:i<nd.p.flight.length):
 Calls Tryz.prog 111 #[.pointer (some ⟨g,k*8+7,none⟩),.int .i64 (i:Int)] w fun e w'=>XV w b D k nd.p i e w':=by
 have hr:=h.flight nd (List.mem_of_getElem? hnd);obtain⟨ao,cap,hv,hp⟩:=hr.pairs;have c7:w.cell? ⟨g,k*8+7,none⟩=some nd.fl:=h.nodeC hnd ho 7 (by omega) _ rfl;have f7:w.frozen? ⟨g,k*8+7,none⟩=false:=h.nodeF ho _;have hgl:g<w.heap.size:=World.block_lt_of_cell? w _ c7;have HC:Hid (∀W,Za (fun _=>False) w W→W.cell? ⟨g,k*8+7,none⟩=some nd.fl∧W.frozen? ⟨g,k*8+7,none⟩=false):=fun W hW=>⟨hW.hold c7,(World.frozen?_of_block (a:=⟨g,k*8+7,none⟩) (hW.block g hgl id)).trans f7⟩;rw[hv]at c7 HC;obtain⟨l,hll⟩:∃l,l=nd.p.flight:=⟨_,rfl⟩;rw[←hll]at hi;have HP:Hid (∀j (hj:j<l.length),∃gw,ao=some ⟨gw,0,none⟩∧gw<w.heap.size∧w.cell? ⟨gw,j*2,none⟩=some (.int .u64 (l[j].1:Int))∧w.cell? ⟨gw,j*2+1,none⟩=some (.int .u8 l[j].2)):=by rw[hll];exact hp
 obtain⟨x,hx⟩:∃x,x=l[i]:=⟨_,rfl⟩;have HF:Hid (∀(v:Value)(wr W W':World),Za (fun _=>False) w W→w.heap.size<W.heap.size→ZG 192 2 Zp W wr v (l.eraseIdx i)→Za (fun j=>j=w.heap.size) (wr.setCell ⟨g,k*8+7,none⟩ v) W'→XV w b D k nd.p i (.returned (.tuple #[.agg #[.int .u64 (x.1:Int),.int .u8 x.2],.int .i64 0])) W'):=fun v wr W W' hW hsz hG hk=>by
  rw[hll]at hG;refine .inr ⟨i,x,rfl,by rw[hx,←hll];exact List.getElem?_eq_getElem hi,rfl,?_⟩;exact Zl.late hW ((h.kept hW (fun _ _=>id)).putFlight hnd ho _ v hG) h.lt (Nat.le_refl _) hsz hk
 rw[←hll]at hl c7 HC;obtain⟨gw0,hao0,hgw0,a0,a1⟩:=HP.out i hi;rw[←hx]at a0 a1;obtain⟨i0,hi0,hz0,hz1,hz2⟩:=info_parts Tryz.infoSent;have HI:Hid (Tryz.prog.info? 192=some i0∧i0.zero=some (.agg #[.int .u64 0,.int .u8 0])∧i0.size=2∧i0.bytes=16):=⟨hi0,hz0,hz1,hz2⟩;have hd:decide ((i:Int)<0)=false:=by simp
 have hd2:decide (l.length≤i)=false:=by simp;omega
 have hi1:(i:Int)<(l.length:Int):=by omega
 have hi2:(0:Int)≤(i:Int):=by omega
 clear hi0 hz0 hz1 hz2 h hnd ho hr hp hv hll f7 hx;subst hao0;go_enter Tryz.func111,Tryz.ntmps111;go_wp2;obtain⟨w2,hw2⟩:∃w2,w2=(w.alloc (.cells #[.int .u64 0,.int .u8 0] 192)).alloc (.cells #[.int .u64 (x.1:Int),.int .u8 x.2] 192):=⟨_,rfl⟩;have k2:Za (fun _=>False) w w2:=by rw[hw2];exact(Za.alloc _ _ _).allocNew _
 have bb:Blk w2 w.heap.size 192 #[.int .u64 0,.int .u8 0]∧Blk w2 (w.heap.size+1) 192 #[.int .u64 (x.1:Int),.int .u8 x.2]:=by
  rw[hw2];refine⟨(Blk.new w _ _).kept (Za.alloc _ _ (fun _=>False)) id,?_⟩;have:=Blk.new (w.alloc (.cells #[.int .u64 0,.int .u8 0] 192)) 192 #[.int .u64 (x.1:Int),.int .u8 x.2];simp only[World.size_alloc]at this;exact this
 have hs2:w2.heap.size=w.heap.size+2:=by rw[hw2];simp
 rw[show((w.alloc (.cells #[.int .u64 0,.int .u8 0] 192)).alloc (.cells #[.int .u64 (x.1:Int),.int .u8 x.2] 192))=w2 from hw2.symm];have HK2:=hid k2;have HBB:=hid bb;clear hw2 k2 bb a0 a1 c7
 go_loopw [7,34] (fun v iv wr=>∃j:Nat,j≤l.length∧iv=.int .i64 j∧Hid (ZG 192 2 Zp w2 wr v (tkL l i j))) (fun _ iv _=>l.length-(intOf iv).toNat)
 case atStart=>exact⟨0,Nat.zero_le _,rfl,by rw[show tkL l i 0=[] by simp[tkL]];exact ZG.start _ _ _ _⟩
 case round=>
  obtain⟨j,hj,rfl,HG⟩:=hrel;have hkw:Za (fun _=>False) w wr:=HK2.out.trans HG.out.kept (fun _=>id) (fun _ _=>id);obtain⟨av,cv,hvv,_⟩:=HG.out.row.form;have hfl:=ZdZ l i j;obtain⟨n,hn⟩:∃n,n=(tkL l i j).length:=⟨_,rfl⟩;rw[←hn]at hvv hfl;subst hvv;by_cases hlt:j<l.length
  · obtain⟨gw,hao,hgw,p0,p1⟩:=HP.out j hlt;injection hao with hao;injection hao with hao hao1 hao2;have HTN:=ZcC l i j hlt;obtain⟨y,hy⟩:∃y,y=l[j]:=⟨_,rfl⟩;rw[←hy]at p0 p1 HTN;have d0:=hkw.hold p0;have d1:=hkw.hold p1;have hj0:(0:Int)≤(j:Int):=by omega
    have hj1:(j:Int)<(l.length:Int):=by omega
    clear hy p0 p1 hgw hao1 hao2;subst hao;by_cases he:j=i
    · have HX:Hid (tkL l i (j+1)=tkL l i j):=by show _=_;rw[he];exact ZcB l i hi
      have hb:(((j:Int)) !=(i:Int))=false:=by simp[he]
      clear HTN he hn;go_wp2
      go_roundw
      case rel=>exact⟨j+1,by omega,by go_num,by rw[HX.out];exact HG.out.more (Za.alloc _ _ _)⟩
      case measure=>simp[intOf];omega
    · have HX:Hid (tkL l i (j+1)=tkL l i j++[y]):=HTN he;have hb:(((j:Int)) !=(i:Int))=true:=by simp;omega
      have HROW:Hid (∀o o',Row ((wr.alloc o).alloc o') 192 2 (.slice av n cv) n ((tkL l i j).flatMap Zp)):=fun o o'=>by have:=(HG.out.row.kept (Za.alloc wr o (fun _=>False)) (fun _ _=>id)).kept (Za.alloc _ o' (fun _=>False)) (fun _ _=>id);rw[←hn]at this;exact this
      have HNX:Hid (∀(o o':Obj)(w':World)(v':Value),Zc ((wr.alloc o).alloc o') w' 192 2 (.slice av n cv) v' n 1 ((tkL l i j).flatMap Zp) (Zp y)→ZG 192 2 Zp w2 w' v' (tkL l i j++[y])):=by
       intro o o' w' v' hA;rw[hn]at hA HG;exact(HG.out.more ((Za.alloc wr o (fun _=>False)).allocNew o')).next hA
      have b1:n+1≤maxLen:=by unfold maxLen;omega
      have b2:(n+1)*16≤140737488355328:=by omega
      clear HTN he hn
      go_wp2_with (at_builtin;go_must (refine Zf _ rfl (.tmp 42) (.tmp 44) 135 rfl 192 i0 (.agg #[.int .u64 0,.int .u8 0]) 2 16 Tryz.underlying135 HI.out.1 HI.out.2.1 HI.out.2.2.1 HI.out.2.2.2 rfl (by decide) (.slice av n cv) n _ rfl (HROW.out _ _) ⟨wr.heap.size+1,0,none⟩ 1 1 (Zp y) rfl rfl (fun j u hj=>by simpa using Y8 (wr.alloc _) y _ j u hj) (Ys y) b1 b2 ?_);intro v' w1 hA;have HA:Hid (ZG 192 2 Zp w2 w1 v' (tkL l i j++[y])):=HNX.out _ _ _ _ hA;clear hA)
      go_roundw
      case rel=>exact⟨j+1,by omega,by go_num,by rw[HX.out];exact HA.out⟩
      case measure=>simp[intOf];omega
  · have hjn:j=l.length:=by omega
    subst hjn;obtain⟨d7,e7⟩:=HC.out wr hkw;have HZ:Hid (∀W',Za (fun j=>j=w.heap.size) (wr.setCell ⟨g,k*8+7,none⟩ (.slice av n cv)) W'→XV w b D k nd.p i (.returned (.tuple #[.agg #[.int .u64 (x.1:Int),.int .u8 x.2],.int .i64 0])) W'):=fun W' hk=>HF.out _ wr w2 W' HK2.out (by omega) (by have:=HG.out;rwa [Zdw]at this) hk;have q0:=HBB.out.1.kept HG.out.kept id;have q1:=HBB.out.2.kept HG.out.kept id;have r0:wr.cell? ⟨w.heap.size,0,none⟩=some (.int .u64 0):=q0.cell 0;have r1:wr.cell? ⟨w.heap.size,1,none⟩=some (.int .u8 0):=q0.cell 1;have rf:∀i,wr.frozen? ⟨w.heap.size,i,none⟩=false:=fun i=>q0.free i;have s0:wr.cell? ⟨w.heap.size+1,0,none⟩=some (.int .u64 (x.1:Int)):=q1.cell 0;have s1:wr.cell? ⟨w.heap.size+1,1,none⟩=some (.int .u8 x.2):=q1.cell 1;have hg0:g≠w.heap.size:=by omega
    have hg1:g≠w.heap.size+1:=by omega
    have hg2:=Ne.symm hg0;have hg3:=Ne.symm hg1;clear hn q0 q1 hkw;go_wp2;refine bodyPost_ret (v:=.tuple #[.agg #[.int .u64 (x.1:Int),.int .u8 x.2],.int .i64 0]) (by simp[results,Tryz.results111,go_sem, *]) rfl (HZ.out _ ?_);exact(Za.setCell _ ⟨w.heap.size,0,none⟩ _).trans (Za.setCell _ ⟨w.heap.size,1,none⟩ _) (fun _=>id) (fun _ _=>id)
theorem Zgk (w:World)(b k g:Nat)(D:Ze)(nd:Zn)(i:Int)(h:Dev w b D)(hnd:D.nodes[k]?=some nd)(ho:D.vn.ownBlock=some g)(hl:nd.p.flight.length≤1000):
 Calls Tryz.prog 111 #[.pointer (some ⟨g,k*8+7,none⟩),.int .i64 i] w fun e w'=>XV w b D k nd.p i e w':=by
 by_cases hi:i<0∨(nd.p.flight.length:Int)≤i
 · exact Zgm w b k g D nd i h hnd ho hi
 · obtain⟨j,rfl⟩:∃j:Nat,i=j:=⟨i.toNat,by omega⟩;exact Zet w b k g D nd j h hnd ho hl (by omega)
theorem dsend (w:World)(b k g:Nat)(D:Ze)(nd:Zn)(c:Nat×Int)(h:Dev w b D)(hnd:D.nodes[k]?=some nd)(ho:D.vn.ownBlock=some g)(hl:nd.p.flight.length≤1000):
 Calls Tryz.prog 131 #[.pointer (some ⟨g,k*8+7,none⟩),.agg #[.int .u64 (c.1:Int),.int .u8 c.2]] w fun e w'=>e=.returned (.tuple #[])∧Hid (Zl w b D k (nd.p.send c) w'):=by
 obtain⟨av,cv,hv,_⟩:=(h.flight nd (List.mem_of_getElem? hnd)).form;have c3:w.cell? ⟨g,k*8+7,none⟩=some nd.fl:=h.nodeC hnd ho 7 (by omega) _ rfl;have hgl:g<w.heap.size:=World.block_lt_of_cell? w _ c3;obtain⟨l,hll⟩:∃l,l=nd.p.flight:=⟨_,rfl⟩;rw[hv,←hll]at c3;rw[←hll]at hl;have HD:=hid h;have HV:Hid (nd.fl=.slice av l.length cv):=by rw[hll];exact hv
 have HN:Hid (D.nodes[k]?=some nd∧D.vn.ownBlock=some g∧nd.p.flight=l):=⟨hnd,ho,hll.symm⟩;have a3:∀o:Obj,(w.alloc o).cell? ⟨g,k*8+7,none⟩=some (.slice av l.length cv):=fun o=>Zg c3;by_cases h12:12≤l.length
 · have HFU:Hid (∀o,Calls Tryz.prog 152 #[.pointer (some ⟨g,k*8+7,none⟩)] (w.alloc o) fun e w'=>e=.returned (.bool true)∧w.alloc o=w'):=fun o=>(Zgy (w.alloc o) g (k*8+7) av l.length cv (a3 o)).mono fun e w' hp=>⟨by rw[hp.1,decide_eq_true (by omega)],hp.2⟩;have HZ:Hid (∀W,Za (fun _=>False) w W→Zl w b D k (nd.p.send c) W):=fun W hW=>by
    rw[Zb.send,if_pos (by rw[←hll];exact h12)];exact Zl.of_kept h hnd hW
   clear h hv hnd ho hll;go_enter Tryz.func131,Tryz.ntmps131
   go_wp2_with (go_at_call 152;refine(HFU.out _).mono ?_;rintro e w1 ⟨rfl,rfl⟩)
   (try simp only[Exit.inBlock,Exit.then]);refine bodyPost_ret (results_none rfl _ _ _) rfl ?_
   exact⟨rfl,HZ.out _ (Za.alloc _ _ _)⟩
 · have HFU:Hid (∀o,Calls Tryz.prog 152 #[.pointer (some ⟨g,k*8+7,none⟩)] (w.alloc o) fun e w'=>e=.returned (.bool false)∧w.alloc o=w'):=fun o=>(Zgy (w.alloc o) g (k*8+7) av l.length cv (a3 o)).mono fun e w' hp=>⟨by rw[hp.1,decide_eq_false (by omega)],hp.2⟩;have HSE:Hid (nd.p.send c={nd.p with flight:=l++[c]}):=by show _=_;rw[Zb.send,if_neg (by rw[←hll];exact h12),←hll]
   clear h hv hnd ho hll a3;go_enter Tryz.func131,Tryz.ntmps131
   go_wp2_with (go_at_call 152;refine(HFU.out _).mono ?_;rintro e w1 ⟨rfl,rfl⟩)
   obtain⟨W,hW⟩:∃W,W=w.alloc (.cells #[.int .u64 (c.1:Int),.int .u8 c.2] 192):=⟨_,rfl⟩;have kW:Za (fun _=>False) w W:=by rw[hW];exact Za.alloc _ _ _
   have bW:Blk W w.heap.size 192 #[.int .u64 (c.1:Int),.int .u8 c.2]:=by rw[hW];exact Blk.new _ _ _
   rw[←hW];have HDW:Hid (Dev W b D):=HD.out.kept kW (fun _ _=>id);have HKW:=hid kW;have hgw:g<W.heap.size:=Nat.lt_of_lt_of_le hgl kW.size;have d3:=kW.hold c3;have z0:W.cell? ⟨w.heap.size,0,none⟩=some (.int .u64 (c.1:Int)):=bW.cell 0;have z1:W.cell? ⟨w.heap.size,1,none⟩=some (.int .u8 c.2):=bW.cell 1;clear hW kW bW c3;obtain⟨i0,hi,hz0,hz1,hz2⟩:=info_parts Tryz.infoSent;have HI:Hid (Tryz.prog.info? 192=some i0∧i0.zero=some (.agg #[.int .u64 0,.int .u8 0])∧i0.size=2∧i0.bytes=16):=⟨hi,hz0,hz1,hz2⟩;clear hi hz0 hz1 hz2;have qb:∀o:Obj,(W.alloc o).cell? ⟨g,k*8+7,none⟩=some (.slice av l.length cv):=fun o=>(World.cell?_alloc_past _ _ _ hgw).trans d3;have HROW:Hid (∀o:Obj,Row ((W.alloc o).drew) 192 2 (.slice av l.length cv) l.length (l.flatMap Zp)):=fun o=>by rw[←HV.out,←HN.out.2.2];exact(HDW.out.flight nd (List.mem_of_getElem? HN.out.1)).kept ((Za.alloc W o (fun _=>False)).drew) (fun _ _=>id)
   have HAP:Hid (∀(o:Obj)(w':World)(v':Value),Zc ((W.alloc o).drew) w' 192 2 (.slice av l.length cv) v' l.length 1 (l.flatMap Zp) (Zp c)→w'.cell? ⟨g,k*8+7,none⟩=some (.slice av l.length cv)∧w'.frozen? ⟨g,k*8+7,none⟩=false∧Hid (Zl w b D k (nd.p.send c) (w'.setCell ⟨g,k*8+7,none⟩ v'))):=fun o w' v' hA=>by
    obtain⟨q1,q2,q3⟩:=HDW.out.appIn HN.out.1 HN.out.2.1 3 ⟨192,2,nd.fl,nd.p.flight.length,nd.p.flight.flatMap Zp⟩ rfl HV.out ((Za.alloc W o (fun _=>False)).drew) hA;refine⟨by rw[←HV.out];exact q1 7 _ (by omega) rfl,q2 _,Zl.from HKW.out ⟨_,by rw[HSE.out],HDW.out.putFl HN.out.1 HN.out.2.1 (l++[c]) v' (by rw[HV.out];exact q3.kept) (Vc q3.row) (fun x hx=>by rw[HV.out];exact q3.new x hx)⟩⟩
   have b1:l.length+1≤maxLen:=by unfold maxLen;omega
   have b2:(l.length+1)*16≤140737488355328:=by omega
   go_region_law (refine Zw rfl (.tmp 10) (.tmp 12) 135 rfl 192 i0 (.agg #[.int .u64 0,.int .u8 0]) 2 16 Tryz.underlying135 HI.out.1 HI.out.2.1 HI.out.2.2.1 HI.out.2.2.2 rfl (Nat.succ_pos 1) (.slice av l.length cv) l.length (l.flatMap Zp) rfl (HROW.out _) ⟨W.heap.size,0,none⟩ 1 1 (Zp c) rfl rfl (fun j u hj=>Y8 W c _ j u hj) (Ys c) b1 b2 ?_;intro v' w' hA;obtain⟨p1,p2,p4⟩:=HAP.out _ _ _ hA;obtain⟨ao',cap',hv',_⟩:=hA.row.form;clear hA;subst hv')
   all_goals
    clear p1 p2 qb;go_wp2
    go_end0
    exact⟨rfl,p4⟩
def Zb3 (w:World)(b:Nat)(D:Ze)(k:Nat)(p:Zb)(i:Int)(e:Ending)(w':World):Prop:=
 ((i<0∨(p.flight.length:Int)≤i)∧e=.returned (.int .i64 10)∧w=w')∨
 (∃(j:Nat)(x:Nat×Int),i=(j:Int)∧p.flight[j]?=some x∧((12≤p.flight.length∧e=.returned (.int .i64 6)∧w=w')∨(p.flight.length<12∧e=.returned (.int .i64 0)∧Hid (Zl w b D k (p.copy x) w'))))
theorem dcopyf (w:World)(b k g:Nat)(D:Ze)(nd:Zn)(i:Int)(h:Dev w b D)(hnd:D.nodes[k]?=some nd)(ho:D.vn.ownBlock=some g)(hl:nd.p.flight.length≤1000):
 Calls Tryz.prog 117 #[.pointer (some ⟨g,k*8+7,none⟩),.int .i64 i] w fun e w'=>Zb3 w b D k nd.p i e w':=by
 obtain⟨av,cv,hv,hp⟩:=(h.flight nd (List.mem_of_getElem? hnd)).pairs;have c3:w.cell? ⟨g,k*8+7,none⟩=some nd.fl:=h.nodeC hnd ho 7 (by omega) _ rfl;have f3:w.frozen? ⟨g,k*8+7,none⟩=false:=h.nodeF ho _;have hgl:g<w.heap.size:=World.block_lt_of_cell? w _ c3;obtain⟨l,hll⟩:∃l,l=nd.p.flight:=⟨_,rfl⟩;rw[hv,←hll]at c3;rw[←hll]at hl;have HPO:Hid (∀e w',(((i<0∨(l.length:Int)≤i)∧e=.returned (.int .i64 10)∧w=w')∨(∃(j:Nat)(x:Nat×Int),i=(j:Int)∧l[j]?=some x∧((12≤l.length∧e=.returned (.int .i64 6)∧w=w')∨(l.length<12∧e=.returned (.int .i64 0)∧Hid (Zl w b D k (nd.p.copy x) w')))))→Zb3 w b D k nd.p i e w'):=fun e w' hh=>by rw[hll]at hh;exact hh
 by_cases h0:i<0
 · have hd:decide (i<0)=true:=by simpa using h0
   clear h hv hnd ho hll hp;go_enter Tryz.func117,Tryz.ntmps117;go_wp2;go_ret;exact HPO.out _ _ (.inl ⟨.inl h0,rfl,rfl⟩)
 · have hd:decide (i<0)=false:=by simpa using h0
   by_cases h1:(l.length:Int)≤i
   · clear h hv hnd ho hll hp;go_enter Tryz.func117,Tryz.ntmps117;go_wp2;go_ret;exact HPO.out _ _ (.inl ⟨.inr h1,rfl,rfl⟩)
   · obtain⟨j,rfl⟩:∃j:Nat,i=j:=⟨i.toNat,by omega⟩;have hj:j<l.length:=by omega
     have hd2:decide (l.length≤j)=false:=by simp;omega
     have HD:=hid h;have HV:Hid (nd.fl=.slice av l.length cv):=by rw[hll];exact hv
     have HN:Hid (D.nodes[k]?=some nd∧D.vn.ownBlock=some g∧nd.p.flight=l):=⟨hnd,ho,hll.symm⟩;have hpj:∀j (hj:j<l.length),∃gw,av=some ⟨gw,0,none⟩∧gw<w.heap.size∧w.cell? ⟨gw,j*2,none⟩=some (.int .u64 (l[j].1:Int))∧w.cell? ⟨gw,j*2+1,none⟩=some (.int .u8 l[j].2):=by rw[hll];exact hp
     obtain⟨gw,hao,hgw,z0,z1⟩:=hpj j hj;obtain⟨x,hx⟩:∃x,x=l[j]:=⟨_,rfl⟩;rw[←hx]at z0 z1;have HX:Hid (l[j]?=some x):=by show _=_;rw[hx];exact List.getElem?_eq_getElem hj
     subst hao;by_cases h12:12≤l.length
     · have HFU:Hid (Calls Tryz.prog 152 #[.pointer (some ⟨g,k*8+7,none⟩)] w fun e w'=>e=.returned (.bool true)∧w=w'):=(Zgy w g (k*8+7) _ l.length cv c3).mono fun e w' hp=>⟨by rw[hp.1,decide_eq_true (by omega)],hp.2⟩;clear h hv hnd ho hll hp hpj hx;go_enter Tryz.func117,Tryz.ntmps117
       go_wp2_with (go_at_call 152;refine HFU.out.mono ?_;rintro e w1 ⟨rfl,rfl⟩)
       go_ret;exact HPO.out _ _ (.inr ⟨j,x,rfl,HX.out,.inl ⟨h12,rfl,rfl⟩⟩)
     · have HFU:Hid (Calls Tryz.prog 152 #[.pointer (some ⟨g,k*8+7,none⟩)] w fun e w'=>e=.returned (.bool false)∧w=w'):=(Zgy w g (k*8+7) _ l.length cv c3).mono fun e w' hp=>⟨by rw[hp.1,decide_eq_false (by omega)],hp.2⟩;have HSE:Hid (nd.p.copy x={nd.p with flight:=l++[x]}):=by show _=_;rw[Zb.copy,←hll]
       obtain⟨i0,hi,hz0,hz1,hz2⟩:=info_parts Tryz.infoSent;have HI:Hid (Tryz.prog.info? 192=some i0∧i0.zero=some (.agg #[.int .u64 0,.int .u8 0])∧i0.size=2∧i0.bytes=16):=⟨hi,hz0,hz1,hz2⟩;have qb:∀o:Obj,(w.alloc o).cell? ⟨g,k*8+7,none⟩=some (.slice (some ⟨gw,0,none⟩) l.length cv):=fun o=>(World.cell?_alloc_past _ _ _ hgl).trans c3;have HROW:Hid (∀o:Obj,Row ((w.alloc o).drew) 192 2 (.slice (some ⟨gw,0,none⟩) l.length cv) l.length (l.flatMap Zp)):=fun o=>by rw[←HV.out,←HN.out.2.2];exact(HD.out.flight nd (List.mem_of_getElem? HN.out.1)).kept ((Za.alloc w o (fun _=>False)).drew) (fun _ _=>id)
       have HAP:Hid (∀(o:Obj)(w':World)(v':Value),Zc ((w.alloc o).drew) w' 192 2 (.slice (some ⟨gw,0,none⟩) l.length cv) v' l.length 1 (l.flatMap Zp) (Zp x)→w'.cell? ⟨g,k*8+7,none⟩=some (.slice (some ⟨gw,0,none⟩) l.length cv)∧w'.frozen? ⟨g,k*8+7,none⟩=false∧Hid (Zl w b D k (nd.p.copy x) (w'.setCell ⟨g,k*8+7,none⟩ v'))):=fun o w' v' hA=>by
        obtain⟨q1,q2,q3⟩:=HD.out.appIn HN.out.1 HN.out.2.1 3 ⟨192,2,nd.fl,nd.p.flight.length,nd.p.flight.flatMap Zp⟩ rfl HV.out ((Za.alloc w o (fun _=>False)).drew) hA;refine⟨by rw[←HV.out];exact q1 7 _ (by omega) rfl,q2 _,⟨_,by rw[HSE.out],HD.out.putFl HN.out.1 HN.out.2.1 (l++[x]) v' (by rw[HV.out];exact q3.kept) (Vc q3.row) (fun x hx=>by rw[HV.out];exact q3.new x hx)⟩⟩
       have b1:l.length+1≤maxLen:=by unfold maxLen;omega
       have b2:(l.length+1)*16≤140737488355328:=by omega
       have hj0:(0:Int)≤(j:Int):=by omega
       have hj1:(j:Int)<(l.length:Int):=by omega
       clear h hv hnd ho hll hp hpj hx hi hz0 hz1 hz2;go_enter Tryz.func117,Tryz.ntmps117
       go_wp2_with (go_at_call 152;refine HFU.out.mono ?_;rintro e w1 ⟨rfl,rfl⟩)
       go_region_law (refine Zw rfl (.tmp 22) (.tmp 30) 135 rfl 192 i0 (.agg #[.int .u64 0,.int .u8 0]) 2 16 Tryz.underlying135 HI.out.1 HI.out.2.1 HI.out.2.2.1 HI.out.2.2.2 rfl (Nat.succ_pos 1) (.slice (some ⟨gw,0,none⟩) l.length cv) l.length (l.flatMap Zp) rfl (HROW.out _) ⟨w.heap.size,0,none⟩ 1 1 (Zp x) rfl rfl (fun j u hj=>Y8 w x _ j u hj) (Ys x) b1 b2 ?_;intro v' w' hA;obtain⟨p1,p2,p4⟩:=HAP.out _ _ _ hA;obtain⟨ao',cap',hv',_⟩:=hA.row.form;clear hA;subst hv')
       all_goals
        clear p1 p2 qb;go_wp2;go_ret;exact HPO.out _ _ (.inr ⟨j,x,rfl,HX.out,.inr ⟨by omega,rfl,p4⟩⟩)
theorem Zkd (w:World)(b k g:Nat)(D:Ze)(nd:Zn)(t:Nat)(K:Int)(h:Dev w b D)(hnd:D.nodes[k]?=some nd)(ho:D.vn.ownBlock=some g)(hok:nd.p.Ok 900000)(ht:t≤1000000):
 Calls Tryz.prog 112 #[.pointer (some ⟨g,k*8,none⟩),.int .u64 t,.int .u8 K] w fun e w'=>e=.returned (.tuple #[])∧Hid (Zl w b D k (nd.p.arrive t K) w'):=by
 have c0:w.cell? ⟨g,k*8,none⟩=some (.bool nd.p.up):=h.nodeC hnd ho 0 (by omega) _ rfl;have c2:w.cell? ⟨g,k*8+2,none⟩=some (.int .u64 (nd.p.horizon:Int)):=h.nodeC hnd ho 2 (by omega) _ rfl;have c4:w.cell? ⟨g,k*8+4,none⟩=some nd.wt:=h.nodeC hnd ho 4 (by omega) _ rfl;have hgl:g<w.heap.size:=World.block_lt_of_cell? w _ c4;have HW:Hid (Calls Tryz.prog 151 #[.pointer (some ⟨g,k*8,none⟩),.int .u64 t] w fun e w'=>e=.returned (.bool (ZB nd.p.waits t))∧Za (fun _=>False) w w'):=Ziy w g (k*8) nd.wt nd.p.waits t c4 (h.waits nd (List.mem_of_getElem? hnd)) hok.wl;have HH:Hid (Calls Tryz.prog 121 #[.pointer (some ⟨g,k*8,none⟩),.int .u8 K] w fun e w'=>e=.returned (.tuple #[])∧Hid (Zl w b D k (nd.p.hear K) w')):=dHear w b k g D nd K h hnd ho hok;have hz:=hok.hz;have hwl:=hok.wl;have HS:Hid (∀W,Za (fun _=>False) w W→nd.p.arrive t K=nd.p→Zl w b D k (nd.p.arrive t K) W):=fun W hW e=>by rw[e];exact Zl.of_kept h hnd hW
 obtain⟨u,hu⟩:∃u,u=nd.p.up:=⟨_,rfl⟩;obtain⟨z,hzz⟩:∃z,z=nd.p.horizon:=⟨_,rfl⟩;have HE:Hid (nd.p.arrive t K=if u=false∨t≤z then nd.p else if t=z+1 then nd.p.hear K else if z+5<t∨ZB nd.p.waits t=true then nd.p else {nd.p with waits:=nd.p.waits++[(t,K)]}):=by rw[hu,hzz];rfl
 obtain⟨av,cv,hv,_⟩:=(h.waits nd (List.mem_of_getElem? hnd)).form;have HD:=hid h;obtain⟨l,hll⟩:∃l,l=nd.p.waits:=⟨_,rfl⟩;have HV:Hid (nd.wt=.slice av l.length cv):=by rw[hll];exact hv
 have HN:Hid (D.nodes[k]?=some nd∧D.vn.ownBlock=some g∧nd.p.waits=l):=⟨hnd,ho,hll.symm⟩;rw[hv,←hll]at c4;rw[←hll]at HW HE hwl;rw[←hu]at c0;rw[←hzz]at c2 hz;clear h hnd ho hok hu hzz hv hll;cases u with
 |false=>
  go_enter Tryz.func112,Tryz.ntmps112;go_wp2
  (try simp only[Exit.inBlock,Exit.then]);refine bodyPost_ret (results_none rfl _ _ _) rfl ?_
  exact⟨rfl,HS.out _ (Za.refl _ _) (by rw[HE.out];simp)⟩
 |true=>
  by_cases h1:t≤z
  · have h1':(t:Int)≤(z:Int):=by omega
    go_enter Tryz.func112,Tryz.ntmps112;go_wp2
    (try simp only[Exit.inBlock,Exit.then]);refine bodyPost_ret (results_none rfl _ _ _) rfl ?_
    exact⟨rfl,HS.out _ (Za.refl _ _) (by rw[HE.out];simp[h1])⟩
  · have h1':(z:Int)<(t:Int):=by omega
    have h1'':¬(t:Int)≤(z:Int):=by omega
    by_cases h2:t=z+1
    · have hb:((t:Int)-(z:Int)-1==0)=true:=beq_iff_eq.mpr (by omega);have HZ:Hid (nd.p.arrive t K=nd.p.hear K):=by show _=_;rw[HE.out,if_neg (by simp;omega),if_pos h2]
      clear h2;go_enter Tryz.func112,Tryz.ntmps112
      go_wp2_with (go_at_call 121;refine HH.out.mono ?_;rintro e w1 ⟨rfl,hT⟩)
      (try simp only[Exit.inBlock,Exit.then]);refine bodyPost_ret (results_none rfl _ _ _) rfl ?_
      exact⟨rfl,by rw[HZ.out];exact hT⟩
    · have hb:((t:Int)-(z:Int)-1==0)=false:=beq_eq_false_iff_ne.mpr (by omega);by_cases h3:z+5<t
      · have h3':(4:Int)<(t:Int)-(z:Int)-1:=by omega
        have hd3:decide ((4:Int)<(t:Int)-(z:Int)-1)=true:=by simpa using h3'
        have HZ:Hid (nd.p.arrive t K=nd.p):=by show _=_;rw[HE.out,if_neg (by simp;omega),if_neg h2,if_pos (.inl h3)]
        clear h2;go_enter Tryz.func112,Tryz.ntmps112;go_wp2
        (try simp only[Exit.inBlock,Exit.then]);refine bodyPost_ret (results_none rfl _ _ _) rfl ?_
        exact⟨rfl,HS.out _ (Za.refl _ _) HZ.out⟩
      · have h3':¬(4:Int)<(t:Int)-(z:Int)-1:=by omega
        have hd3:decide ((4:Int)<(t:Int)-(z:Int)-1)=false:=by simpa using h3'
        cases hwb:ZB l t with
        |true=>
         rw[hwb]at HW;have HZ:Hid (nd.p.arrive t K=nd.p):=by show _=_;rw[HE.out,if_neg (by simp;omega),if_neg h2,if_pos (.inr hwb)]
         clear h2 hwb;go_enter Tryz.func112,Tryz.ntmps112
         go_wp2_with (go_at_call 151;refine HW.out.mono ?_;rintro e w1 ⟨rfl,hk1⟩)
         (try simp only[Exit.inBlock,Exit.then]);refine bodyPost_ret (results_none rfl _ _ _) rfl ?_
         exact⟨rfl,HS.out _ hk1 HZ.out⟩
        |false=>
         rw[hwb]at HW;have HZ:Hid (nd.p.arrive t K={nd.p with waits:=l++[(t,K)]}):=by show _=_;rw[HE.out,if_neg (by simp;omega),if_neg h2,if_neg (by rw[hwb];simp;omega)]
         obtain⟨i0,hi,hz0,hz1,hz2⟩:=info_parts Tryz.infoHist;have HI:Hid (Tryz.prog.info? 244=some i0∧i0.zero=some (.agg #[.int .u64 0,.int .u8 0])∧i0.size=2∧i0.bytes=16):=⟨hi,hz0,hz1,hz2⟩;have HROW:Hid (∀W (o:Obj),Za (fun _=>False) w W→Row (W.alloc o) 244 2 (.slice av l.length cv) l.length (l.flatMap Zp)):=fun W o hW=>by rw[←HV.out,←HN.out.2.2];exact(HD.out.waits nd (List.mem_of_getElem? HN.out.1)).kept (hW.allocNew o) (fun _ _=>id)
         have HAP:Hid (∀(W:World)(o:Obj)(w':World)(v':Value),Za (fun _=>False) w W→Zc (W.alloc o) w' 244 2 (.slice av l.length cv) v' l.length 1 (l.flatMap Zp) (Zp (t,K))→w'.cell? ⟨g,k*8+4,none⟩=some (.slice av l.length cv)∧w'.frozen? ⟨g,k*8+4,none⟩=false∧Hid (Zl w b D k (nd.p.arrive t K) (w'.setCell ⟨g,k*8+4,none⟩ v'))):=fun W o w' v' hW hA=>by
          obtain⟨q1,q2,q3⟩:=HD.out.appIn HN.out.1 HN.out.2.1 1 ⟨244,2,nd.wt,nd.p.waits.length,nd.p.waits.flatMap Zp⟩ rfl HV.out (hW.allocNew o) hA;refine⟨by rw[←HV.out];exact q1 4 _ (by omega) rfl,q2 _,⟨_,by rw[HZ.out],HD.out.putWaits HN.out.1 HN.out.2.1 (l++[(t,K)]) v' (by rw[HV.out];exact q3.kept) (Vc q3.row) (fun x hx=>by rw[HV.out];exact q3.new x hx)⟩⟩
         have b1:l.length+1≤maxLen:=by unfold maxLen;omega
         have b2:(l.length+1)*16≤140737488355328:=by omega
         clear h2 hwb hi hz0 hz1 hz2;go_enter Tryz.func112,Tryz.ntmps112
         go_wp2_with first
          |(go_at_call 151;refine HW.out.mono ?_;rintro e w1 ⟨rfl,hk1⟩;have d4:=hk1.hold c4;have HK1:Hid (Za (fun _=>False) w w1):=hk1;clear hk1)
          |(at_builtin;go_must (refine Zf _ rfl (.tmp 43) (.tmp 47) 130 rfl 244 i0 (.agg #[.int .u64 0,.int .u8 0]) 2 16 Tryz.underlying130 HI.out.1 HI.out.2.1 HI.out.2.2.1 HI.out.2.2.2 rfl (by decide) (.slice av l.length cv) l.length _ rfl (HROW.out _ _ HK1.out) ⟨w1.heap.size,0,none⟩ 1 1 (Zp (t,K)) rfl rfl (fun j u hj=>Y8 w1 (t,K) _ j u hj) (Ys (t,K)) b1 b2 ?_);intro v' w2 hA;obtain⟨p1,p2,p4⟩:=HAP.out _ _ _ _ HK1.out hA;obtain⟨ao',cap',hv',_⟩:=hA.row.form;clear hA;subst hv')
         go_end0
         exact⟨rfl,p4⟩
theorem dlay (w:World)(b k g:Nat)(D:Ze)(nd:Zn)(e:Zh)(h:Dev w b D)(hnd:D.nodes[k]?=some nd)(ho:D.vn.ownBlock=some g)(hl:nd.p.ents.length≤900)(hr1:1≤nd.p.room)(hr2:nd.p.room≤1000)(hu:nd.p.uses<9223372036854775808):
 Calls Tryz.prog 145 #[.pointer (some ⟨g,k*8,none⟩),.agg #[.string e.q,.int .i32 e.val,.int .u64 (e.fr:Int),.int .u64 (e.till:Int),.bool e.op,.int .u64 (e.kn:Int)]] w fun e' w'=>e'=.returned (.tuple #[])∧Hid (Zl w b D k (nd.p.lay e) w'):=by
 have HN:Hid (D.nodes[k]?=some nd∧D.vn.ownBlock=some g):=⟨hnd,ho⟩;obtain⟨ae,ce,hve,_⟩:=(h.ents nd (List.mem_of_getElem? hnd)).form;have c5:w.cell? ⟨g,k*8+5,none⟩=some (.slice ae nd.p.ents.length ce):=by rw[←hve];exact h.nodeC hnd ho 5 (by omega) _ rfl
 have c1:w.cell? ⟨g,k*8+1,none⟩=some (.int .i64 nd.p.room):=h.nodeC hnd ho 1 (by omega) _ rfl;have hgl:g<w.heap.size:=World.block_lt_of_cell? w _ c5;have HLT:Hid (∀j,D.fp b j→j<w.heap.size):=h.lt;obtain⟨i0,hi,hz0,hz1,hz2⟩:=info_parts Tryz.infoHeld;have HI:Hid (Tryz.prog.info? 227=some i0∧i0.zero=some (.agg #[.string ByteArray.empty,.int .i32 0,.int .u64 0,.int .u64 0,.bool false,.int .u64 0,.int .u64 0])∧i0.size=7∧i0.bytes=64):=⟨hi,hz0,hz1,hz2⟩;have HB0:Hid (Blk (w.alloc (.cells #[.string e.q,.int .i32 e.val,.int .u64 (e.fr:Int),.int .u64 (e.till:Int),.bool e.op,.int .u64 (e.kn:Int)] 55)) w.heap.size 55 #[.string e.q,.int .i32 e.val,.int .u64 (e.fr:Int),.int .u64 (e.till:Int),.bool e.op,.int .u64 (e.kn:Int)]):=Blk.new _ _ _;have HDA:Hid (∀W,Za (fun _=>False) w W→Dev W b D):=fun W hW=>h.kept hW (fun _ _=>id);clear hi hz0 hz1 hz2 hve;by_cases hf:nd.p.room≤(nd.p.ents.length:Int)
 · have hd:decide (nd.p.room≤(nd.p.ents.length:Int))=true:=by simpa using hf
   have HLW:Hid (∀W,Za (fun _=>False) w W→Calls Tryz.prog 162 #[.pointer (some ⟨g,k*8,none⟩)] W fun e w'=>e=.returned (.int .i64 (ZE nd.p.ents nd.p.ents.length:Int))∧Za (fun _=>False) W w'):=fun W hW=>dleast W b k g D nd (HDA.out W hW) hnd ho (by omega) (by omega);have HRM:Hid (∀W,Za (fun _=>False) w W→Calls Tryz.prog 149 #[.pointer (some ⟨g,k*8,none⟩),.int .i64 (ZE nd.p.ents nd.p.ents.length:Int)] W fun e w'=>e=.returned (.tuple #[])∧Hid (Zl W b D k (nd.p.remove (ZE nd.p.ents nd.p.ents.length)) w')):=fun W hW=>ZgU W b k g D nd _ (HDA.out W hW) hnd ho (by omega);have HLAY:Hid (nd.p.lay e=(nd.p.remove (ZE nd.p.ents nd.p.ents.length)).lay0 e):=by show _=_;rw[Zb.lay,if_pos hf]
   have hlen:(nd.p.remove (ZE nd.p.ents nd.p.ents.length)).ents.length≤1000:=by
    have:=List.length_eraseIdx_le nd.p.ents (ZE nd.p.ents nd.p.ents.length);show(nd.p.ents.eraseIdx _).length≤1000;omega
   have HLEN:=hid hlen;generalize ZE nd.p.ents nd.p.ents.length=li at*
   clear h hnd ho hlen;go_enter Tryz.func145,Tryz.ntmps145
   go_wp2_with fail
   generalize hW:w.alloc (.cells #[.string e.q,.int .i32 e.val,.int .u64 (e.fr:Int),.int .u64 (e.till:Int),.bool e.op,.int .u64 (e.kn:Int)] 55)=W at HB0⊢;have kW:Za (fun _=>False) w W:=by rw[←hW];exact Za.alloc _ _ _
   have d5:=kW.hold c5;have d1:=kW.hold c1;have HKW:=hid kW;clear hW kW
   go_quiet (fail)
   go_wp2_with first
    |(go_at_call 162;refine(HLW.out _ (HKW.out.drewN _)).mono ?_;rintro e2 w1 ⟨rfl,hk1⟩;have HK1:Hid (Za (fun _=>False) w w1∧Blk w1 w.heap.size 55 #[.string e.q,.int .i32 e.val,.int .u64 (e.fr:Int),.int .u64 (e.till:Int),.bool e.op,.int .u64 (e.kn:Int)]):=⟨(HKW.out.drewN _).trans hk1 (fun _=>id) (fun _ _=>id),HB0.out.kept ((Za.refl (fun _=>False) W).drewN _ |>.trans hk1 (fun _=>id) (fun _ _=>id)) id⟩;clear hk1)
    |(go_at_call 149;refine(HRM.out _ HK1.out.1).mono ?_;rintro e2 W1 ⟨rfl,hT1⟩;have HT1:Hid (Zl w b D k (nd.p.remove li) W1):=Zl.from HK1.out.1 hT1.out;have HBX:Hid (Blk W1 w.heap.size 55 #[.string e.q,.int .i32 e.val,.int .u64 (e.fr:Int),.int .u64 (e.till:Int),.bool e.op,.int .u64 (e.kn:Int)]):=(by obtain⟨_,_,hx⟩:=hT1.out;exact HK1.out.2.kept hx.2.1 (fun hh=>absurd (HLT.out _ hh) (Nat.lt_irrefl _)));clear hT1;skip;obtain⟨nd1,e1,hb1⟩:=HT1.out;have hn1:=ZY nd1 HN.out.1;have u6:W1.cell? ⟨g,k*8+6,none⟩=some (.int .u64 (nd.p.uses:Int)):=(by have:=hb1.1.nodeC hn1 HN.out.2 6 (by omega) _ rfl;rw[e1]at this;exact this);have g6:W1.frozen? ⟨g,k*8+6,none⟩=false:=hb1.1.nodeF HN.out.2 _;have hgW:g<W1.heap.size:=World.block_lt_of_cell? W1 _ u6;clear e1 hb1 hn1)
   obtain⟨nd1,e1,hb1⟩:=HT1.out;have hn1:=ZY nd1 HN.out.1;have u6:W1.cell? ⟨g,k*8+6,none⟩=some (.int .u64 (nd.p.uses:Int)):=by have:=hb1.1.nodeC hn1 HN.out.2 6 (by omega) _ rfl;rw[e1]at this;exact this
   have g6:W1.frozen? ⟨g,k*8+6,none⟩=false:=hb1.1.nodeF HN.out.2 _;have hb2:=hb1.1.cellN hn1 HN.out.2 6 (by omega) (.int .u64 ((nd.p.uses:Int)+1)) (y:={nd1 with p:={nd1.p with uses:=nd.p.uses+1}}) rfl rfl;rw[ZJ]at hb2;have hb3:=hb1.trans hb2;obtain⟨nd2,hnd2⟩:∃nd2:Zn,nd2={nd1 with p:={nd1.p with uses:=nd.p.uses+1}}:=⟨_,rfl⟩;rw[←hnd2]at hb3;have hn2:=ZY nd2 HN.out.1;have bx:=HBX.out.kept (Za.setCell W1 ⟨g,k*8+6,none⟩ (.int .u64 ((nd.p.uses:Int)+1))) (by simp only;omega)
   go_wp2_with fail
   generalize W1.setCell ⟨g,k*8+6,none⟩ (.int .u64 ((nd.p.uses:Int)+1))=W2 at hb3 bx⊢;obtain⟨l,hll⟩:∃l,l=nd2.p.ents:=⟨_,rfl⟩;obtain⟨av,cv,hv,_⟩:=(hb3.1.ents nd2 (List.mem_of_getElem? hn2)).form;rw[←hll]at hv;have hln:l.length≤1000:=by rw[hll,hnd2];exact(by rw[e1];exact HLEN.out)
   have d5:W2.cell? ⟨g,k*8+5,none⟩=some (.slice av l.length cv):=by rw[←hv];exact hb3.1.nodeC hn2 HN.out.2 5 (by omega) _ rfl
   have d6:W2.cell? ⟨g,k*8+6,none⟩=some (.int .u64 ((nd.p.uses:Int)+1)):=by have:=hb3.1.nodeC hn2 HN.out.2 6 (by omega) _ rfl;rw[hnd2]at this;exact this
   have z0:W2.cell? ⟨w.heap.size,0,none⟩=some (.string e.q):=bx.cell 0;have z1:W2.cell? ⟨w.heap.size,1,none⟩=some (.int .i32 e.val):=bx.cell 1;have z2:W2.cell? ⟨w.heap.size,2,none⟩=some (.int .u64 (e.fr:Int)):=bx.cell 2;have z3:W2.cell? ⟨w.heap.size,3,none⟩=some (.int .u64 (e.till:Int)):=bx.cell 3;have z4:W2.cell? ⟨w.heap.size,4,none⟩=some (.bool e.op):=bx.cell 4;have z5:W2.cell? ⟨w.heap.size,5,none⟩=some (.int .u64 (e.kn:Int)):=bx.cell 5;have hg2:g<W2.heap.size:=World.block_lt_of_cell? W2 _ d5;have qb:∀o:Obj,(W2.alloc o).cell? ⟨g,k*8+5,none⟩=some (.slice av l.length cv):=fun o=>Zg d5;have HROW:Hid (∀o:Obj,Row ((W2.alloc o).drew) 227 7 (.slice av l.length cv) l.length (l.flatMap Go.Proofs.YtpfcacedpkaihaaGreat.heldC)):=fun o=>by rw[←hv,hll];exact(hb3.1.ents nd2 (List.mem_of_getElem? hn2)).kept ((Za.alloc W2 o (fun _=>False)).drew) (fun _ _=>id)
   have HAP:Hid (∀(o:Obj)(w':World)(v':Value),Zc ((W2.alloc o).drew) w' 227 7 (.slice av l.length cv) v' l.length 1 (l.flatMap Go.Proofs.YtpfcacedpkaihaaGreat.heldC) (Go.Proofs.YtpfcacedpkaihaaGreat.heldC ⟨e,nd.p.uses+1⟩)→w'.cell? ⟨g,k*8+5,none⟩=some (.slice av l.length cv)∧w'.frozen? ⟨g,k*8+5,none⟩=false∧Hid (Zl w b D k (nd.p.lay e) (w'.setCell ⟨g,k*8+5,none⟩ v'))):=fun o w' v' hA=>by
    obtain⟨q1,q2,q3⟩:=hb3.1.appIn hn2 HN.out.2 2 ⟨227,7,nd2.en,nd2.p.ents.length,nd2.p.ents.flatMap Go.Proofs.YtpfcacedpkaihaaGreat.heldC⟩ rfl hv ((Za.alloc W2 o (fun _=>False)).drew) hA;have s:=hb3.1.putEnts hn2 HN.out.2 (l++[⟨e,nd.p.uses+1⟩]) v' (by rw[hv];exact q3.kept) (Vc q3.row) (fun x hx=>by rw[hv];exact q3.new x hx);rw[ZJ]at s;refine⟨by rw[←hv];exact q1 5 _ (by omega) rfl,q2 _,⟨_,?_,hb3.trans s⟩⟩;rw[HLAY.out,hll,hnd2];dsimp only;rw[e1];rfl
   have b1:l.length+1≤maxLen:=by unfold maxLen;omega
   have b2:(l.length+1)*64≤140737488355328:=by omega
   clear hb1 hb2 hb3 hn1 hn2 bx hv hll hnd2 e1 u6 g6
   go_region_law (refine Zw rfl (.tmp 31) (.tmp 38) 131 rfl 227 i0 (.agg #[.string ByteArray.empty,.int .i32 0,.int .u64 0,.int .u64 0,.bool false,.int .u64 0,.int .u64 0]) 7 64 Tryz.underlying131 HI.out.1 HI.out.2.1 HI.out.2.2.1 HI.out.2.2.2 rfl (Nat.succ_pos 6) (.slice av l.length cv) l.length (l.flatMap Go.Proofs.YtpfcacedpkaihaaGreat.heldC) rfl (HROW.out _) ⟨W2.heap.size,0,none⟩ 1 1 (Go.Proofs.YtpfcacedpkaihaaGreat.heldC ⟨e,nd.p.uses+1⟩) rfl rfl (fun j u hj=>Za5 W2 ⟨e,nd.p.uses+1⟩ _ j u hj) (VQ ⟨e,nd.p.uses+1⟩) b1 b2 ?_;intro v' w' hA;obtain⟨p1,p2,p4⟩:=HAP.out _ _ _ hA;obtain⟨ao',cap',hv',_⟩:=hA.row.form;clear hA;subst hv')
   all_goals
    clear p1 p2 qb;go_wp2
    go_end0
    exact⟨rfl,p4⟩
 · have hd:decide (nd.p.room≤(nd.p.ents.length:Int))=false:=by simpa using hf
   have HLAY:Hid (nd.p.lay e=nd.p.lay0 e):=by show _=_;rw[Zb.lay,if_neg hf]
   have HLEN:Hid (nd.p.ents.length≤1000):=by show _≤_;omega
   have HTK:Hid (∀W,Za (fun _=>False) w W→Zl w b D k nd.p W):=fun W hW=>Zl.of_kept h hnd hW;have c6:w.cell? ⟨g,k*8+6,none⟩=some (.int .u64 (nd.p.uses:Int)):=h.nodeC hnd ho 6 (by omega) _ rfl;have HF6:Hid (∀W,Za (fun _=>False) w W→W.frozen? ⟨g,k*8+6,none⟩=false):=fun W hW=>(HDA.out W hW).nodeF ho _;clear h hnd ho;go_enter Tryz.func145,Tryz.ntmps145
   go_wp2_with fail
   generalize hW:w.alloc (.cells #[.string e.q,.int .i32 e.val,.int .u64 (e.fr:Int),.int .u64 (e.till:Int),.bool e.op,.int .u64 (e.kn:Int)] 55)=W at HB0⊢;have kW:Za (fun _=>False) w W:=by rw[←hW];exact Za.alloc _ _ _
   have d5:=kW.hold c5;have d1:=kW.hold c1;have u6':=kW.hold c6;have g6':=HF6.out W kW;have hsz:w.heap.size<W.heap.size:=by rw[←hW];simp
   have HKW:=hid kW;clear hW kW
   go_quiet (fail)
   have HT1:Hid (Zl w b D k nd.p (W.drewN nq)):=HTK.out _ (HKW.out.drewN _);have HBX:Hid (Blk (W.drewN nq) w.heap.size 55 #[.string e.q,.int .i32 e.val,.int .u64 (e.fr:Int),.int .u64 (e.till:Int),.bool e.op,.int .u64 (e.kn:Int)]):=HB0.out;generalize W.drewN nq=W1 at HT1 HBX⊢;clear d5 d1 u6' g6';obtain⟨nd1,e1,hb1⟩:=HT1.out;have hn1:=ZY nd1 HN.out.1;have u6:W1.cell? ⟨g,k*8+6,none⟩=some (.int .u64 (nd.p.uses:Int)):=by have:=hb1.1.nodeC hn1 HN.out.2 6 (by omega) _ rfl;rw[e1]at this;exact this
   have g6:W1.frozen? ⟨g,k*8+6,none⟩=false:=hb1.1.nodeF HN.out.2 _;have hb2:=hb1.1.cellN hn1 HN.out.2 6 (by omega) (.int .u64 ((nd.p.uses:Int)+1)) (y:={nd1 with p:={nd1.p with uses:=nd.p.uses+1}}) rfl rfl;rw[ZJ]at hb2;have hb3:=hb1.trans hb2;obtain⟨nd2,hnd2⟩:∃nd2:Zn,nd2={nd1 with p:={nd1.p with uses:=nd.p.uses+1}}:=⟨_,rfl⟩;rw[←hnd2]at hb3;have hn2:=ZY nd2 HN.out.1;have bx:=HBX.out.kept (Za.setCell W1 ⟨g,k*8+6,none⟩ (.int .u64 ((nd.p.uses:Int)+1))) (by simp only;omega)
   go_wp2_with fail
   generalize W1.setCell ⟨g,k*8+6,none⟩ (.int .u64 ((nd.p.uses:Int)+1))=W2 at hb3 bx⊢;obtain⟨l,hll⟩:∃l,l=nd2.p.ents:=⟨_,rfl⟩;obtain⟨av,cv,hv,_⟩:=(hb3.1.ents nd2 (List.mem_of_getElem? hn2)).form;rw[←hll]at hv;have hln:l.length≤1000:=by rw[hll,hnd2];exact(by rw[e1];exact HLEN.out)
   have d5:W2.cell? ⟨g,k*8+5,none⟩=some (.slice av l.length cv):=by rw[←hv];exact hb3.1.nodeC hn2 HN.out.2 5 (by omega) _ rfl
   have d6:W2.cell? ⟨g,k*8+6,none⟩=some (.int .u64 ((nd.p.uses:Int)+1)):=by have:=hb3.1.nodeC hn2 HN.out.2 6 (by omega) _ rfl;rw[hnd2]at this;exact this
   have z0:W2.cell? ⟨w.heap.size,0,none⟩=some (.string e.q):=bx.cell 0;have z1:W2.cell? ⟨w.heap.size,1,none⟩=some (.int .i32 e.val):=bx.cell 1;have z2:W2.cell? ⟨w.heap.size,2,none⟩=some (.int .u64 (e.fr:Int)):=bx.cell 2;have z3:W2.cell? ⟨w.heap.size,3,none⟩=some (.int .u64 (e.till:Int)):=bx.cell 3;have z4:W2.cell? ⟨w.heap.size,4,none⟩=some (.bool e.op):=bx.cell 4;have z5:W2.cell? ⟨w.heap.size,5,none⟩=some (.int .u64 (e.kn:Int)):=bx.cell 5;have hg2:g<W2.heap.size:=World.block_lt_of_cell? W2 _ d5;have qb:∀o:Obj,(W2.alloc o).cell? ⟨g,k*8+5,none⟩=some (.slice av l.length cv):=fun o=>Zg d5;have HROW:Hid (∀o:Obj,Row ((W2.alloc o).drew) 227 7 (.slice av l.length cv) l.length (l.flatMap Go.Proofs.YtpfcacedpkaihaaGreat.heldC)):=fun o=>by rw[←hv,hll];exact(hb3.1.ents nd2 (List.mem_of_getElem? hn2)).kept ((Za.alloc W2 o (fun _=>False)).drew) (fun _ _=>id)
   have HAP:Hid (∀(o:Obj)(w':World)(v':Value),Zc ((W2.alloc o).drew) w' 227 7 (.slice av l.length cv) v' l.length 1 (l.flatMap Go.Proofs.YtpfcacedpkaihaaGreat.heldC) (Go.Proofs.YtpfcacedpkaihaaGreat.heldC ⟨e,nd.p.uses+1⟩)→w'.cell? ⟨g,k*8+5,none⟩=some (.slice av l.length cv)∧w'.frozen? ⟨g,k*8+5,none⟩=false∧Hid (Zl w b D k (nd.p.lay e) (w'.setCell ⟨g,k*8+5,none⟩ v'))):=fun o w' v' hA=>by
    obtain⟨q1,q2,q3⟩:=hb3.1.appIn hn2 HN.out.2 2 ⟨227,7,nd2.en,nd2.p.ents.length,nd2.p.ents.flatMap Go.Proofs.YtpfcacedpkaihaaGreat.heldC⟩ rfl hv ((Za.alloc W2 o (fun _=>False)).drew) hA;have s:=hb3.1.putEnts hn2 HN.out.2 (l++[⟨e,nd.p.uses+1⟩]) v' (by rw[hv];exact q3.kept) (Vc q3.row) (fun x hx=>by rw[hv];exact q3.new x hx);rw[ZJ]at s;refine⟨by rw[←hv];exact q1 5 _ (by omega) rfl,q2 _,⟨_,?_,hb3.trans s⟩⟩;rw[HLAY.out,hll,hnd2];dsimp only;rw[e1];rfl
   have b1:l.length+1≤maxLen:=by unfold maxLen;omega
   have b2:(l.length+1)*64≤140737488355328:=by omega
   clear hb1 hb2 hb3 hn1 hn2 bx hv hll hnd2 e1 u6 g6
   go_region_law (refine Zw rfl (.tmp 31) (.tmp 38) 131 rfl 227 i0 (.agg #[.string ByteArray.empty,.int .i32 0,.int .u64 0,.int .u64 0,.bool false,.int .u64 0,.int .u64 0]) 7 64 Tryz.underlying131 HI.out.1 HI.out.2.1 HI.out.2.2.1 HI.out.2.2.2 rfl (Nat.succ_pos 6) (.slice av l.length cv) l.length (l.flatMap Go.Proofs.YtpfcacedpkaihaaGreat.heldC) rfl (HROW.out _) ⟨W2.heap.size,0,none⟩ 1 1 (Go.Proofs.YtpfcacedpkaihaaGreat.heldC ⟨e,nd.p.uses+1⟩) rfl rfl (fun j u hj=>Za5 W2 ⟨e,nd.p.uses+1⟩ _ j u hj) (VQ ⟨e,nd.p.uses+1⟩) b1 b2 ?_;intro v' w' hA;obtain⟨p1,p2,p4⟩:=HAP.out _ _ _ hA;obtain⟨ao',cap',hv',_⟩:=hA.row.form;clear hA;subst hv')
   all_goals
    clear p1 p2 qb;go_wp2
    go_end0
    exact⟨rfl,p4⟩
end Go.Proofs.YtpfcacedpkaihaaGreat
