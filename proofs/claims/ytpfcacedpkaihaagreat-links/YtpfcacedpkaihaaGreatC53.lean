import Derived.Test.YtpfcacedpkaihaaGreatC41
import Derived.Test.YtpfcacedpkaihaaGreatC52
namespace Go.Proofs.YtpfcacedpkaihaaGreat
open Go.RowKit
set_option maxRecDepth 100000
set_option maxHeartbeats 16000000
theorem X7.from {w W w':World}{pb:Nat}{vps bv b1 b2:Value}{commits most:Int}{bn:Nat}{vals:List Value}{m:Nat}(h:X7 W pb vps bv b1 b2 commits most bn vals m w')(k:Za (fun _=>False) w W):X7 w pb vps bv b1 b2 commits most bn vals m w':=by
 obtain⟨N,ad,cp,v,hN,hs,hm,hr,hb,hk,hv⟩:=h;have s1:=k.size;refine⟨N,ad,cp,v,hN,by omega,fun q hq t ht=> ?_,hr,hb,k.trans hk (fun _=>False.elim) (fun _ _ h=>h),fun q hq=>(hv q hq).imp id (fun h=>by omega)⟩;obtain⟨g,e1,o1,m1⟩:=hm q hq t ht;exact⟨g,e1,by omega,m1⟩
theorem ZhH (k:Nat):¬XX ZH [] k:=by
 rintro(h|⟨e,he,_⟩)
 · simp[ZH,Value.ownBlock]at h
 · cases he
end Go.Proofs.YtpfcacedpkaihaaGreat
