import Derived.Test.YtpfcacedpkaihaaGreatC51
namespace Go.Proofs.YtpfcacedpkaihaaGreat
open Go.RowKit
set_option maxRecDepth 100000
set_option maxHeartbeats 16000000
theorem Sc.alloc {w:World}{ao:Option Addr}{n:Nat}{os:List OpE}(h:Sc w ao n os)(o:Obj):Sc (w.alloc o) ao n os:=by
 refine⟨h.len,fun j hj=> ?_⟩;obtain⟨bl,off,e,hb,hc⟩:=h.cell j hj;exact⟨bl,off,e,by simp;omega,fun f hf=>(World.cell?_alloc_past o bl _ hb).trans (hc f hf)⟩
theorem Zcj.alloc {w:World}{o:OpE}(h:Zcj w.heap.size w o)(x:Obj):Zcj (w.alloc x).heap.size (w.alloc x) o:=
 ⟨h.wr.kept (Za.alloc w x (fun _=>False)) (fun _ _=>id),h.reach,h.nil,fun h0 a ha=>by have:=h.low h0 a ha;simp;omega,h.vals,h.str,h.a0,h.a1⟩
theorem Zh2 (w0:World)(most:Int)(X:Nat→Prop)(hX:∀k,¬X k):Inv w0.heap.size X w0 (w0.alloc (.cells (ZM ZH ZH ZH ZH 0 most) 34)) w0.heap.size [] ZH ZH ZH ZH 0 most:=
 ⟨(Below.refl _ _).alloc (Nat.le_refl _) _,Blk.new _ _ _,Row.nil _ _ _,fun p hp=>(by cases hp),fun i j a c ha=>(by simp at ha),fun p hp=>(by cases hp),⟨Nat.le_refl _,hX _⟩,fun k hk=>(by simp[ZH,Value.ownBlock]at hk),fun k hk=>absurd hk (hX k),Nat.le_refl _⟩
theorem Zbx {w w':World}{o:Obj}(h:Below (w.alloc o).heap.size (w.alloc o) w'):Below w.heap.size w w':=
 ⟨h.os,h.tape,h.output,by have:=h.size;simp at this;omega,fun k hk=>(h.block k (by simp;omega)).trans (Below.heap_alloc _ _ _ hk)⟩
def LawPost (w:World)(e:Ending)(w':World):Prop:=e=.returned (.bool true)∧Below w.heap.size w w'
end Go.Proofs.YtpfcacedpkaihaaGreat
