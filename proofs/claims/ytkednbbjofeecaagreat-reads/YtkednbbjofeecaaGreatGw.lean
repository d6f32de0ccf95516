/- A commit's writes, done one after the other (mathematics alone). -/
import Derived.Test.YtkednbbjofeecaaGreatGh
namespace Go.Proofs.YtkednbbjofeecaaGreat
open Go.RowKit

/-- the set of one key. -/
def bit1 (k : Nat) : Int := (2 : Int) ^ k % 256
/-- one write more. -/
def writeP (p : PastE) (x : Int × Int) : PastE := { p with st := fun i => if i = x.1.toNat then x.2 else p.st i, keys := bits .or .u8 p.keys (bit1 x.1.toNat) }
def writesP (p : PastE) (ws : List (Int × Int)) : PastE := ws.foldl writeP p
theorem writesP_snoc (p : PastE) (ws : List (Int × Int)) (j : Nat) (h : j < ws.length) : writesP p (ws.take (j + 1)) = writeP (writesP p (ws.take j)) ws[j] := by
  rw [writesP, List.take_succ_eq_append_getElem h, List.foldl_append]; rfl

end Go.Proofs.YtkednbbjofeecaaGreat
