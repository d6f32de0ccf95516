import Derived.Test.YtpfcacedpkaihaaGreatC13
import Derived.Test.YtpfcacedpkaihaaGreatC17
import Derived.Test.YtpfcacedpkaihaaGreatC26
import Derived.Test.YtpfcacedpkaihaaGreatC25
namespace Go.Proofs.YtpfcacedpkaihaaGreat
open Go.RowKit
set_option maxRecDepth 100000
set_option maxHeartbeats 16000000
theorem Fit.putN {R : RefS} {k : Nat} {nd : NodeE} (h : R.Fit) (h1 : nd.fls.length ≤ 12 ∧ nd.horizon ≤ 700 ∧ ∀ t ∈ nd.fls, t ≤ 700) : (R.putN k nd).Fit :=
 ⟨h.pos, h.pmax, h.clk0, h.clk1, h.rmax, by show 0 < (R.nodes.set k nd).length; rw [List.length_set]; exact h.npos, by show (R.nodes.set k nd).length ≤ 3; rw [List.length_set]; exact h.nmax, fun n hn => by
  rcases List.mem_or_eq_of_mem_set hn with hn | rfl
  · exact h.fmax n hn
  · exact h1⟩
end Go.Proofs.YtpfcacedpkaihaaGreat
