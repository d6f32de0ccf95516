/-
  No cell of these rows narrows 'for every input' (looked for: loops, veiled, ifaces, maps, wideKeys, modest, calm, conditions, laid).
  DERIVED. THE GIVEN ROWS OF THIS SEAT. 7 by the template 'for every input the law returns true; each argument reads behind the call as it read before'; 0 by the template 'total and deterministic' (their statements: YtpfcacedpkaihaaTotals.lean).
  GIVEN WITH THE SEED: the statements are not yours to turn. If you find one false, say at which input.
  Laid BY PROGRAM, IN A SANDBOX (cutbox-rows.mjs): the forced cells as the released guide's own fill.sh prints them over the translation dbb94ea62706cf26… (all of the seat's roots in one cut). By AI agents, Wed Nov 11 2026. No macro, syntax, notation, axiom, sorry.
-/
import Derived.Test.YtpfcacedpkaihaaChecked
import GoSem.Claim
import GoSem.ClaimJoined
import GoSem.ClaimMapViews
import Derived.JoinedTies
import Derived.KernelRfl
namespace Go.Proofs.Ytpfcacedpkaihaa
/- THE CELL 'sum', in the pinned program and in every row, IS THE sha256 OF THE DUMP (.gsa) THAT YtpfcacedpkaihaaProg.lean LOADS. Nothing in Lean hashes anything: it is a label: what it is worth is what the hold of that sum in a sandbox is worth. -/
noncomputable def Try.pinned : Pinned := { name := "ytpfcacedpkaihaa", sum := "dbb94ea62706cf26b2d2cae8d1643842adcf4bc55bb36c0b36c834f43274b09d", checked := Try.checked }
namespace Rows
def none {H : Type} : Left H := { results := [], args := [] }

/-- 'almanaclaw.Parses': WHATEVER THE INPUT: true; the input reads as it did. -/
def parsesSpec : ChangeSpec := { name := "parses", fn := fun _ => fun
  | [d] => { results := [.lit (.bool true)], args := [d] }
  | _ => none }
def parsesRow : OpenClaim := { program := "ytpfcacedpkaihaa", sum := "dbb94ea62706cf26b2d2cae8d1643842adcf4bc55bb36c0b36c834f43274b09d", func := "almanac/almanaclaw.Parses", spec := "parses", apart := false }
def ParsesSaid : Prop := parsesRow.holds Try.pinned (OpenSpec.ofChange parsesSpec)

/-- ITS FALSE NEIGHBOUR: 'it returns false'. Refute it at one input. -/
def parsesWrong : ChangeSpec := { name := "parses", fn := fun _ => fun
  | [d] => { results := [.lit (.bool false)], args := [d] }
  | _ => none }
def ParsesWrongFalsely : Prop := parsesRow.holds Try.pinned (OpenSpec.ofChange parsesWrong)

/-- 'almanaclaw.Evals': WHATEVER THE INPUT: true; the input reads as it did. -/
def evalsSpec : ChangeSpec := { name := "evals", fn := fun _ => fun
  | [d1, d2] => { results := [.lit (.bool true)], args := [d1, d2] }
  | _ => none }
def evalsRow : OpenClaim := { program := "ytpfcacedpkaihaa", sum := "dbb94ea62706cf26b2d2cae8d1643842adcf4bc55bb36c0b36c834f43274b09d", func := "almanac/almanaclaw.Evals", spec := "evals", apart := false }
def EvalsSaid : Prop := evalsRow.holds Try.pinned (OpenSpec.ofChange evalsSpec)

/-- ITS FALSE NEIGHBOUR: 'it returns false'. Refute it at one input. -/
def evalsWrong : ChangeSpec := { name := "evals", fn := fun _ => fun
  | [d1, d2] => { results := [.lit (.bool false)], args := [d1, d2] }
  | _ => none }
def EvalsWrongFalsely : Prop := evalsRow.holds Try.pinned (OpenSpec.ofChange evalsWrong)

/-- 'almanackeep.Words': WHATEVER THE INPUT: true; the input reads as it did. -/
def wordsSpec : ChangeSpec := { name := "words", fn := fun _ => fun
  | [d] => { results := [.lit (.bool true)], args := [d] }
  | _ => none }
def wordsRow : OpenClaim := { program := "ytpfcacedpkaihaa", sum := "dbb94ea62706cf26b2d2cae8d1643842adcf4bc55bb36c0b36c834f43274b09d", func := "almanac/almanackeep.Words", spec := "words", apart := false }
def WordsSaid : Prop := wordsRow.holds Try.pinned (OpenSpec.ofChange wordsSpec)

/-- ITS FALSE NEIGHBOUR: 'it returns false'. Refute it at one input. -/
def wordsWrong : ChangeSpec := { name := "words", fn := fun _ => fun
  | [d] => { results := [.lit (.bool false)], args := [d] }
  | _ => none }
def WordsWrongFalsely : Prop := wordsRow.holds Try.pinned (OpenSpec.ofChange wordsWrong)

/-- 'almanackeep.Parsed': WHATEVER THE INPUT: true; the input reads as it did. -/
def parsedSpec : ChangeSpec := { name := "parsed", fn := fun _ => fun
  | [d] => { results := [.lit (.bool true)], args := [d] }
  | _ => none }
def parsedRow : OpenClaim := { program := "ytpfcacedpkaihaa", sum := "dbb94ea62706cf26b2d2cae8d1643842adcf4bc55bb36c0b36c834f43274b09d", func := "almanac/almanackeep.Parsed", spec := "parsed", apart := false }
def ParsedSaid : Prop := parsedRow.holds Try.pinned (OpenSpec.ofChange parsedSpec)

/-- ITS FALSE NEIGHBOUR: 'it returns false'. Refute it at one input. -/
def parsedWrong : ChangeSpec := { name := "parsed", fn := fun _ => fun
  | [d] => { results := [.lit (.bool false)], args := [d] }
  | _ => none }
def ParsedWrongFalsely : Prop := parsedRow.holds Try.pinned (OpenSpec.ofChange parsedWrong)

/-- 'almanackeep.Moment': WHATEVER THE INPUT: true; the input reads as it did. -/
def momentSpec : ChangeSpec := { name := "moment", fn := fun _ => fun
  | [d1, d2, d3] => { results := [.lit (.bool true)], args := [d1, d2, d3] }
  | _ => none }
def momentRow : OpenClaim := { program := "ytpfcacedpkaihaa", sum := "dbb94ea62706cf26b2d2cae8d1643842adcf4bc55bb36c0b36c834f43274b09d", func := "almanac/almanackeep.Moment", spec := "moment", apart := false }
def MomentSaid : Prop := momentRow.holds Try.pinned (OpenSpec.ofChange momentSpec)

/-- ITS FALSE NEIGHBOUR: 'it returns false'. Refute it at one input. -/
def momentWrong : ChangeSpec := { name := "moment", fn := fun _ => fun
  | [d1, d2, d3] => { results := [.lit (.bool false)], args := [d1, d2, d3] }
  | _ => none }
def MomentWrongFalsely : Prop := momentRow.holds Try.pinned (OpenSpec.ofChange momentWrong)

/-- 'almanackeep.Recent': WHATEVER THE INPUT: true; the input reads as it did. -/
def recentSpec : ChangeSpec := { name := "recent", fn := fun _ => fun
  | [d1, d2, d3] => { results := [.lit (.bool true)], args := [d1, d2, d3] }
  | _ => none }
def recentRow : OpenClaim := { program := "ytpfcacedpkaihaa", sum := "dbb94ea62706cf26b2d2cae8d1643842adcf4bc55bb36c0b36c834f43274b09d", func := "almanac/almanackeep.Recent", spec := "recent", apart := false }
def RecentSaid : Prop := recentRow.holds Try.pinned (OpenSpec.ofChange recentSpec)

/-- ITS FALSE NEIGHBOUR: 'it returns false'. Refute it at one input. -/
def recentWrong : ChangeSpec := { name := "recent", fn := fun _ => fun
  | [d1, d2, d3] => { results := [.lit (.bool false)], args := [d1, d2, d3] }
  | _ => none }
def RecentWrongFalsely : Prop := recentRow.holds Try.pinned (OpenSpec.ofChange recentWrong)

/-- 'almanackeep.Serial': WHATEVER THE INPUT: true; the input reads as it did. -/
def serialSpec : ChangeSpec := { name := "serial", fn := fun _ => fun
  | [d1, d2, d3] => { results := [.lit (.bool true)], args := [d1, d2, d3] }
  | _ => none }
def serialRow : OpenClaim := { program := "ytpfcacedpkaihaa", sum := "dbb94ea62706cf26b2d2cae8d1643842adcf4bc55bb36c0b36c834f43274b09d", func := "almanac/almanackeep.Serial", spec := "serial", apart := false }
def SerialSaid : Prop := serialRow.holds Try.pinned (OpenSpec.ofChange serialSpec)

/-- ITS FALSE NEIGHBOUR: 'it returns false'. Refute it at one input. -/
def serialWrong : ChangeSpec := { name := "serial", fn := fun _ => fun
  | [d1, d2, d3] => { results := [.lit (.bool false)], args := [d1, d2, d3] }
  | _ => none }
def SerialWrongFalsely : Prop := serialRow.holds Try.pinned (OpenSpec.ofChange serialWrong)

/- THE SECOND FORM. 'bulk': how many values and letters a reading holds, each counted each time it is reached (what is shared counts as often as it is met; a slice's spare places count too). A statement '..UptoSaid' is the law's where the arguments, and the package variables that the reading takes, are together of bulk at most 1048576: NARROWER than '..Said'. Prove '..Said' where nothing that the law and all that it calls make is longer than what came in: it says more and counts as full. Else prove '..UptoSaid'. A law counts once. -/
mutual
def uptoBulk {H : Type} : DataW H → Nat
  | .lit (.string bytes) => bytes.length + 1
  | .lit _ => 1
  | .nil => 1
  | .ptr d => uptoBulk d + 1
  | .slice elems spare => uptoBulkAll elems + uptoBulkAll spare + 1
  | .agg parts => uptoBulkAll parts + 1
  | .iface _ d => uptoBulk d + 1
  | .map entries => uptoBulkEntries entries + 1
  | .held _ => 1
def uptoBulkAll {H : Type} : List (DataW H) → Nat
  | [] => 0
  | d :: r => uptoBulk d + uptoBulkAll r
def uptoBulkEntries {H : Type} : List (Lit × DataW H) → Nat
  | [] => 0
  | x :: r => uptoBulkEntry x + uptoBulkEntries r
def uptoBulkEntry {H : Type} : Lit × DataW H → Nat
  | (.string bytes, d) => bytes.length + uptoBulk d + 1
  | (_, d) => uptoBulk d + 1
 end
def uptoSmall : (H : Type) → List (DataW H) → Bool := fun _ ds => decide (uptoBulkAll ds ≤ 1048576)
def OpenSpec.upto (s : _root_.Go.ChangeSpec) : _root_.Go.OpenSpec := { _root_.Go.OpenSpec.ofChange s with cond := some uptoSmall }

/-- 'almanaclaw.Parses', WHERE WHAT IT READS IS OF BULK AT MOST 1048576: true; the input reads as it did. -/
def parsesUptoRow : OpenClaim := { program := "ytpfcacedpkaihaa", sum := "dbb94ea62706cf26b2d2cae8d1643842adcf4bc55bb36c0b36c834f43274b09d", func := "almanac/almanaclaw.Parses", spec := "parses", apart := false, narrowed := true }
def ParsesUptoSaid : Prop := parsesUptoRow.holds Try.pinned (OpenSpec.upto parsesSpec)

/-- 'almanaclaw.Evals', WHERE WHAT IT READS IS OF BULK AT MOST 1048576: true; the input reads as it did. -/
def evalsUptoRow : OpenClaim := { program := "ytpfcacedpkaihaa", sum := "dbb94ea62706cf26b2d2cae8d1643842adcf4bc55bb36c0b36c834f43274b09d", func := "almanac/almanaclaw.Evals", spec := "evals", apart := false, narrowed := true }
def EvalsUptoSaid : Prop := evalsUptoRow.holds Try.pinned (OpenSpec.upto evalsSpec)

/-- 'almanackeep.Words', WHERE WHAT IT READS IS OF BULK AT MOST 1048576: true; the input reads as it did. -/
def wordsUptoRow : OpenClaim := { program := "ytpfcacedpkaihaa", sum := "dbb94ea62706cf26b2d2cae8d1643842adcf4bc55bb36c0b36c834f43274b09d", func := "almanac/almanackeep.Words", spec := "words", apart := false, narrowed := true }
def WordsUptoSaid : Prop := wordsUptoRow.holds Try.pinned (OpenSpec.upto wordsSpec)

/-- 'almanackeep.Parsed', WHERE WHAT IT READS IS OF BULK AT MOST 1048576: true; the input reads as it did. -/
def parsedUptoRow : OpenClaim := { program := "ytpfcacedpkaihaa", sum := "dbb94ea62706cf26b2d2cae8d1643842adcf4bc55bb36c0b36c834f43274b09d", func := "almanac/almanackeep.Parsed", spec := "parsed", apart := false, narrowed := true }
def ParsedUptoSaid : Prop := parsedUptoRow.holds Try.pinned (OpenSpec.upto parsedSpec)

/-- 'almanackeep.Moment', WHERE WHAT IT READS IS OF BULK AT MOST 1048576: true; the input reads as it did. -/
def momentUptoRow : OpenClaim := { program := "ytpfcacedpkaihaa", sum := "dbb94ea62706cf26b2d2cae8d1643842adcf4bc55bb36c0b36c834f43274b09d", func := "almanac/almanackeep.Moment", spec := "moment", apart := false, narrowed := true }
def MomentUptoSaid : Prop := momentUptoRow.holds Try.pinned (OpenSpec.upto momentSpec)

/-- 'almanackeep.Recent', WHERE WHAT IT READS IS OF BULK AT MOST 1048576: true; the input reads as it did. -/
def recentUptoRow : OpenClaim := { program := "ytpfcacedpkaihaa", sum := "dbb94ea62706cf26b2d2cae8d1643842adcf4bc55bb36c0b36c834f43274b09d", func := "almanac/almanackeep.Recent", spec := "recent", apart := false, narrowed := true }
def RecentUptoSaid : Prop := recentUptoRow.holds Try.pinned (OpenSpec.upto recentSpec)

/-- 'almanackeep.Serial', WHERE WHAT IT READS IS OF BULK AT MOST 1048576: true; the input reads as it did. -/
def serialUptoRow : OpenClaim := { program := "ytpfcacedpkaihaa", sum := "dbb94ea62706cf26b2d2cae8d1643842adcf4bc55bb36c0b36c834f43274b09d", func := "almanac/almanackeep.Serial", spec := "serial", apart := false, narrowed := true }
def SerialUptoSaid : Prop := serialUptoRow.holds Try.pinned (OpenSpec.upto serialSpec)

end Rows
end Go.Proofs.Ytpfcacedpkaihaa
