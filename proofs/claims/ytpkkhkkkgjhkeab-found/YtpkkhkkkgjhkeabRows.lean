/-
  No cell of these rows narrows 'for every input' (looked for: loops, veiled, ifaces, maps, wideKeys, modest, calm, conditions, laid).
  DERIVED. THE GIVEN ROWS OF THIS SEAT. 3 by the template 'for every input the law returns true; each argument reads behind the call as it read before'; 0 by the template 'total and deterministic' (their statements: YtpkkhkkkgjhkeabTotals.lean).
  GIVEN WITH THE SEED: the statements are not yours to turn. If you find one false, say at which input.
  Laid BY PROGRAM, IN A SANDBOX (cutbox-rows.mjs): the forced cells as the released guide's own fill.sh prints them over the translation e748981f45f379cf… (all of the seat's roots in one cut). By AI agents, Wed Nov 11 2026. No macro, syntax, notation, axiom, sorry.
-/
import Derived.Test.YtpkkhkkkgjhkeabChecked
import GoSem.Claim
import GoSem.ClaimJoined
import GoSem.ClaimMapViews
import Derived.JoinedTies
import Derived.KernelRfl
namespace Go.Proofs.Ytpkkhkkkgjhkeab
/- THE CELL 'sum', in the pinned program and in every row, IS THE sha256 OF THE DUMP (.gsa) THAT YtpkkhkkkgjhkeabProg.lean LOADS. Nothing in Lean hashes anything: it is a label: what it is worth is what the hold of that sum in a sandbox is worth. -/
noncomputable def Try.pinned : Pinned := { name := "ytpkkhkkkgjhkeab", sum := "e748981f45f379cf1c4c38d80dd8d01bd8f6d829e1bb0d4a93b65729b5624806", checked := Try.checked }
namespace Rows
def none {H : Type} : Left H := { results := [], args := [] }

/-- 'signetkeep.Grown': WHATEVER THE INPUT: true; the input reads as it did. -/
def grownSpec : ChangeSpec := { name := "grown", fn := fun _ => fun
  | [d1, d2, d3] => { results := [.lit (.bool true)], args := [d1, d2, d3] }
  | _ => none }
def grownRow : OpenClaim := { program := "ytpkkhkkkgjhkeab", sum := "e748981f45f379cf1c4c38d80dd8d01bd8f6d829e1bb0d4a93b65729b5624806", func := "signet/signetkeep.Grown", spec := "grown", inPlace := ["maps.clone", "math/bits.Add64", "internal/abi.NoEscape", "internal/bytealg.MakeNoZero"], unfollowed := true, recurses := true, apart := false }
def GrownSaid : Prop := grownRow.holds Try.pinned (OpenSpec.ofChange grownSpec)

/-- ITS FALSE NEIGHBOUR: 'it returns false'. Refute it at one input. -/
def grownWrong : ChangeSpec := { name := "grown", fn := fun _ => fun
  | [d1, d2, d3] => { results := [.lit (.bool false)], args := [d1, d2, d3] }
  | _ => none }
def GrownWrongFalsely : Prop := grownRow.holds Try.pinned (OpenSpec.ofChange grownWrong)

/-- 'signetkeep.Balanced': WHATEVER THE INPUT: true; the input reads as it did. -/
def balancedSpec : ChangeSpec := { name := "balanced", fn := fun _ => fun
  | [d1, d2, d3, d4, d5] => { results := [.lit (.bool true)], args := [d1, d2, d3, d4, d5] }
  | _ => none }
def balancedRow : OpenClaim := { program := "ytpkkhkkkgjhkeab", sum := "e748981f45f379cf1c4c38d80dd8d01bd8f6d829e1bb0d4a93b65729b5624806", func := "signet/signetkeep.Balanced", spec := "balanced", inPlace := ["maps.clone", "math/bits.Add64", "internal/abi.NoEscape", "internal/bytealg.MakeNoZero"], unfollowed := true, recurses := true, apart := false }
def BalancedSaid : Prop := balancedRow.holds Try.pinned (OpenSpec.ofChange balancedSpec)

/-- ITS FALSE NEIGHBOUR: 'it returns false'. Refute it at one input. -/
def balancedWrong : ChangeSpec := { name := "balanced", fn := fun _ => fun
  | [d1, d2, d3, d4, d5] => { results := [.lit (.bool false)], args := [d1, d2, d3, d4, d5] }
  | _ => none }
def BalancedWrongFalsely : Prop := balancedRow.holds Try.pinned (OpenSpec.ofChange balancedWrong)

/-- 'signetkeep.Found': WHATEVER THE INPUT: true; the input reads as it did. -/
def foundSpec : ChangeSpec := { name := "found", fn := fun _ => fun
  | [d1, d2, d3, d4, d5, d6] => { results := [.lit (.bool true)], args := [d1, d2, d3, d4, d5, d6] }
  | _ => none }
def foundRow : OpenClaim := { program := "ytpkkhkkkgjhkeab", sum := "e748981f45f379cf1c4c38d80dd8d01bd8f6d829e1bb0d4a93b65729b5624806", func := "signet/signetkeep.Found", spec := "found", inPlace := ["maps.clone", "math/bits.Add64", "internal/abi.NoEscape", "internal/bytealg.MakeNoZero"], unfollowed := true, recurses := true, apart := false }
def FoundSaid : Prop := foundRow.holds Try.pinned (OpenSpec.ofChange foundSpec)

/-- ITS FALSE NEIGHBOUR: 'it returns false'. Refute it at one input. -/
def foundWrong : ChangeSpec := { name := "found", fn := fun _ => fun
  | [d1, d2, d3, d4, d5, d6] => { results := [.lit (.bool false)], args := [d1, d2, d3, d4, d5, d6] }
  | _ => none }
def FoundWrongFalsely : Prop := foundRow.holds Try.pinned (OpenSpec.ofChange foundWrong)

/- THE SECOND FORM. 'bulk': how many values and letters a reading holds, each counted each time it is reached (what is shared counts as often as it is met; a slice's spare places count too). A statement '..UptoSaid' is the law's where the arguments, and the package variables that the reading takes, are together of bulk at most 1048576: NARROWER than '..Said'. Prove '..Said' where nothing that the law and all that it calls make is longer than what came in: it says more and counts as full. Else prove '..UptoSaid'. A law counts once. -/
mutual
def uptoBulk {H : Type} : DataW H → Nat
  | .lit (.string bytes) => bytes.length + 1
  | .lit _ => 1
  | .nil => 1
  | .ptr d => uptoBulk d + 1
  | .slice elems spare => uptoBulkAll elems + uptoBulkAll spare + 1
  | .agg parts => uptoBulkAll parts + 1
  | .iface _ d => uptoBulk d + 1
  | .map entries => uptoBulkEntries entries + 1
  | .held _ => 1
def uptoBulkAll {H : Type} : List (DataW H) → Nat
  | [] => 0
  | d :: r => uptoBulk d + uptoBulkAll r
def uptoBulkEntries {H : Type} : List (Lit × DataW H) → Nat
  | [] => 0
  | x :: r => uptoBulkEntry x + uptoBulkEntries r
def uptoBulkEntry {H : Type} : Lit × DataW H → Nat
  | (.string bytes, d) => bytes.length + uptoBulk d + 1
  | (_, d) => uptoBulk d + 1
 end
def uptoSmall : (H : Type) → List (DataW H) → Bool := fun _ ds => decide (uptoBulkAll ds ≤ 1048576)
def OpenSpec.upto (s : _root_.Go.ChangeSpec) : _root_.Go.OpenSpec := { _root_.Go.OpenSpec.ofChange s with cond := some uptoSmall }

/-- 'signetkeep.Grown', WHERE WHAT IT READS IS OF BULK AT MOST 1048576: true; the input reads as it did. -/
def grownUptoRow : OpenClaim := { program := "ytpkkhkkkgjhkeab", sum := "e748981f45f379cf1c4c38d80dd8d01bd8f6d829e1bb0d4a93b65729b5624806", func := "signet/signetkeep.Grown", spec := "grown", inPlace := ["maps.clone", "math/bits.Add64", "internal/abi.NoEscape", "internal/bytealg.MakeNoZero"], unfollowed := true, recurses := true, apart := false, narrowed := true }
def GrownUptoSaid : Prop := grownUptoRow.holds Try.pinned (OpenSpec.upto grownSpec)

/-- 'signetkeep.Balanced', WHERE WHAT IT READS IS OF BULK AT MOST 1048576: true; the input reads as it did. -/
def balancedUptoRow : OpenClaim := { program := "ytpkkhkkkgjhkeab", sum := "e748981f45f379cf1c4c38d80dd8d01bd8f6d829e1bb0d4a93b65729b5624806", func := "signet/signetkeep.Balanced", spec := "balanced", inPlace := ["maps.clone", "math/bits.Add64", "internal/abi.NoEscape", "internal/bytealg.MakeNoZero"], unfollowed := true, recurses := true, apart := false, narrowed := true }
def BalancedUptoSaid : Prop := balancedUptoRow.holds Try.pinned (OpenSpec.upto balancedSpec)

/-- 'signetkeep.Found', WHERE WHAT IT READS IS OF BULK AT MOST 1048576: true; the input reads as it did. -/
def foundUptoRow : OpenClaim := { program := "ytpkkhkkkgjhkeab", sum := "e748981f45f379cf1c4c38d80dd8d01bd8f6d829e1bb0d4a93b65729b5624806", func := "signet/signetkeep.Found", spec := "found", inPlace := ["maps.clone", "math/bits.Add64", "internal/abi.NoEscape", "internal/bytealg.MakeNoZero"], unfollowed := true, recurses := true, apart := false, narrowed := true }
def FoundUptoSaid : Prop := foundUptoRow.holds Try.pinned (OpenSpec.upto foundSpec)

end Rows
end Go.Proofs.Ytpkkhkkkgjhkeab
