/-
  No cell of these rows narrows 'for every input' (looked for: loops, veiled, ifaces, maps, wideKeys, modest, calm, conditions, laid).
  DERIVED. THE GIVEN ROWS OF THIS SEAT. 9 by the template 'for every input the law returns true; each argument reads behind the call as it read before'; 0 by the template 'total and deterministic' (their statements: YtpkkhkkkgjhkeaaTotals.lean).
  GIVEN WITH THE SEED: the statements are not yours to turn. If you find one false, say at which input.
  Laid BY PROGRAM, IN A SANDBOX (cutbox-rows.mjs): the forced cells as the released guide's own fill.sh prints them over the translation d3848153c8fdc0ab… (all of the seat's roots in one cut). By AI agents, Wed Nov 11 2026. No macro, syntax, notation, axiom, sorry.
-/
import Derived.Test.YtpkkhkkkgjhkeaaChecked
import GoSem.Claim
import GoSem.ClaimJoined
import GoSem.ClaimMapViews
import Derived.JoinedTies
import Derived.KernelRfl
namespace Go.Proofs.Ytpkkhkkkgjhkeaa
/- THE CELL 'sum', in the pinned program and in every row, IS THE sha256 OF THE DUMP (.gsa) THAT YtpkkhkkkgjhkeaaProg.lean LOADS. Nothing in Lean hashes anything: it is a label: what it is worth is what the hold of that sum in a sandbox is worth. -/
noncomputable def Try.pinned : Pinned := { name := "ytpkkhkkkgjhkeaa", sum := "d3848153c8fdc0ab48ea4560800e0dcdf8254adabbd22251ab39ac0035802e11", checked := Try.checked }
namespace Rows
def none {H : Type} : Left H := { results := [], args := [] }

/-- 'signetlaw.Sums': WHATEVER THE INPUT: true; the input reads as it did. -/
def sumsSpec : ChangeSpec := { name := "sums", fn := fun _ => fun
  | [d] => { results := [.lit (.bool true)], args := [d] }
  | _ => none }
def sumsRow : OpenClaim := { program := "ytpkkhkkkgjhkeaa", sum := "d3848153c8fdc0ab48ea4560800e0dcdf8254adabbd22251ab39ac0035802e11", func := "signet/signetlaw.Sums", spec := "sums", apart := false }
def SumsSaid : Prop := sumsRow.holds Try.pinned (OpenSpec.ofChange sumsSpec)

/-- ITS FALSE NEIGHBOUR: 'it returns false'. Refute it at one input. -/
def sumsWrong : ChangeSpec := { name := "sums", fn := fun _ => fun
  | [d] => { results := [.lit (.bool false)], args := [d] }
  | _ => none }
def SumsWrongFalsely : Prop := sumsRow.holds Try.pinned (OpenSpec.ofChange sumsWrong)

/-- 'signetlaw.Roots': WHATEVER THE INPUT: true; the input reads as it did. -/
def rootsSpec : ChangeSpec := { name := "roots", fn := fun _ => fun
  | [d1, d2, d3, d4, d5] => { results := [.lit (.bool true)], args := [d1, d2, d3, d4, d5] }
  | _ => none }
def rootsRow : OpenClaim := { program := "ytpkkhkkkgjhkeaa", sum := "d3848153c8fdc0ab48ea4560800e0dcdf8254adabbd22251ab39ac0035802e11", func := "signet/signetlaw.Roots", spec := "roots", unfollowed := true, recurses := true, apart := false }
def RootsSaid : Prop := rootsRow.holds Try.pinned (OpenSpec.ofChange rootsSpec)

/-- ITS FALSE NEIGHBOUR: 'it returns false'. Refute it at one input. -/
def rootsWrong : ChangeSpec := { name := "roots", fn := fun _ => fun
  | [d1, d2, d3, d4, d5] => { results := [.lit (.bool false)], args := [d1, d2, d3, d4, d5] }
  | _ => none }
def RootsWrongFalsely : Prop := rootsRow.holds Try.pinned (OpenSpec.ofChange rootsWrong)

/-- 'signetlaw.Seals': WHATEVER THE INPUT: true; the input reads as it did. -/
def sealsSpec : ChangeSpec := { name := "seals", fn := fun _ => fun
  | [d] => { results := [.lit (.bool true)], args := [d] }
  | _ => none }
def sealsRow : OpenClaim := { program := "ytpkkhkkkgjhkeaa", sum := "d3848153c8fdc0ab48ea4560800e0dcdf8254adabbd22251ab39ac0035802e11", func := "signet/signetlaw.Seals", spec := "seals", inPlace := ["maps.clone", "math/bits.Add64", "internal/abi.NoEscape", "internal/bytealg.MakeNoZero"], unfollowed := true, recurses := true, apart := false }
def SealsSaid : Prop := sealsRow.holds Try.pinned (OpenSpec.ofChange sealsSpec)

/-- ITS FALSE NEIGHBOUR: 'it returns false'. Refute it at one input. -/
def sealsWrong : ChangeSpec := { name := "seals", fn := fun _ => fun
  | [d] => { results := [.lit (.bool false)], args := [d] }
  | _ => none }
def SealsWrongFalsely : Prop := sealsRow.holds Try.pinned (OpenSpec.ofChange sealsWrong)

/-- 'signetlaw.Decodes': WHATEVER THE INPUT: true; the input reads as it did. -/
def decodesSpec : ChangeSpec := { name := "decodes", fn := fun _ => fun
  | [d] => { results := [.lit (.bool true)], args := [d] }
  | _ => none }
def decodesRow : OpenClaim := { program := "ytpkkhkkkgjhkeaa", sum := "d3848153c8fdc0ab48ea4560800e0dcdf8254adabbd22251ab39ac0035802e11", func := "signet/signetlaw.Decodes", spec := "decodes", inPlace := ["maps.clone", "math/bits.Add64", "internal/abi.NoEscape", "internal/bytealg.MakeNoZero"], unfollowed := true, recurses := true, apart := false }
def DecodesSaid : Prop := decodesRow.holds Try.pinned (OpenSpec.ofChange decodesSpec)

/-- ITS FALSE NEIGHBOUR: 'it returns false'. Refute it at one input. -/
def decodesWrong : ChangeSpec := { name := "decodes", fn := fun _ => fun
  | [d] => { results := [.lit (.bool false)], args := [d] }
  | _ => none }
def DecodesWrongFalsely : Prop := decodesRow.holds Try.pinned (OpenSpec.ofChange decodesWrong)

/-- 'signetlaw.Verifies': WHATEVER THE INPUT: true; the input reads as it did. -/
def verifiesSpec : ChangeSpec := { name := "verifies", fn := fun _ => fun
  | [d1, d2] => { results := [.lit (.bool true)], args := [d1, d2] }
  | _ => none }
def verifiesRow : OpenClaim := { program := "ytpkkhkkkgjhkeaa", sum := "d3848153c8fdc0ab48ea4560800e0dcdf8254adabbd22251ab39ac0035802e11", func := "signet/signetlaw.Verifies", spec := "verifies", inPlace := ["maps.clone", "math/bits.Add64", "internal/abi.NoEscape", "internal/bytealg.MakeNoZero"], unfollowed := true, recurses := true, apart := false }
def VerifiesSaid : Prop := verifiesRow.holds Try.pinned (OpenSpec.ofChange verifiesSpec)

/-- ITS FALSE NEIGHBOUR: 'it returns false'. Refute it at one input. -/
def verifiesWrong : ChangeSpec := { name := "verifies", fn := fun _ => fun
  | [d1, d2] => { results := [.lit (.bool false)], args := [d1, d2] }
  | _ => none }
def VerifiesWrongFalsely : Prop := verifiesRow.holds Try.pinned (OpenSpec.ofChange verifiesWrong)

/-- 'signetlaw.Looks': WHATEVER THE INPUT: true; the input reads as it did. -/
def looksSpec : ChangeSpec := { name := "looks", fn := fun _ => fun
  | [d1, d2] => { results := [.lit (.bool true)], args := [d1, d2] }
  | _ => none }
def looksRow : OpenClaim := { program := "ytpkkhkkkgjhkeaa", sum := "d3848153c8fdc0ab48ea4560800e0dcdf8254adabbd22251ab39ac0035802e11", func := "signet/signetlaw.Looks", spec := "looks", inPlace := ["math/bits.Add64"], unfollowed := true, recurses := true, apart := false }
def LooksSaid : Prop := looksRow.holds Try.pinned (OpenSpec.ofChange looksSpec)

/-- ITS FALSE NEIGHBOUR: 'it returns false'. Refute it at one input. -/
def looksWrong : ChangeSpec := { name := "looks", fn := fun _ => fun
  | [d1, d2] => { results := [.lit (.bool false)], args := [d1, d2] }
  | _ => none }
def LooksWrongFalsely : Prop := looksRow.holds Try.pinned (OpenSpec.ofChange looksWrong)

/-- 'signetlaw.ClashLines': WHATEVER THE INPUT: true; the input reads as it did. -/
def clashLinesSpec : ChangeSpec := { name := "clashLines", fn := fun _ => fun
  | [d1, d2, d3] => { results := [.lit (.bool true)], args := [d1, d2, d3] }
  | _ => none }
def clashLinesRow : OpenClaim := { program := "ytpkkhkkkgjhkeaa", sum := "d3848153c8fdc0ab48ea4560800e0dcdf8254adabbd22251ab39ac0035802e11", func := "signet/signetlaw.ClashLines", spec := "clashLines", inPlace := ["math/bits.Add64"], unfollowed := true, recurses := true, apart := false }
def ClashLinesSaid : Prop := clashLinesRow.holds Try.pinned (OpenSpec.ofChange clashLinesSpec)

/-- ITS FALSE NEIGHBOUR: 'it returns false'. Refute it at one input. -/
def clashLinesWrong : ChangeSpec := { name := "clashLines", fn := fun _ => fun
  | [d1, d2, d3] => { results := [.lit (.bool false)], args := [d1, d2, d3] }
  | _ => none }
def ClashLinesWrongFalsely : Prop := clashLinesRow.holds Try.pinned (OpenSpec.ofChange clashLinesWrong)

/-- 'signetkeep.Climbed': WHATEVER THE INPUT: true; the input reads as it did. -/
def climbedSpec : ChangeSpec := { name := "climbed", fn := fun _ => fun
  | [d1, d2, d3] => { results := [.lit (.bool true)], args := [d1, d2, d3] }
  | _ => none }
def climbedRow : OpenClaim := { program := "ytpkkhkkkgjhkeaa", sum := "d3848153c8fdc0ab48ea4560800e0dcdf8254adabbd22251ab39ac0035802e11", func := "signet/signetkeep.Climbed", spec := "climbed", unfollowed := true, recurses := true, apart := false }
def ClimbedSaid : Prop := climbedRow.holds Try.pinned (OpenSpec.ofChange climbedSpec)

/-- ITS FALSE NEIGHBOUR: 'it returns false'. Refute it at one input. -/
def climbedWrong : ChangeSpec := { name := "climbed", fn := fun _ => fun
  | [d1, d2, d3] => { results := [.lit (.bool false)], args := [d1, d2, d3] }
  | _ => none }
def ClimbedWrongFalsely : Prop := climbedRow.holds Try.pinned (OpenSpec.ofChange climbedWrong)

/-- 'signetkeep.Opened': WHATEVER THE INPUT: true; the input reads as it did. -/
def openedSpec : ChangeSpec := { name := "opened", fn := fun _ => fun
  | [d1, d2, d3, d4, d5] => { results := [.lit (.bool true)], args := [d1, d2, d3, d4, d5] }
  | _ => none }
def openedRow : OpenClaim := { program := "ytpkkhkkkgjhkeaa", sum := "d3848153c8fdc0ab48ea4560800e0dcdf8254adabbd22251ab39ac0035802e11", func := "signet/signetkeep.Opened", spec := "opened", inPlace := ["maps.clone", "math/bits.Add64", "internal/abi.NoEscape", "internal/bytealg.MakeNoZero"], unfollowed := true, recurses := true, apart := false }
def OpenedSaid : Prop := openedRow.holds Try.pinned (OpenSpec.ofChange openedSpec)

/-- ITS FALSE NEIGHBOUR: 'it returns false'. Refute it at one input. -/
def openedWrong : ChangeSpec := { name := "opened", fn := fun _ => fun
  | [d1, d2, d3, d4, d5] => { results := [.lit (.bool false)], args := [d1, d2, d3, d4, d5] }
  | _ => none }
def OpenedWrongFalsely : Prop := openedRow.holds Try.pinned (OpenSpec.ofChange openedWrong)

/- THE SECOND FORM. 'bulk': how many values and letters a reading holds, each counted each time it is reached (what is shared counts as often as it is met; a slice's spare places count too). A statement '..UptoSaid' is the law's where the arguments, and the package variables that the reading takes, are together of bulk at most 1048576: NARROWER than '..Said'. Prove '..Said' where nothing that the law and all that it calls make is longer than what came in: it says more and counts as full. Else prove '..UptoSaid'. A law counts once. -/
mutual
def uptoBulk {H : Type} : DataW H → Nat
  | .lit (.string bytes) => bytes.length + 1
  | .lit _ => 1
  | .nil => 1
  | .ptr d => uptoBulk d + 1
  | .slice elems spare => uptoBulkAll elems + uptoBulkAll spare + 1
  | .agg parts => uptoBulkAll parts + 1
  | .iface _ d => uptoBulk d + 1
  | .map entries => uptoBulkEntries entries + 1
  | .held _ => 1
def uptoBulkAll {H : Type} : List (DataW H) → Nat
  | [] => 0
  | d :: r => uptoBulk d + uptoBulkAll r
def uptoBulkEntries {H : Type} : List (Lit × DataW H) → Nat
  | [] => 0
  | x :: r => uptoBulkEntry x + uptoBulkEntries r
def uptoBulkEntry {H : Type} : Lit × DataW H → Nat
  | (.string bytes, d) => bytes.length + uptoBulk d + 1
  | (_, d) => uptoBulk d + 1
 end
def uptoSmall : (H : Type) → List (DataW H) → Bool := fun _ ds => decide (uptoBulkAll ds ≤ 1048576)
def OpenSpec.upto (s : _root_.Go.ChangeSpec) : _root_.Go.OpenSpec := { _root_.Go.OpenSpec.ofChange s with cond := some uptoSmall }

/-- 'signetlaw.Sums', WHERE WHAT IT READS IS OF BULK AT MOST 1048576: true; the input reads as it did. -/
def sumsUptoRow : OpenClaim := { program := "ytpkkhkkkgjhkeaa", sum := "d3848153c8fdc0ab48ea4560800e0dcdf8254adabbd22251ab39ac0035802e11", func := "signet/signetlaw.Sums", spec := "sums", apart := false, narrowed := true }
def SumsUptoSaid : Prop := sumsUptoRow.holds Try.pinned (OpenSpec.upto sumsSpec)

/-- 'signetlaw.Roots', WHERE WHAT IT READS IS OF BULK AT MOST 1048576: true; the input reads as it did. -/
def rootsUptoRow : OpenClaim := { program := "ytpkkhkkkgjhkeaa", sum := "d3848153c8fdc0ab48ea4560800e0dcdf8254adabbd22251ab39ac0035802e11", func := "signet/signetlaw.Roots", spec := "roots", unfollowed := true, recurses := true, apart := false, narrowed := true }
def RootsUptoSaid : Prop := rootsUptoRow.holds Try.pinned (OpenSpec.upto rootsSpec)

/-- 'signetlaw.Seals', WHERE WHAT IT READS IS OF BULK AT MOST 1048576: true; the input reads as it did. -/
def sealsUptoRow : OpenClaim := { program := "ytpkkhkkkgjhkeaa", sum := "d3848153c8fdc0ab48ea4560800e0dcdf8254adabbd22251ab39ac0035802e11", func := "signet/signetlaw.Seals", spec := "seals", inPlace := ["maps.clone", "math/bits.Add64", "internal/abi.NoEscape", "internal/bytealg.MakeNoZero"], unfollowed := true, recurses := true, apart := false, narrowed := true }
def SealsUptoSaid : Prop := sealsUptoRow.holds Try.pinned (OpenSpec.upto sealsSpec)

/-- 'signetlaw.Decodes', WHERE WHAT IT READS IS OF BULK AT MOST 1048576: true; the input reads as it did. -/
def decodesUptoRow : OpenClaim := { program := "ytpkkhkkkgjhkeaa", sum := "d3848153c8fdc0ab48ea4560800e0dcdf8254adabbd22251ab39ac0035802e11", func := "signet/signetlaw.Decodes", spec := "decodes", inPlace := ["maps.clone", "math/bits.Add64", "internal/abi.NoEscape", "internal/bytealg.MakeNoZero"], unfollowed := true, recurses := true, apart := false, narrowed := true }
def DecodesUptoSaid : Prop := decodesUptoRow.holds Try.pinned (OpenSpec.upto decodesSpec)

/-- 'signetlaw.Verifies', WHERE WHAT IT READS IS OF BULK AT MOST 1048576: true; the input reads as it did. -/
def verifiesUptoRow : OpenClaim := { program := "ytpkkhkkkgjhkeaa", sum := "d3848153c8fdc0ab48ea4560800e0dcdf8254adabbd22251ab39ac0035802e11", func := "signet/signetlaw.Verifies", spec := "verifies", inPlace := ["maps.clone", "math/bits.Add64", "internal/abi.NoEscape", "internal/bytealg.MakeNoZero"], unfollowed := true, recurses := true, apart := false, narrowed := true }
def VerifiesUptoSaid : Prop := verifiesUptoRow.holds Try.pinned (OpenSpec.upto verifiesSpec)

/-- 'signetlaw.Looks', WHERE WHAT IT READS IS OF BULK AT MOST 1048576: true; the input reads as it did. -/
def looksUptoRow : OpenClaim := { program := "ytpkkhkkkgjhkeaa", sum := "d3848153c8fdc0ab48ea4560800e0dcdf8254adabbd22251ab39ac0035802e11", func := "signet/signetlaw.Looks", spec := "looks", inPlace := ["math/bits.Add64"], unfollowed := true, recurses := true, apart := false, narrowed := true }
def LooksUptoSaid : Prop := looksUptoRow.holds Try.pinned (OpenSpec.upto looksSpec)

/-- 'signetlaw.ClashLines', WHERE WHAT IT READS IS OF BULK AT MOST 1048576: true; the input reads as it did. -/
def clashLinesUptoRow : OpenClaim := { program := "ytpkkhkkkgjhkeaa", sum := "d3848153c8fdc0ab48ea4560800e0dcdf8254adabbd22251ab39ac0035802e11", func := "signet/signetlaw.ClashLines", spec := "clashLines", inPlace := ["math/bits.Add64"], unfollowed := true, recurses := true, apart := false, narrowed := true }
def ClashLinesUptoSaid : Prop := clashLinesUptoRow.holds Try.pinned (OpenSpec.upto clashLinesSpec)

/-- 'signetkeep.Climbed', WHERE WHAT IT READS IS OF BULK AT MOST 1048576: true; the input reads as it did. -/
def climbedUptoRow : OpenClaim := { program := "ytpkkhkkkgjhkeaa", sum := "d3848153c8fdc0ab48ea4560800e0dcdf8254adabbd22251ab39ac0035802e11", func := "signet/signetkeep.Climbed", spec := "climbed", unfollowed := true, recurses := true, apart := false, narrowed := true }
def ClimbedUptoSaid : Prop := climbedUptoRow.holds Try.pinned (OpenSpec.upto climbedSpec)

/-- 'signetkeep.Opened', WHERE WHAT IT READS IS OF BULK AT MOST 1048576: true; the input reads as it did. -/
def openedUptoRow : OpenClaim := { program := "ytpkkhkkkgjhkeaa", sum := "d3848153c8fdc0ab48ea4560800e0dcdf8254adabbd22251ab39ac0035802e11", func := "signet/signetkeep.Opened", spec := "opened", inPlace := ["maps.clone", "math/bits.Add64", "internal/abi.NoEscape", "internal/bytealg.MakeNoZero"], unfollowed := true, recurses := true, apart := false, narrowed := true }
def OpenedUptoSaid : Prop := openedUptoRow.holds Try.pinned (OpenSpec.upto openedSpec)

end Rows
end Go.Proofs.Ytpkkhkkkgjhkeaa
