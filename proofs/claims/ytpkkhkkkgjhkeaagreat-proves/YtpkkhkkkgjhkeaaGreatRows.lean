/-
  No cell of these rows narrows 'for every input' (looked for: loops, veiled, ifaces, maps, wideKeys, modest, calm, conditions, laid).
  DERIVED. THE GIVEN ROWS OF THIS SEAT. 3 by the template 'for every input the law returns true; each argument reads behind the call as it read before'; 0 by the template 'total and deterministic' (their statements: YtpkkhkkkgjhkeaaGreatTotals.lean).
  GIVEN WITH THE SEED: the statements are not yours to turn. If you find one false, say at which input.
  Laid BY PROGRAM, IN A SANDBOX (cutbox-rows.mjs): the forced cells as the released guide's own fill.sh prints them over the translation 9651a2e8f6b06f89… (all of the seat's roots in one cut). By AI agents, Wed Nov 11 2026. No macro, syntax, notation, axiom, sorry.
-/
import Derived.Test.YtpkkhkkkgjhkeaaGreatChecked
import GoSem.Claim
import GoSem.ClaimJoined
import GoSem.ClaimMapViews
import Derived.JoinedTies
import Derived.KernelRfl
namespace Go.Proofs.YtpkkhkkkgjhkeaaGreat
/- THE CELL 'sum', in the pinned program and in every row, IS THE sha256 OF THE DUMP (.gsa) THAT YtpkkhkkkgjhkeaaGreatProg.lean LOADS. Nothing in Lean hashes anything: it is a label: what it is worth is what the hold of that sum in a sandbox is worth. -/
noncomputable def Tryz.pinned : Pinned := { name := "ytpkkhkkkgjhkeaagreat", sum := "9651a2e8f6b06f89e4aa4175cce74f8cce3d9828883e242de26f0f14d7ba6e6f", checked := Tryz.checked }
namespace Rows
def none {H : Type} : Left H := { results := [], args := [] }

/-- 'signetlaw.Extends': WHATEVER THE INPUT: true; the input reads as it did. -/
def extendsSpec : ChangeSpec := { name := "extends", fn := fun _ => fun
  | [d1, d2] => { results := [.lit (.bool true)], args := [d1, d2] }
  | _ => none }
def extendsRow : OpenClaim := { program := "ytpkkhkkkgjhkeaagreat", sum := "9651a2e8f6b06f89e4aa4175cce74f8cce3d9828883e242de26f0f14d7ba6e6f", func := "signet/signetlaw.Extends", spec := "extends", inPlace := ["maps.clone", "math/bits.Add64", "internal/abi.NoEscape", "internal/bytealg.MakeNoZero"], unfollowed := true, recurses := true, apart := false }
def ExtendsSaid : Prop := extendsRow.holds Tryz.pinned (OpenSpec.ofChange extendsSpec)

/-- ITS FALSE NEIGHBOUR: 'it returns false'. Refute it at one input. -/
def extendsWrong : ChangeSpec := { name := "extends", fn := fun _ => fun
  | [d1, d2] => { results := [.lit (.bool false)], args := [d1, d2] }
  | _ => none }
def ExtendsWrongFalsely : Prop := extendsRow.holds Tryz.pinned (OpenSpec.ofChange extendsWrong)

/-- 'signetlaw.Proves': WHATEVER THE INPUT: true; the input reads as it did. -/
def provesSpec : ChangeSpec := { name := "proves", fn := fun _ => fun
  | [d1, d2, d3] => { results := [.lit (.bool true)], args := [d1, d2, d3] }
  | _ => none }
def provesRow : OpenClaim := { program := "ytpkkhkkkgjhkeaagreat", sum := "9651a2e8f6b06f89e4aa4175cce74f8cce3d9828883e242de26f0f14d7ba6e6f", func := "signet/signetlaw.Proves", spec := "proves", inPlace := ["maps.clone", "math/bits.Add64", "internal/abi.NoEscape", "internal/bytealg.MakeNoZero"], unfollowed := true, recurses := true, apart := false }
def ProvesSaid : Prop := provesRow.holds Tryz.pinned (OpenSpec.ofChange provesSpec)

/-- ITS FALSE NEIGHBOUR: 'it returns false'. Refute it at one input. -/
def provesWrong : ChangeSpec := { name := "proves", fn := fun _ => fun
  | [d1, d2, d3] => { results := [.lit (.bool false)], args := [d1, d2, d3] }
  | _ => none }
def ProvesWrongFalsely : Prop := provesRow.holds Tryz.pinned (OpenSpec.ofChange provesWrong)

/-- 'signetlaw.Clashes': WHATEVER THE INPUT: true; the input reads as it did. -/
def clashesSpec : ChangeSpec := { name := "clashes", fn := fun _ => fun
  | [d1, d2] => { results := [.lit (.bool true)], args := [d1, d2] }
  | _ => none }
def clashesRow : OpenClaim := { program := "ytpkkhkkkgjhkeaagreat", sum := "9651a2e8f6b06f89e4aa4175cce74f8cce3d9828883e242de26f0f14d7ba6e6f", func := "signet/signetlaw.Clashes", spec := "clashes", inPlace := ["maps.clone", "math/bits.Add64", "internal/abi.NoEscape", "internal/bytealg.MakeNoZero"], unfollowed := true, recurses := true, apart := false }
def ClashesSaid : Prop := clashesRow.holds Tryz.pinned (OpenSpec.ofChange clashesSpec)

/-- ITS FALSE NEIGHBOUR: 'it returns false'. Refute it at one input. -/
def clashesWrong : ChangeSpec := { name := "clashes", fn := fun _ => fun
  | [d1, d2] => { results := [.lit (.bool false)], args := [d1, d2] }
  | _ => none }
def ClashesWrongFalsely : Prop := clashesRow.holds Tryz.pinned (OpenSpec.ofChange clashesWrong)

/- THE SECOND FORM. 'bulk': how many values and letters a reading holds, each counted each time it is reached (what is shared counts as often as it is met; a slice's spare places count too). A statement '..UptoSaid' is the law's where the arguments, and the package variables that the reading takes, are together of bulk at most 1048576: NARROWER than '..Said'. Prove '..Said' where nothing that the law and all that it calls make is longer than what came in: it says more and counts as full. Else prove '..UptoSaid'. A law counts once. -/
mutual
def uptoBulk {H : Type} : DataW H → Nat
  | .lit (.string bytes) => bytes.length + 1
  | .lit _ => 1
  | .nil => 1
  | .ptr d => uptoBulk d + 1
  | .slice elems spare => uptoBulkAll elems + uptoBulkAll spare + 1
  | .agg parts => uptoBulkAll parts + 1
  | .iface _ d => uptoBulk d + 1
  | .map entries => uptoBulkEntries entries + 1
  | .held _ => 1
def uptoBulkAll {H : Type} : List (DataW H) → Nat
  | [] => 0
  | d :: r => uptoBulk d + uptoBulkAll r
def uptoBulkEntries {H : Type} : List (Lit × DataW H) → Nat
  | [] => 0
  | x :: r => uptoBulkEntry x + uptoBulkEntries r
def uptoBulkEntry {H : Type} : Lit × DataW H → Nat
  | (.string bytes, d) => bytes.length + uptoBulk d + 1
  | (_, d) => uptoBulk d + 1
 end
def uptoSmall : (H : Type) → List (DataW H) → Bool := fun _ ds => decide (uptoBulkAll ds ≤ 1048576)
def OpenSpec.upto (s : _root_.Go.ChangeSpec) : _root_.Go.OpenSpec := { _root_.Go.OpenSpec.ofChange s with cond := some uptoSmall }

/-- 'signetlaw.Extends', WHERE WHAT IT READS IS OF BULK AT MOST 1048576: true; the input reads as it did. -/
def extendsUptoRow : OpenClaim := { program := "ytpkkhkkkgjhkeaagreat", sum := "9651a2e8f6b06f89e4aa4175cce74f8cce3d9828883e242de26f0f14d7ba6e6f", func := "signet/signetlaw.Extends", spec := "extends", inPlace := ["maps.clone", "math/bits.Add64", "internal/abi.NoEscape", "internal/bytealg.MakeNoZero"], unfollowed := true, recurses := true, apart := false, narrowed := true }
def ExtendsUptoSaid : Prop := extendsUptoRow.holds Tryz.pinned (OpenSpec.upto extendsSpec)

/-- 'signetlaw.Proves', WHERE WHAT IT READS IS OF BULK AT MOST 1048576: true; the input reads as it did. -/
def provesUptoRow : OpenClaim := { program := "ytpkkhkkkgjhkeaagreat", sum := "9651a2e8f6b06f89e4aa4175cce74f8cce3d9828883e242de26f0f14d7ba6e6f", func := "signet/signetlaw.Proves", spec := "proves", inPlace := ["maps.clone", "math/bits.Add64", "internal/abi.NoEscape", "internal/bytealg.MakeNoZero"], unfollowed := true, recurses := true, apart := false, narrowed := true }
def ProvesUptoSaid : Prop := provesUptoRow.holds Tryz.pinned (OpenSpec.upto provesSpec)

/-- 'signetlaw.Clashes', WHERE WHAT IT READS IS OF BULK AT MOST 1048576: true; the input reads as it did. -/
def clashesUptoRow : OpenClaim := { program := "ytpkkhkkkgjhkeaagreat", sum := "9651a2e8f6b06f89e4aa4175cce74f8cce3d9828883e242de26f0f14d7ba6e6f", func := "signet/signetlaw.Clashes", spec := "clashes", inPlace := ["maps.clone", "math/bits.Add64", "internal/abi.NoEscape", "internal/bytealg.MakeNoZero"], unfollowed := true, recurses := true, apart := false, narrowed := true }
def ClashesUptoSaid : Prop := clashesUptoRow.holds Tryz.pinned (OpenSpec.upto clashesSpec)

end Rows
end Go.Proofs.YtpkkhkkkgjhkeaaGreat
