/-
  No cell of these rows narrows 'for every input' (looked for: loops, veiled, ifaces, maps, wideKeys, modest, calm, conditions, laid).
  DERIVED. THE GIVEN ROWS OF THIS SEAT. 5 by the template 'for every input the law returns true; each argument reads behind the call as it read before'; 0 by the template 'total and deterministic' (their statements: YtclmgfcdnokaiaaTotals.lean).
  GIVEN WITH THE SEED: the statements are not yours to turn. If you find one false, say at which input.
  Laid BY PROGRAM, IN A SANDBOX (cutbox-rows.mjs): the forced cells as the released guide's own fill.sh prints them over the translation 8b3fa8f22cfe906f… (all of the seat's roots in one cut). By AI agents, Wed Nov 11 2026. No macro, syntax, notation, axiom, sorry.
-/
import Derived.Test.YtclmgfcdnokaiaaChecked
import GoSem.Claim
import GoSem.ClaimJoined
import GoSem.ClaimMapViews
import Derived.JoinedTies
import Derived.KernelRfl
namespace Go.Proofs.Ytclmgfcdnokaiaa
/- THE CELL 'sum', in the pinned program and in every row, IS THE sha256 OF THE DUMP (.gsa) THAT YtclmgfcdnokaiaaProg.lean LOADS. Nothing in Lean hashes anything: it is a label: what it is worth is what the hold of that sum in a sandbox is worth. -/
noncomputable def Try.pinned : Pinned := { name := "ytclmgfcdnokaiaa", sum := "8b3fa8f22cfe906fa58946a05930cea3a22cc7a332eb9d1b21016fc3a5b50134", checked := Try.checked }
namespace Rows
def none {H : Type} : Left H := { results := [], args := [] }

/-- 'graftlaw07.FormatEncodes': WHATEVER THE INPUT: true; the input reads as it did. -/
def formatEncodesSpec : ChangeSpec := { name := "formatEncodes", fn := fun _ => fun
  | [d] => { results := [.lit (.bool true)], args := [d] }
  | _ => none }
def formatEncodesRow : OpenClaim := { program := "ytclmgfcdnokaiaa", sum := "8b3fa8f22cfe906fa58946a05930cea3a22cc7a332eb9d1b21016fc3a5b50134", func := "graft/graftlaw07.FormatEncodes", spec := "formatEncodes", unfollowed := true, recurses := true, apart := false }
def FormatEncodesSaid : Prop := formatEncodesRow.holds Try.pinned (OpenSpec.ofChange formatEncodesSpec)

/-- ITS FALSE NEIGHBOUR: 'it returns false'. Refute it at one input. -/
def formatEncodesWrong : ChangeSpec := { name := "formatEncodes", fn := fun _ => fun
  | [d] => { results := [.lit (.bool false)], args := [d] }
  | _ => none }
def FormatEncodesWrongFalsely : Prop := formatEncodesRow.holds Try.pinned (OpenSpec.ofChange formatEncodesWrong)

/-- 'graftlaw07.FormatDecodes': WHATEVER THE INPUT: true; the input reads as it did. -/
def formatDecodesSpec : ChangeSpec := { name := "formatDecodes", fn := fun _ => fun
  | [d] => { results := [.lit (.bool true)], args := [d] }
  | _ => none }
def formatDecodesRow : OpenClaim := { program := "ytclmgfcdnokaiaa", sum := "8b3fa8f22cfe906fa58946a05930cea3a22cc7a332eb9d1b21016fc3a5b50134", func := "graft/graftlaw07.FormatDecodes", spec := "formatDecodes", unfollowed := true, recurses := true, apart := false }
def FormatDecodesSaid : Prop := formatDecodesRow.holds Try.pinned (OpenSpec.ofChange formatDecodesSpec)

/-- ITS FALSE NEIGHBOUR: 'it returns false'. Refute it at one input. -/
def formatDecodesWrong : ChangeSpec := { name := "formatDecodes", fn := fun _ => fun
  | [d] => { results := [.lit (.bool false)], args := [d] }
  | _ => none }
def FormatDecodesWrongFalsely : Prop := formatDecodesRow.holds Try.pinned (OpenSpec.ofChange formatDecodesWrong)

/-- 'graftlaw07.FormatInverse': WHATEVER THE INPUT: true; the input reads as it did. -/
def formatInverseSpec : ChangeSpec := { name := "formatInverse", fn := fun _ => fun
  | [d1, d2] => { results := [.lit (.bool true)], args := [d1, d2] }
  | _ => none }
def formatInverseRow : OpenClaim := { program := "ytclmgfcdnokaiaa", sum := "8b3fa8f22cfe906fa58946a05930cea3a22cc7a332eb9d1b21016fc3a5b50134", func := "graft/graftlaw07.FormatInverse", spec := "formatInverse", unfollowed := true, recurses := true, apart := false }
def FormatInverseSaid : Prop := formatInverseRow.holds Try.pinned (OpenSpec.ofChange formatInverseSpec)

/-- ITS FALSE NEIGHBOUR: 'it returns false'. Refute it at one input. -/
def formatInverseWrong : ChangeSpec := { name := "formatInverse", fn := fun _ => fun
  | [d1, d2] => { results := [.lit (.bool false)], args := [d1, d2] }
  | _ => none }
def FormatInverseWrongFalsely : Prop := formatInverseRow.holds Try.pinned (OpenSpec.ofChange formatInverseWrong)

/-- 'graftlaw07.FormatOnce': WHATEVER THE INPUT: true; the input reads as it did. -/
def formatOnceSpec : ChangeSpec := { name := "formatOnce", fn := fun _ => fun
  | [d] => { results := [.lit (.bool true)], args := [d] }
  | _ => none }
def formatOnceRow : OpenClaim := { program := "ytclmgfcdnokaiaa", sum := "8b3fa8f22cfe906fa58946a05930cea3a22cc7a332eb9d1b21016fc3a5b50134", func := "graft/graftlaw07.FormatOnce", spec := "formatOnce", unfollowed := true, recurses := true, apart := false }
def FormatOnceSaid : Prop := formatOnceRow.holds Try.pinned (OpenSpec.ofChange formatOnceSpec)

/-- ITS FALSE NEIGHBOUR: 'it returns false'. Refute it at one input. -/
def formatOnceWrong : ChangeSpec := { name := "formatOnce", fn := fun _ => fun
  | [d] => { results := [.lit (.bool false)], args := [d] }
  | _ => none }
def FormatOnceWrongFalsely : Prop := formatOnceRow.holds Try.pinned (OpenSpec.ofChange formatOnceWrong)

/-- 'graftlaw07.FormatCuts': WHATEVER THE INPUT: true; the input reads as it did. -/
def formatCutsSpec : ChangeSpec := { name := "formatCuts", fn := fun _ => fun
  | [d1, d2] => { results := [.lit (.bool true)], args := [d1, d2] }
  | _ => none }
def formatCutsRow : OpenClaim := { program := "ytclmgfcdnokaiaa", sum := "8b3fa8f22cfe906fa58946a05930cea3a22cc7a332eb9d1b21016fc3a5b50134", func := "graft/graftlaw07.FormatCuts", spec := "formatCuts", unfollowed := true, recurses := true, apart := false }
def FormatCutsSaid : Prop := formatCutsRow.holds Try.pinned (OpenSpec.ofChange formatCutsSpec)

/-- ITS FALSE NEIGHBOUR: 'it returns false'. Refute it at one input. -/
def formatCutsWrong : ChangeSpec := { name := "formatCuts", fn := fun _ => fun
  | [d1, d2] => { results := [.lit (.bool false)], args := [d1, d2] }
  | _ => none }
def FormatCutsWrongFalsely : Prop := formatCutsRow.holds Try.pinned (OpenSpec.ofChange formatCutsWrong)

/- THE SECOND FORM. 'bulk': how many values and letters a reading holds, each counted each time it is reached (what is shared counts as often as it is met; a slice's spare places count too). A statement '..UptoSaid' is the law's where the arguments, and the package variables that the reading takes, are together of bulk at most 1048576: NARROWER than '..Said'. Prove '..Said' where nothing that the law and all that it calls make is longer than what came in: it says more and counts as full. Else prove '..UptoSaid'. A law counts once. -/
mutual
def uptoBulk {H : Type} : DataW H → Nat
  | .lit (.string bytes) => bytes.length + 1
  | .lit _ => 1
  | .nil => 1
  | .ptr d => uptoBulk d + 1
  | .slice elems spare => uptoBulkAll elems + uptoBulkAll spare + 1
  | .agg parts => uptoBulkAll parts + 1
  | .iface _ d => uptoBulk d + 1
  | .map entries => uptoBulkEntries entries + 1
  | .held _ => 1
def uptoBulkAll {H : Type} : List (DataW H) → Nat
  | [] => 0
  | d :: r => uptoBulk d + uptoBulkAll r
def uptoBulkEntries {H : Type} : List (Lit × DataW H) → Nat
  | [] => 0
  | x :: r => uptoBulkEntry x + uptoBulkEntries r
def uptoBulkEntry {H : Type} : Lit × DataW H → Nat
  | (.string bytes, d) => bytes.length + uptoBulk d + 1
  | (_, d) => uptoBulk d + 1
 end
def uptoSmall : (H : Type) → List (DataW H) → Bool := fun _ ds => decide (uptoBulkAll ds ≤ 1048576)
def OpenSpec.upto (s : _root_.Go.ChangeSpec) : _root_.Go.OpenSpec := { _root_.Go.OpenSpec.ofChange s with cond := some uptoSmall }

/-- 'graftlaw07.FormatEncodes', WHERE WHAT IT READS IS OF BULK AT MOST 1048576: true; the input reads as it did. -/
def formatEncodesUptoRow : OpenClaim := { program := "ytclmgfcdnokaiaa", sum := "8b3fa8f22cfe906fa58946a05930cea3a22cc7a332eb9d1b21016fc3a5b50134", func := "graft/graftlaw07.FormatEncodes", spec := "formatEncodes", unfollowed := true, recurses := true, apart := false, narrowed := true }
def FormatEncodesUptoSaid : Prop := formatEncodesUptoRow.holds Try.pinned (OpenSpec.upto formatEncodesSpec)

/-- 'graftlaw07.FormatDecodes', WHERE WHAT IT READS IS OF BULK AT MOST 1048576: true; the input reads as it did. -/
def formatDecodesUptoRow : OpenClaim := { program := "ytclmgfcdnokaiaa", sum := "8b3fa8f22cfe906fa58946a05930cea3a22cc7a332eb9d1b21016fc3a5b50134", func := "graft/graftlaw07.FormatDecodes", spec := "formatDecodes", unfollowed := true, recurses := true, apart := false, narrowed := true }
def FormatDecodesUptoSaid : Prop := formatDecodesUptoRow.holds Try.pinned (OpenSpec.upto formatDecodesSpec)

/-- 'graftlaw07.FormatInverse', WHERE WHAT IT READS IS OF BULK AT MOST 1048576: true; the input reads as it did. -/
def formatInverseUptoRow : OpenClaim := { program := "ytclmgfcdnokaiaa", sum := "8b3fa8f22cfe906fa58946a05930cea3a22cc7a332eb9d1b21016fc3a5b50134", func := "graft/graftlaw07.FormatInverse", spec := "formatInverse", unfollowed := true, recurses := true, apart := false, narrowed := true }
def FormatInverseUptoSaid : Prop := formatInverseUptoRow.holds Try.pinned (OpenSpec.upto formatInverseSpec)

/-- 'graftlaw07.FormatOnce', WHERE WHAT IT READS IS OF BULK AT MOST 1048576: true; the input reads as it did. -/
def formatOnceUptoRow : OpenClaim := { program := "ytclmgfcdnokaiaa", sum := "8b3fa8f22cfe906fa58946a05930cea3a22cc7a332eb9d1b21016fc3a5b50134", func := "graft/graftlaw07.FormatOnce", spec := "formatOnce", unfollowed := true, recurses := true, apart := false, narrowed := true }
def FormatOnceUptoSaid : Prop := formatOnceUptoRow.holds Try.pinned (OpenSpec.upto formatOnceSpec)

/-- 'graftlaw07.FormatCuts', WHERE WHAT IT READS IS OF BULK AT MOST 1048576: true; the input reads as it did. -/
def formatCutsUptoRow : OpenClaim := { program := "ytclmgfcdnokaiaa", sum := "8b3fa8f22cfe906fa58946a05930cea3a22cc7a332eb9d1b21016fc3a5b50134", func := "graft/graftlaw07.FormatCuts", spec := "formatCuts", unfollowed := true, recurses := true, apart := false, narrowed := true }
def FormatCutsUptoSaid : Prop := formatCutsUptoRow.holds Try.pinned (OpenSpec.upto formatCutsSpec)

end Rows
end Go.Proofs.Ytclmgfcdnokaiaa
