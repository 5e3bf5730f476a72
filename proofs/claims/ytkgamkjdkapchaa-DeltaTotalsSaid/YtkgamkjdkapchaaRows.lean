/-
  No cell of these rows narrows 'for every input' (looked for: loops, veiled, ifaces, maps, wideKeys, modest, calm, conditions, laid).
  DERIVED. THE GIVEN ROWS OF THIS SEAT. 5 by the template 'for every input the law returns true; each argument reads behind the call as it read before'; 0 by the template 'total and deterministic' (their statements: YtkgamkjdkapchaaTotals.lean).
  GIVEN WITH THE SEED: the statements are not yours to turn. If you find one false, say at which input.
  Laid BY PROGRAM, IN A SANDBOX (cutbox-rows.mjs): the forced cells as the released guide's own fill.sh prints them over the translation e9186840e47cc8c1… (all of the seat's roots in one cut). By AI agents, Wed Nov 11 2026. No macro, syntax, notation, axiom, sorry.
-/
import Derived.Test.YtkgamkjdkapchaaChecked
import GoSem.Claim
import GoSem.ClaimJoined
import GoSem.ClaimMapViews
import Derived.JoinedTies
import Derived.KernelRfl
namespace Go.Proofs.Ytkgamkjdkapchaa
/- THE CELL 'sum', in the pinned program and in every row, IS THE sha256 OF THE DUMP (.gsa) THAT YtkgamkjdkapchaaProg.lean LOADS. Nothing in Lean hashes anything: it is a label: what it is worth is what the hold of that sum in a sandbox is worth. -/
noncomputable def Try.pinned : Pinned := { name := "ytkgamkjdkapchaa", sum := "e9186840e47cc8c12910eb993122c87a5a2de238b609994c524a0976e704b84b", checked := Try.checked }
namespace Rows
def none {H : Type} : Left H := { results := [], args := [] }

/-- 'graftlaw05.DeltaChecks': WHATEVER THE INPUT: true; the input reads as it did. -/
def deltaChecksSpec : ChangeSpec := { name := "deltaChecks", fn := fun _ => fun
  | [d] => { results := [.lit (.bool true)], args := [d] }
  | _ => none }
def deltaChecksRow : OpenClaim := { program := "ytkgamkjdkapchaa", sum := "e9186840e47cc8c12910eb993122c87a5a2de238b609994c524a0976e704b84b", func := "graft/graftlaw05.DeltaChecks", spec := "deltaChecks", unfollowed := true, recurses := true, apart := false }
def DeltaChecksSaid : Prop := deltaChecksRow.holds Try.pinned (OpenSpec.ofChange deltaChecksSpec)

/-- ITS FALSE NEIGHBOUR: 'it returns false'. Refute it at one input. -/
def deltaChecksWrong : ChangeSpec := { name := "deltaChecks", fn := fun _ => fun
  | [d] => { results := [.lit (.bool false)], args := [d] }
  | _ => none }
def DeltaChecksWrongFalsely : Prop := deltaChecksRow.holds Try.pinned (OpenSpec.ofChange deltaChecksWrong)

/-- 'graftlaw05.DeltaTotals': WHATEVER THE INPUT: true; the input reads as it did. -/
def deltaTotalsSpec : ChangeSpec := { name := "deltaTotals", fn := fun _ => fun
  | [d] => { results := [.lit (.bool true)], args := [d] }
  | _ => none }
def deltaTotalsRow : OpenClaim := { program := "ytkgamkjdkapchaa", sum := "e9186840e47cc8c12910eb993122c87a5a2de238b609994c524a0976e704b84b", func := "graft/graftlaw05.DeltaTotals", spec := "deltaTotals", unfollowed := true, recurses := true, apart := false }
def DeltaTotalsSaid : Prop := deltaTotalsRow.holds Try.pinned (OpenSpec.ofChange deltaTotalsSpec)

/-- ITS FALSE NEIGHBOUR: 'it returns false'. Refute it at one input. -/
def deltaTotalsWrong : ChangeSpec := { name := "deltaTotals", fn := fun _ => fun
  | [d] => { results := [.lit (.bool false)], args := [d] }
  | _ => none }
def DeltaTotalsWrongFalsely : Prop := deltaTotalsRow.holds Try.pinned (OpenSpec.ofChange deltaTotalsWrong)

/-- 'graftlaw05.DeltaSorts': WHATEVER THE INPUT: true; the input reads as it did. -/
def deltaSortsSpec : ChangeSpec := { name := "deltaSorts", fn := fun _ => fun
  | [d] => { results := [.lit (.bool true)], args := [d] }
  | _ => none }
def deltaSortsRow : OpenClaim := { program := "ytkgamkjdkapchaa", sum := "e9186840e47cc8c12910eb993122c87a5a2de238b609994c524a0976e704b84b", func := "graft/graftlaw05.DeltaSorts", spec := "deltaSorts", unfollowed := true, recurses := true, apart := false }
def DeltaSortsSaid : Prop := deltaSortsRow.holds Try.pinned (OpenSpec.ofChange deltaSortsSpec)

/-- ITS FALSE NEIGHBOUR: 'it returns false'. Refute it at one input. -/
def deltaSortsWrong : ChangeSpec := { name := "deltaSorts", fn := fun _ => fun
  | [d] => { results := [.lit (.bool false)], args := [d] }
  | _ => none }
def DeltaSortsWrongFalsely : Prop := deltaSortsRow.holds Try.pinned (OpenSpec.ofChange deltaSortsWrong)

/-- 'graftlaw05.DeltaWith': WHATEVER THE INPUT: true; the input reads as it did. -/
def deltaWithSpec : ChangeSpec := { name := "deltaWith", fn := fun _ => fun
  | [d1, d2] => { results := [.lit (.bool true)], args := [d1, d2] }
  | _ => none }
def deltaWithRow : OpenClaim := { program := "ytkgamkjdkapchaa", sum := "e9186840e47cc8c12910eb993122c87a5a2de238b609994c524a0976e704b84b", func := "graft/graftlaw05.DeltaWith", spec := "deltaWith", unfollowed := true, recurses := true, apart := false }
def DeltaWithSaid : Prop := deltaWithRow.holds Try.pinned (OpenSpec.ofChange deltaWithSpec)

/-- ITS FALSE NEIGHBOUR: 'it returns false'. Refute it at one input. -/
def deltaWithWrong : ChangeSpec := { name := "deltaWith", fn := fun _ => fun
  | [d1, d2] => { results := [.lit (.bool false)], args := [d1, d2] }
  | _ => none }
def DeltaWithWrongFalsely : Prop := deltaWithRow.holds Try.pinned (OpenSpec.ofChange deltaWithWrong)

/-- 'graftlaw05.DeltaBreaks': WHATEVER THE INPUT: true; the input reads as it did. -/
def deltaBreaksSpec : ChangeSpec := { name := "deltaBreaks", fn := fun _ => fun
  | [d1, d2] => { results := [.lit (.bool true)], args := [d1, d2] }
  | _ => none }
def deltaBreaksRow : OpenClaim := { program := "ytkgamkjdkapchaa", sum := "e9186840e47cc8c12910eb993122c87a5a2de238b609994c524a0976e704b84b", func := "graft/graftlaw05.DeltaBreaks", spec := "deltaBreaks", unfollowed := true, recurses := true, apart := false }
def DeltaBreaksSaid : Prop := deltaBreaksRow.holds Try.pinned (OpenSpec.ofChange deltaBreaksSpec)

/-- ITS FALSE NEIGHBOUR: 'it returns false'. Refute it at one input. -/
def deltaBreaksWrong : ChangeSpec := { name := "deltaBreaks", fn := fun _ => fun
  | [d1, d2] => { results := [.lit (.bool false)], args := [d1, d2] }
  | _ => none }
def DeltaBreaksWrongFalsely : Prop := deltaBreaksRow.holds Try.pinned (OpenSpec.ofChange deltaBreaksWrong)

/- THE SECOND FORM. 'bulk': how many values and letters a reading holds, each counted each time it is reached (what is shared counts as often as it is met; a slice's spare places count too). A statement '..UptoSaid' is the law's where the arguments, and the package variables that the reading takes, are together of bulk at most 1048576: NARROWER than '..Said'. Prove '..Said' where nothing that the law and all that it calls make is longer than what came in: it says more and counts as full. Else prove '..UptoSaid'. A law counts once. -/
mutual
def uptoBulk {H : Type} : DataW H → Nat
  | .lit (.string bytes) => bytes.length + 1
  | .lit _ => 1
  | .nil => 1
  | .ptr d => uptoBulk d + 1
  | .slice elems spare => uptoBulkAll elems + uptoBulkAll spare + 1
  | .agg parts => uptoBulkAll parts + 1
  | .iface _ d => uptoBulk d + 1
  | .map entries => uptoBulkEntries entries + 1
  | .held _ => 1
def uptoBulkAll {H : Type} : List (DataW H) → Nat
  | [] => 0
  | d :: r => uptoBulk d + uptoBulkAll r
def uptoBulkEntries {H : Type} : List (Lit × DataW H) → Nat
  | [] => 0
  | x :: r => uptoBulkEntry x + uptoBulkEntries r
def uptoBulkEntry {H : Type} : Lit × DataW H → Nat
  | (.string bytes, d) => bytes.length + uptoBulk d + 1
  | (_, d) => uptoBulk d + 1
 end
def uptoSmall : (H : Type) → List (DataW H) → Bool := fun _ ds => decide (uptoBulkAll ds ≤ 1048576)
def OpenSpec.upto (s : _root_.Go.ChangeSpec) : _root_.Go.OpenSpec := { _root_.Go.OpenSpec.ofChange s with cond := some uptoSmall }

/-- 'graftlaw05.DeltaChecks', WHERE WHAT IT READS IS OF BULK AT MOST 1048576: true; the input reads as it did. -/
def deltaChecksUptoRow : OpenClaim := { program := "ytkgamkjdkapchaa", sum := "e9186840e47cc8c12910eb993122c87a5a2de238b609994c524a0976e704b84b", func := "graft/graftlaw05.DeltaChecks", spec := "deltaChecks", unfollowed := true, recurses := true, apart := false, narrowed := true }
def DeltaChecksUptoSaid : Prop := deltaChecksUptoRow.holds Try.pinned (OpenSpec.upto deltaChecksSpec)

/-- 'graftlaw05.DeltaTotals', WHERE WHAT IT READS IS OF BULK AT MOST 1048576: true; the input reads as it did. -/
def deltaTotalsUptoRow : OpenClaim := { program := "ytkgamkjdkapchaa", sum := "e9186840e47cc8c12910eb993122c87a5a2de238b609994c524a0976e704b84b", func := "graft/graftlaw05.DeltaTotals", spec := "deltaTotals", unfollowed := true, recurses := true, apart := false, narrowed := true }
def DeltaTotalsUptoSaid : Prop := deltaTotalsUptoRow.holds Try.pinned (OpenSpec.upto deltaTotalsSpec)

/-- 'graftlaw05.DeltaSorts', WHERE WHAT IT READS IS OF BULK AT MOST 1048576: true; the input reads as it did. -/
def deltaSortsUptoRow : OpenClaim := { program := "ytkgamkjdkapchaa", sum := "e9186840e47cc8c12910eb993122c87a5a2de238b609994c524a0976e704b84b", func := "graft/graftlaw05.DeltaSorts", spec := "deltaSorts", unfollowed := true, recurses := true, apart := false, narrowed := true }
def DeltaSortsUptoSaid : Prop := deltaSortsUptoRow.holds Try.pinned (OpenSpec.upto deltaSortsSpec)

/-- 'graftlaw05.DeltaWith', WHERE WHAT IT READS IS OF BULK AT MOST 1048576: true; the input reads as it did. -/
def deltaWithUptoRow : OpenClaim := { program := "ytkgamkjdkapchaa", sum := "e9186840e47cc8c12910eb993122c87a5a2de238b609994c524a0976e704b84b", func := "graft/graftlaw05.DeltaWith", spec := "deltaWith", unfollowed := true, recurses := true, apart := false, narrowed := true }
def DeltaWithUptoSaid : Prop := deltaWithUptoRow.holds Try.pinned (OpenSpec.upto deltaWithSpec)

/-- 'graftlaw05.DeltaBreaks', WHERE WHAT IT READS IS OF BULK AT MOST 1048576: true; the input reads as it did. -/
def deltaBreaksUptoRow : OpenClaim := { program := "ytkgamkjdkapchaa", sum := "e9186840e47cc8c12910eb993122c87a5a2de238b609994c524a0976e704b84b", func := "graft/graftlaw05.DeltaBreaks", spec := "deltaBreaks", unfollowed := true, recurses := true, apart := false, narrowed := true }
def DeltaBreaksUptoSaid : Prop := deltaBreaksUptoRow.holds Try.pinned (OpenSpec.upto deltaBreaksSpec)

end Rows
end Go.Proofs.Ytkgamkjdkapchaa
