/-
  No cell of these rows narrows 'for every input' (looked for: loops, veiled, ifaces, maps, wideKeys, modest, calm, conditions, laid).
  DERIVED. THE GIVEN ROWS OF THIS SEAT. 3 by the template 'for every input the law returns true; each argument reads behind the call as it read before'; 0 by the template 'total and deterministic' (their statements: YtnnmplkgenhofaaTotals.lean).
  GIVEN WITH THE SEED: the statements are not yours to turn. If you find one false, say at which input.
  Laid BY PROGRAM, IN A SANDBOX (cutbox-rows.mjs): the forced cells as the released guide's own fill.sh prints them over the translation 4ce4464f6cd88f61… (all of the seat's roots in one cut). By AI agents, Wed Nov 11 2026. No macro, syntax, notation, axiom, sorry.
-/
import Derived.Test.YtnnmplkgenhofaaChecked
import GoSem.Claim
import GoSem.ClaimJoined
import GoSem.ClaimMapViews
import Derived.JoinedTies
import Derived.KernelRfl
namespace Go.Proofs.Ytnnmplkgenhofaa
/- THE CELL 'sum', in the pinned program and in every row, IS THE sha256 OF THE DUMP (.gsa) THAT YtnnmplkgenhofaaProg.lean LOADS. Nothing in Lean hashes anything: it is a label: what it is worth is what the hold of that sum in a sandbox is worth. -/
noncomputable def Try.pinned : Pinned := { name := "ytnnmplkgenhofaa", sum := "4ce4464f6cd88f61e877ccfb937f606168d83cc692e0393191078b4b624aab3e", checked := Try.checked }
namespace Rows
def none {H : Type} : Left H := { results := [], args := [] }

/-- 'parquetrylaw10.GraphMade': WHATEVER THE INPUT: true; the input reads as it did. -/
def graphMadeSpec : ChangeSpec := { name := "graphMade", fn := fun _ => fun
  | [d] => { results := [.lit (.bool true)], args := [d] }
  | _ => none }
def graphMadeRow : OpenClaim := { program := "ytnnmplkgenhofaa", sum := "4ce4464f6cd88f61e877ccfb937f606168d83cc692e0393191078b4b624aab3e", func := "parquetry/parquetrylaw10.GraphMade", spec := "graphMade", unfollowed := true, recurses := true, apart := false }
def GraphMadeSaid : Prop := graphMadeRow.holds Try.pinned (OpenSpec.ofChange graphMadeSpec)

/-- ITS FALSE NEIGHBOUR: 'it returns false'. Refute it at one input. -/
def graphMadeWrong : ChangeSpec := { name := "graphMade", fn := fun _ => fun
  | [d] => { results := [.lit (.bool false)], args := [d] }
  | _ => none }
def GraphMadeWrongFalsely : Prop := graphMadeRow.holds Try.pinned (OpenSpec.ofChange graphMadeWrong)

/-- 'parquetrylaw10.GraphCopies': WHATEVER THE INPUT: true; the input reads as it did. -/
def graphCopiesSpec : ChangeSpec := { name := "graphCopies", fn := fun _ => fun
  | [d] => { results := [.lit (.bool true)], args := [d] }
  | _ => none }
def graphCopiesRow : OpenClaim := { program := "ytnnmplkgenhofaa", sum := "4ce4464f6cd88f61e877ccfb937f606168d83cc692e0393191078b4b624aab3e", func := "parquetry/parquetrylaw10.GraphCopies", spec := "graphCopies", unfollowed := true, recurses := true, apart := false }
def GraphCopiesSaid : Prop := graphCopiesRow.holds Try.pinned (OpenSpec.ofChange graphCopiesSpec)

/-- ITS FALSE NEIGHBOUR: 'it returns false'. Refute it at one input. -/
def graphCopiesWrong : ChangeSpec := { name := "graphCopies", fn := fun _ => fun
  | [d] => { results := [.lit (.bool false)], args := [d] }
  | _ => none }
def GraphCopiesWrongFalsely : Prop := graphCopiesRow.holds Try.pinned (OpenSpec.ofChange graphCopiesWrong)

/-- 'parquetrylaw10.GraphNotes': WHATEVER THE INPUT: true; the input reads as it did. -/
def graphNotesSpec : ChangeSpec := { name := "graphNotes", fn := fun _ => fun
  | [d1, d2] => { results := [.lit (.bool true)], args := [d1, d2] }
  | _ => none }
def graphNotesRow : OpenClaim := { program := "ytnnmplkgenhofaa", sum := "4ce4464f6cd88f61e877ccfb937f606168d83cc692e0393191078b4b624aab3e", func := "parquetry/parquetrylaw10.GraphNotes", spec := "graphNotes", unfollowed := true, recurses := true, apart := false }
def GraphNotesSaid : Prop := graphNotesRow.holds Try.pinned (OpenSpec.ofChange graphNotesSpec)

/-- ITS FALSE NEIGHBOUR: 'it returns false'. Refute it at one input. -/
def graphNotesWrong : ChangeSpec := { name := "graphNotes", fn := fun _ => fun
  | [d1, d2] => { results := [.lit (.bool false)], args := [d1, d2] }
  | _ => none }
def GraphNotesWrongFalsely : Prop := graphNotesRow.holds Try.pinned (OpenSpec.ofChange graphNotesWrong)

/- THE SECOND FORM. 'bulk': how many values and letters a reading holds, each counted each time it is reached (what is shared counts as often as it is met; a slice's spare places count too). A statement '..UptoSaid' is the law's where the arguments, and the package variables that the reading takes, are together of bulk at most 1048576: NARROWER than '..Said'. Prove '..Said' where nothing that the law and all that it calls make is longer than what came in: it says more and counts as full. Else prove '..UptoSaid'. A law counts once. -/
mutual
def uptoBulk {H : Type} : DataW H → Nat
  | .lit (.string bytes) => bytes.length + 1
  | .lit _ => 1
  | .nil => 1
  | .ptr d => uptoBulk d + 1
  | .slice elems spare => uptoBulkAll elems + uptoBulkAll spare + 1
  | .agg parts => uptoBulkAll parts + 1
  | .iface _ d => uptoBulk d + 1
  | .map entries => uptoBulkEntries entries + 1
  | .held _ => 1
def uptoBulkAll {H : Type} : List (DataW H) → Nat
  | [] => 0
  | d :: r => uptoBulk d + uptoBulkAll r
def uptoBulkEntries {H : Type} : List (Lit × DataW H) → Nat
  | [] => 0
  | x :: r => uptoBulkEntry x + uptoBulkEntries r
def uptoBulkEntry {H : Type} : Lit × DataW H → Nat
  | (.string bytes, d) => bytes.length + uptoBulk d + 1
  | (_, d) => uptoBulk d + 1
 end
def uptoSmall : (H : Type) → List (DataW H) → Bool := fun _ ds => decide (uptoBulkAll ds ≤ 1048576)
def OpenSpec.upto (s : _root_.Go.ChangeSpec) : _root_.Go.OpenSpec := { _root_.Go.OpenSpec.ofChange s with cond := some uptoSmall }

/-- 'parquetrylaw10.GraphMade', WHERE WHAT IT READS IS OF BULK AT MOST 1048576: true; the input reads as it did. -/
def graphMadeUptoRow : OpenClaim := { program := "ytnnmplkgenhofaa", sum := "4ce4464f6cd88f61e877ccfb937f606168d83cc692e0393191078b4b624aab3e", func := "parquetry/parquetrylaw10.GraphMade", spec := "graphMade", unfollowed := true, recurses := true, apart := false, narrowed := true }
def GraphMadeUptoSaid : Prop := graphMadeUptoRow.holds Try.pinned (OpenSpec.upto graphMadeSpec)

/-- 'parquetrylaw10.GraphCopies', WHERE WHAT IT READS IS OF BULK AT MOST 1048576: true; the input reads as it did. -/
def graphCopiesUptoRow : OpenClaim := { program := "ytnnmplkgenhofaa", sum := "4ce4464f6cd88f61e877ccfb937f606168d83cc692e0393191078b4b624aab3e", func := "parquetry/parquetrylaw10.GraphCopies", spec := "graphCopies", unfollowed := true, recurses := true, apart := false, narrowed := true }
def GraphCopiesUptoSaid : Prop := graphCopiesUptoRow.holds Try.pinned (OpenSpec.upto graphCopiesSpec)

/-- 'parquetrylaw10.GraphNotes', WHERE WHAT IT READS IS OF BULK AT MOST 1048576: true; the input reads as it did. -/
def graphNotesUptoRow : OpenClaim := { program := "ytnnmplkgenhofaa", sum := "4ce4464f6cd88f61e877ccfb937f606168d83cc692e0393191078b4b624aab3e", func := "parquetry/parquetrylaw10.GraphNotes", spec := "graphNotes", unfollowed := true, recurses := true, apart := false, narrowed := true }
def GraphNotesUptoSaid : Prop := graphNotesUptoRow.holds Try.pinned (OpenSpec.upto graphNotesSpec)

end Rows
end Go.Proofs.Ytnnmplkgenhofaa
