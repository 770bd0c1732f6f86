/-
  No cell of these rows narrows 'for every input' (looked for: loops, veiled, ifaces, maps, wideKeys, modest, calm, conditions, laid).
  DERIVED. THE GIVEN ROWS OF THIS SEAT. 4 by the template 'for every input the law returns true; each argument reads behind the call as it read before'; 0 by the template 'total and deterministic' (their statements: YtdgckcckkfgooaaTotals.lean).
  GIVEN WITH THE SEED: the statements are not yours to turn. If you find one false, say at which input.
  Laid BY PROGRAM, IN A SANDBOX (cutbox-rows.mjs): the forced cells as the released guide's own fill.sh prints them over the translation 6eb34d7e6e480c3e… (all of the seat's roots in one cut). By AI agents, Wed Nov 11 2026. No macro, syntax, notation, axiom, sorry.
-/
import Derived.Test.YtdgckcckkfgooaaChecked
import GoSem.Claim
import GoSem.ClaimJoined
import GoSem.ClaimMapViews
import Derived.JoinedTies
import Derived.KernelRfl
namespace Go.Proofs.Ytdgckcckkfgooaa
/- THE CELL 'sum', in the pinned program and in every row, IS THE sha256 OF THE DUMP (.gsa) THAT YtdgckcckkfgooaaProg.lean LOADS. Nothing in Lean hashes anything: it is a label: what it is worth is what the hold of that sum in a sandbox is worth. -/
noncomputable def Try.pinned : Pinned := { name := "ytdgckcckkfgooaa", sum := "6eb34d7e6e480c3ec0b46a46a42b278aa9df65fa4adb5cdb31bdd7df38e9da52", checked := Try.checked }
namespace Rows
def none {H : Type} : Left H := { results := [], args := [] }

/-- 'parquetrylaw2.TensorNumbers': WHATEVER THE INPUT: true; the input reads as it did. -/
def tensorNumbersSpec : ChangeSpec := { name := "tensorNumbers", fn := fun _ => fun
  | [] => { results := [.lit (.bool true)], args := [] }
  | _ => none }
def tensorNumbersRow : OpenClaim := { program := "ytdgckcckkfgooaa", sum := "6eb34d7e6e480c3ec0b46a46a42b278aa9df65fa4adb5cdb31bdd7df38e9da52", func := "parquetry/parquetrylaw2.TensorNumbers", spec := "tensorNumbers", apart := false }
def TensorNumbersSaid : Prop := tensorNumbersRow.holds Try.pinned (OpenSpec.ofChange tensorNumbersSpec)

/-- ITS FALSE NEIGHBOUR: 'it returns false'. Refute it at one input. -/
def tensorNumbersWrong : ChangeSpec := { name := "tensorNumbers", fn := fun _ => fun
  | [] => { results := [.lit (.bool false)], args := [] }
  | _ => none }
def TensorNumbersWrongFalsely : Prop := tensorNumbersRow.holds Try.pinned (OpenSpec.ofChange tensorNumbersWrong)

/-- 'parquetrylaw2.TensorTells': WHATEVER THE INPUT: true; the input reads as it did. -/
def tensorTellsSpec : ChangeSpec := { name := "tensorTells", fn := fun _ => fun
  | [d1, d2, d3, d4, d5, d6] => { results := [.lit (.bool true)], args := [d1, d2, d3, d4, d5, d6] }
  | _ => none }
def tensorTellsRow : OpenClaim := { program := "ytdgckcckkfgooaa", sum := "6eb34d7e6e480c3ec0b46a46a42b278aa9df65fa4adb5cdb31bdd7df38e9da52", func := "parquetry/parquetrylaw2.TensorTells", spec := "tensorTells", apart := false }
def TensorTellsSaid : Prop := tensorTellsRow.holds Try.pinned (OpenSpec.ofChange tensorTellsSpec)

/-- ITS FALSE NEIGHBOUR: 'it returns false'. Refute it at one input. -/
def tensorTellsWrong : ChangeSpec := { name := "tensorTells", fn := fun _ => fun
  | [d1, d2, d3, d4, d5, d6] => { results := [.lit (.bool false)], args := [d1, d2, d3, d4, d5, d6] }
  | _ => none }
def TensorTellsWrongFalsely : Prop := tensorTellsRow.holds Try.pinned (OpenSpec.ofChange tensorTellsWrong)

/-- 'parquetrylaw2.TensorSets': WHATEVER THE INPUT: true; the input reads as it did. -/
def tensorSetsSpec : ChangeSpec := { name := "tensorSets", fn := fun _ => fun
  | [d1, d2, d3] => { results := [.lit (.bool true)], args := [d1, d2, d3] }
  | _ => none }
def tensorSetsRow : OpenClaim := { program := "ytdgckcckkfgooaa", sum := "6eb34d7e6e480c3ec0b46a46a42b278aa9df65fa4adb5cdb31bdd7df38e9da52", func := "parquetry/parquetrylaw2.TensorSets", spec := "tensorSets", apart := false }
def TensorSetsSaid : Prop := tensorSetsRow.holds Try.pinned (OpenSpec.ofChange tensorSetsSpec)

/-- ITS FALSE NEIGHBOUR: 'it returns false'. Refute it at one input. -/
def tensorSetsWrong : ChangeSpec := { name := "tensorSets", fn := fun _ => fun
  | [d1, d2, d3] => { results := [.lit (.bool false)], args := [d1, d2, d3] }
  | _ => none }
def TensorSetsWrongFalsely : Prop := tensorSetsRow.holds Try.pinned (OpenSpec.ofChange tensorSetsWrong)

/-- 'parquetrylaw2.TensorMade': WHATEVER THE INPUT: true; the input reads as it did. -/
def tensorMadeSpec : ChangeSpec := { name := "tensorMade", fn := fun _ => fun
  | [d1, d2, d3] => { results := [.lit (.bool true)], args := [d1, d2, d3] }
  | _ => none }
def tensorMadeRow : OpenClaim := { program := "ytdgckcckkfgooaa", sum := "6eb34d7e6e480c3ec0b46a46a42b278aa9df65fa4adb5cdb31bdd7df38e9da52", func := "parquetry/parquetrylaw2.TensorMade", spec := "tensorMade", apart := false }
def TensorMadeSaid : Prop := tensorMadeRow.holds Try.pinned (OpenSpec.ofChange tensorMadeSpec)

/-- ITS FALSE NEIGHBOUR: 'it returns false'. Refute it at one input. -/
def tensorMadeWrong : ChangeSpec := { name := "tensorMade", fn := fun _ => fun
  | [d1, d2, d3] => { results := [.lit (.bool false)], args := [d1, d2, d3] }
  | _ => none }
def TensorMadeWrongFalsely : Prop := tensorMadeRow.holds Try.pinned (OpenSpec.ofChange tensorMadeWrong)

/- THE SECOND FORM. 'bulk': how many values and letters a reading holds, each counted each time it is reached (what is shared counts as often as it is met; a slice's spare places count too). A statement '..UptoSaid' is the law's where the arguments, and the package variables that the reading takes, are together of bulk at most 1048576: NARROWER than '..Said'. Prove '..Said' where nothing that the law and all that it calls make is longer than what came in: it says more and counts as full. Else prove '..UptoSaid'. A law counts once. -/
mutual
def uptoBulk {H : Type} : DataW H → Nat
  | .lit (.string bytes) => bytes.length + 1
  | .lit _ => 1
  | .nil => 1
  | .ptr d => uptoBulk d + 1
  | .slice elems spare => uptoBulkAll elems + uptoBulkAll spare + 1
  | .agg parts => uptoBulkAll parts + 1
  | .iface _ d => uptoBulk d + 1
  | .map entries => uptoBulkEntries entries + 1
  | .held _ => 1
def uptoBulkAll {H : Type} : List (DataW H) → Nat
  | [] => 0
  | d :: r => uptoBulk d + uptoBulkAll r
def uptoBulkEntries {H : Type} : List (Lit × DataW H) → Nat
  | [] => 0
  | x :: r => uptoBulkEntry x + uptoBulkEntries r
def uptoBulkEntry {H : Type} : Lit × DataW H → Nat
  | (.string bytes, d) => bytes.length + uptoBulk d + 1
  | (_, d) => uptoBulk d + 1
 end
def uptoSmall : (H : Type) → List (DataW H) → Bool := fun _ ds => decide (uptoBulkAll ds ≤ 1048576)
def OpenSpec.upto (s : _root_.Go.ChangeSpec) : _root_.Go.OpenSpec := { _root_.Go.OpenSpec.ofChange s with cond := some uptoSmall }

/-- 'parquetrylaw2.TensorNumbers', WHERE WHAT IT READS IS OF BULK AT MOST 1048576: true; the input reads as it did. -/
def tensorNumbersUptoRow : OpenClaim := { program := "ytdgckcckkfgooaa", sum := "6eb34d7e6e480c3ec0b46a46a42b278aa9df65fa4adb5cdb31bdd7df38e9da52", func := "parquetry/parquetrylaw2.TensorNumbers", spec := "tensorNumbers", apart := false, narrowed := true }
def TensorNumbersUptoSaid : Prop := tensorNumbersUptoRow.holds Try.pinned (OpenSpec.upto tensorNumbersSpec)

/-- 'parquetrylaw2.TensorTells', WHERE WHAT IT READS IS OF BULK AT MOST 1048576: true; the input reads as it did. -/
def tensorTellsUptoRow : OpenClaim := { program := "ytdgckcckkfgooaa", sum := "6eb34d7e6e480c3ec0b46a46a42b278aa9df65fa4adb5cdb31bdd7df38e9da52", func := "parquetry/parquetrylaw2.TensorTells", spec := "tensorTells", apart := false, narrowed := true }
def TensorTellsUptoSaid : Prop := tensorTellsUptoRow.holds Try.pinned (OpenSpec.upto tensorTellsSpec)

/-- 'parquetrylaw2.TensorSets', WHERE WHAT IT READS IS OF BULK AT MOST 1048576: true; the input reads as it did. -/
def tensorSetsUptoRow : OpenClaim := { program := "ytdgckcckkfgooaa", sum := "6eb34d7e6e480c3ec0b46a46a42b278aa9df65fa4adb5cdb31bdd7df38e9da52", func := "parquetry/parquetrylaw2.TensorSets", spec := "tensorSets", apart := false, narrowed := true }
def TensorSetsUptoSaid : Prop := tensorSetsUptoRow.holds Try.pinned (OpenSpec.upto tensorSetsSpec)

/-- 'parquetrylaw2.TensorMade', WHERE WHAT IT READS IS OF BULK AT MOST 1048576: true; the input reads as it did. -/
def tensorMadeUptoRow : OpenClaim := { program := "ytdgckcckkfgooaa", sum := "6eb34d7e6e480c3ec0b46a46a42b278aa9df65fa4adb5cdb31bdd7df38e9da52", func := "parquetry/parquetrylaw2.TensorMade", spec := "tensorMade", apart := false, narrowed := true }
def TensorMadeUptoSaid : Prop := tensorMadeUptoRow.holds Try.pinned (OpenSpec.upto tensorMadeSpec)

end Rows
end Go.Proofs.Ytdgckcckkfgooaa
