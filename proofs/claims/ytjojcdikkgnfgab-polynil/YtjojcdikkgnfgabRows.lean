/-
  No cell of these rows narrows 'for every input' (looked for: loops, veiled, ifaces, maps, wideKeys, modest, calm, conditions, laid).
  DERIVED. THE GIVEN ROWS OF THIS SEAT. 4 by the template 'for every input the law returns true; each argument reads behind the call as it read before'; 0 by the template 'total and deterministic' (their statements: YtjojcdikkgnfgabTotals.lean).
  GIVEN WITH THE SEED: the statements are not yours to turn. If you find one false, say at which input.
  Laid BY PROGRAM, IN A SANDBOX (cutbox-rows.mjs): the forced cells as the released guide's own fill.sh prints them over the translation b9dc2f37eb2c80fe… (all of the seat's roots in one cut). By AI agents, Wed Nov 11 2026. No macro, syntax, notation, axiom, sorry.
-/
import Derived.Test.YtjojcdikkgnfgabChecked
import GoSem.Claim
import GoSem.ClaimJoined
import GoSem.ClaimMapViews
import Derived.JoinedTies
import Derived.KernelRfl
namespace Go.Proofs.Ytjojcdikkgnfgab
/- THE CELL 'sum', in the pinned program and in every row, IS THE sha256 OF THE DUMP (.gsa) THAT YtjojcdikkgnfgabProg.lean LOADS. Nothing in Lean hashes anything: it is a label: what it is worth is what the hold of that sum in a sandbox is worth. -/
noncomputable def Try.pinned : Pinned := { name := "ytjojcdikkgnfgab", sum := "b9dc2f37eb2c80fe0560da42e78428df7f50218e8ca21d535f49e19be8f6eeff", checked := Try.checked }
namespace Rows
def none {H : Type} : Left H := { results := [], args := [] }

/-- 'aumbrylaw02.PolyNil': WHATEVER THE INPUT: true; the input reads as it did. -/
def polyNilSpec : ChangeSpec := { name := "polyNil", fn := fun _ => fun
  | [d1, d2, d3] => { results := [.lit (.bool true)], args := [d1, d2, d3] }
  | _ => none }
def polyNilRow : OpenClaim := { program := "ytjojcdikkgnfgab", sum := "b9dc2f37eb2c80fe0560da42e78428df7f50218e8ca21d535f49e19be8f6eeff", func := "aumbry/aumbrylaw02.PolyNil", spec := "polyNil", unfollowed := true, recurses := true, apart := false }
def PolyNilSaid : Prop := polyNilRow.holds Try.pinned (OpenSpec.ofChange polyNilSpec)

/-- ITS FALSE NEIGHBOUR: 'it returns false'. Refute it at one input. -/
def polyNilWrong : ChangeSpec := { name := "polyNil", fn := fun _ => fun
  | [d1, d2, d3] => { results := [.lit (.bool false)], args := [d1, d2, d3] }
  | _ => none }
def PolyNilWrongFalsely : Prop := polyNilRow.holds Try.pinned (OpenSpec.ofChange polyNilWrong)

/-- 'aumbrylaw02.PolyUndoes': WHATEVER THE INPUT: true; the input reads as it did. -/
def polyUndoesSpec : ChangeSpec := { name := "polyUndoes", fn := fun _ => fun
  | [d1, d2] => { results := [.lit (.bool true)], args := [d1, d2] }
  | _ => none }
def polyUndoesRow : OpenClaim := { program := "ytjojcdikkgnfgab", sum := "b9dc2f37eb2c80fe0560da42e78428df7f50218e8ca21d535f49e19be8f6eeff", func := "aumbry/aumbrylaw02.PolyUndoes", spec := "polyUndoes", unfollowed := true, recurses := true, apart := false }
def PolyUndoesSaid : Prop := polyUndoesRow.holds Try.pinned (OpenSpec.ofChange polyUndoesSpec)

/-- ITS FALSE NEIGHBOUR: 'it returns false'. Refute it at one input. -/
def polyUndoesWrong : ChangeSpec := { name := "polyUndoes", fn := fun _ => fun
  | [d1, d2] => { results := [.lit (.bool false)], args := [d1, d2] }
  | _ => none }
def PolyUndoesWrongFalsely : Prop := polyUndoesRow.holds Try.pinned (OpenSpec.ofChange polyUndoesWrong)

/-- 'aumbrylaw02.PolyShifts': WHATEVER THE INPUT: true; the input reads as it did. -/
def polyShiftsSpec : ChangeSpec := { name := "polyShifts", fn := fun _ => fun
  | [d1, d2, d3] => { results := [.lit (.bool true)], args := [d1, d2, d3] }
  | _ => none }
def polyShiftsRow : OpenClaim := { program := "ytjojcdikkgnfgab", sum := "b9dc2f37eb2c80fe0560da42e78428df7f50218e8ca21d535f49e19be8f6eeff", func := "aumbry/aumbrylaw02.PolyShifts", spec := "polyShifts", unfollowed := true, recurses := true, apart := false }
def PolyShiftsSaid : Prop := polyShiftsRow.holds Try.pinned (OpenSpec.ofChange polyShiftsSpec)

/-- ITS FALSE NEIGHBOUR: 'it returns false'. Refute it at one input. -/
def polyShiftsWrong : ChangeSpec := { name := "polyShifts", fn := fun _ => fun
  | [d1, d2, d3] => { results := [.lit (.bool false)], args := [d1, d2, d3] }
  | _ => none }
def PolyShiftsWrongFalsely : Prop := polyShiftsRow.holds Try.pinned (OpenSpec.ofChange polyShiftsWrong)

/-- 'aumbrylaw02.PolyBrackets': WHATEVER THE INPUT: true; the input reads as it did. -/
def polyBracketsSpec : ChangeSpec := { name := "polyBrackets", fn := fun _ => fun
  | [d1, d2, d3] => { results := [.lit (.bool true)], args := [d1, d2, d3] }
  | _ => none }
def polyBracketsRow : OpenClaim := { program := "ytjojcdikkgnfgab", sum := "b9dc2f37eb2c80fe0560da42e78428df7f50218e8ca21d535f49e19be8f6eeff", func := "aumbry/aumbrylaw02.PolyBrackets", spec := "polyBrackets", unfollowed := true, recurses := true, apart := false }
def PolyBracketsSaid : Prop := polyBracketsRow.holds Try.pinned (OpenSpec.ofChange polyBracketsSpec)

/-- ITS FALSE NEIGHBOUR: 'it returns false'. Refute it at one input. -/
def polyBracketsWrong : ChangeSpec := { name := "polyBrackets", fn := fun _ => fun
  | [d1, d2, d3] => { results := [.lit (.bool false)], args := [d1, d2, d3] }
  | _ => none }
def PolyBracketsWrongFalsely : Prop := polyBracketsRow.holds Try.pinned (OpenSpec.ofChange polyBracketsWrong)

/- THE SECOND FORM. 'bulk': how many values and letters a reading holds, each counted each time it is reached (what is shared counts as often as it is met; a slice's spare places count too). A statement '..UptoSaid' is the law's where the arguments, and the package variables that the reading takes, are together of bulk at most 1048576: NARROWER than '..Said'. Prove '..Said' where nothing that the law and all that it calls make is longer than what came in: it says more and counts as full. Else prove '..UptoSaid'. A law counts once. -/
mutual
def uptoBulk {H : Type} : DataW H → Nat
  | .lit (.string bytes) => bytes.length + 1
  | .lit _ => 1
  | .nil => 1
  | .ptr d => uptoBulk d + 1
  | .slice elems spare => uptoBulkAll elems + uptoBulkAll spare + 1
  | .agg parts => uptoBulkAll parts + 1
  | .iface _ d => uptoBulk d + 1
  | .map entries => uptoBulkEntries entries + 1
  | .held _ => 1
def uptoBulkAll {H : Type} : List (DataW H) → Nat
  | [] => 0
  | d :: r => uptoBulk d + uptoBulkAll r
def uptoBulkEntries {H : Type} : List (Lit × DataW H) → Nat
  | [] => 0
  | x :: r => uptoBulkEntry x + uptoBulkEntries r
def uptoBulkEntry {H : Type} : Lit × DataW H → Nat
  | (.string bytes, d) => bytes.length + uptoBulk d + 1
  | (_, d) => uptoBulk d + 1
 end
def uptoSmall : (H : Type) → List (DataW H) → Bool := fun _ ds => decide (uptoBulkAll ds ≤ 1048576)
def OpenSpec.upto (s : _root_.Go.ChangeSpec) : _root_.Go.OpenSpec := { _root_.Go.OpenSpec.ofChange s with cond := some uptoSmall }

/-- 'aumbrylaw02.PolyNil', WHERE WHAT IT READS IS OF BULK AT MOST 1048576: true; the input reads as it did. -/
def polyNilUptoRow : OpenClaim := { program := "ytjojcdikkgnfgab", sum := "b9dc2f37eb2c80fe0560da42e78428df7f50218e8ca21d535f49e19be8f6eeff", func := "aumbry/aumbrylaw02.PolyNil", spec := "polyNil", unfollowed := true, recurses := true, apart := false, narrowed := true }
def PolyNilUptoSaid : Prop := polyNilUptoRow.holds Try.pinned (OpenSpec.upto polyNilSpec)

/-- 'aumbrylaw02.PolyUndoes', WHERE WHAT IT READS IS OF BULK AT MOST 1048576: true; the input reads as it did. -/
def polyUndoesUptoRow : OpenClaim := { program := "ytjojcdikkgnfgab", sum := "b9dc2f37eb2c80fe0560da42e78428df7f50218e8ca21d535f49e19be8f6eeff", func := "aumbry/aumbrylaw02.PolyUndoes", spec := "polyUndoes", unfollowed := true, recurses := true, apart := false, narrowed := true }
def PolyUndoesUptoSaid : Prop := polyUndoesUptoRow.holds Try.pinned (OpenSpec.upto polyUndoesSpec)

/-- 'aumbrylaw02.PolyShifts', WHERE WHAT IT READS IS OF BULK AT MOST 1048576: true; the input reads as it did. -/
def polyShiftsUptoRow : OpenClaim := { program := "ytjojcdikkgnfgab", sum := "b9dc2f37eb2c80fe0560da42e78428df7f50218e8ca21d535f49e19be8f6eeff", func := "aumbry/aumbrylaw02.PolyShifts", spec := "polyShifts", unfollowed := true, recurses := true, apart := false, narrowed := true }
def PolyShiftsUptoSaid : Prop := polyShiftsUptoRow.holds Try.pinned (OpenSpec.upto polyShiftsSpec)

/-- 'aumbrylaw02.PolyBrackets', WHERE WHAT IT READS IS OF BULK AT MOST 1048576: true; the input reads as it did. -/
def polyBracketsUptoRow : OpenClaim := { program := "ytjojcdikkgnfgab", sum := "b9dc2f37eb2c80fe0560da42e78428df7f50218e8ca21d535f49e19be8f6eeff", func := "aumbry/aumbrylaw02.PolyBrackets", spec := "polyBrackets", unfollowed := true, recurses := true, apart := false, narrowed := true }
def PolyBracketsUptoSaid : Prop := polyBracketsUptoRow.holds Try.pinned (OpenSpec.upto polyBracketsSpec)

end Rows
end Go.Proofs.Ytjojcdikkgnfgab
