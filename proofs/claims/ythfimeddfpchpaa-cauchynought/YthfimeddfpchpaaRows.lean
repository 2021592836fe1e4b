/-
  No cell of these rows narrows 'for every input' (looked for: loops, veiled, ifaces, maps, wideKeys, modest, calm, conditions, laid).
  DERIVED. THE GIVEN ROWS OF THIS SEAT. 6 by the template 'for every input the law returns true; each argument reads behind the call as it read before'; 0 by the template 'total and deterministic' (their statements: YthfimeddfpchpaaTotals.lean).
  GIVEN WITH THE SEED: the statements are not yours to turn. If you find one false, say at which input.
  Laid BY PROGRAM, IN A SANDBOX (cutbox-rows.mjs): the forced cells as the released guide's own fill.sh prints them over the translation 7020edca91a41eb6… (all of the seat's roots in one cut). By AI agents, Wed Nov 11 2026. No macro, syntax, notation, axiom, sorry.
-/
import Derived.Test.YthfimeddfpchpaaChecked
import GoSem.Claim
import GoSem.ClaimJoined
import GoSem.ClaimMapViews
import Derived.JoinedTies
import Derived.KernelRfl
namespace Go.Proofs.Ythfimeddfpchpaa
/- THE CELL 'sum', in the pinned program and in every row, IS THE sha256 OF THE DUMP (.gsa) THAT YthfimeddfpchpaaProg.lean LOADS. Nothing in Lean hashes anything: it is a label: what it is worth is what the hold of that sum in a sandbox is worth. -/
noncomputable def Try.pinned : Pinned := { name := "ythfimeddfpchpaa", sum := "7020edca91a41eb6ef237ae497952fd81013ff68b3bf4d5475cf983f3ae6946d", checked := Try.checked }
namespace Rows
def none {H : Type} : Left H := { results := [], args := [] }

/-- 'aumbrylaw05.CauchyNames': WHATEVER THE INPUT: true; the input reads as it did. -/
def cauchyNamesSpec : ChangeSpec := { name := "cauchyNames", fn := fun _ => fun
  | [] => { results := [.lit (.bool true)], args := [] }
  | _ => none }
def cauchyNamesRow : OpenClaim := { program := "ythfimeddfpchpaa", sum := "7020edca91a41eb6ef237ae497952fd81013ff68b3bf4d5475cf983f3ae6946d", func := "aumbry/aumbrylaw05.CauchyNames", spec := "cauchyNames", unfollowed := true, recurses := true, apart := false }
def CauchyNamesSaid : Prop := cauchyNamesRow.holds Try.pinned (OpenSpec.ofChange cauchyNamesSpec)

/-- ITS FALSE NEIGHBOUR: 'it returns false'. Refute it at one input. -/
def cauchyNamesWrong : ChangeSpec := { name := "cauchyNames", fn := fun _ => fun
  | [] => { results := [.lit (.bool false)], args := [] }
  | _ => none }
def CauchyNamesWrongFalsely : Prop := cauchyNamesRow.holds Try.pinned (OpenSpec.ofChange cauchyNamesWrong)

/-- 'aumbrylaw05.CauchyTells': WHATEVER THE INPUT: true; the input reads as it did. -/
def cauchyTellsSpec : ChangeSpec := { name := "cauchyTells", fn := fun _ => fun
  | [d1, d2] => { results := [.lit (.bool true)], args := [d1, d2] }
  | _ => none }
def cauchyTellsRow : OpenClaim := { program := "ythfimeddfpchpaa", sum := "7020edca91a41eb6ef237ae497952fd81013ff68b3bf4d5475cf983f3ae6946d", func := "aumbry/aumbrylaw05.CauchyTells", spec := "cauchyTells", unfollowed := true, recurses := true, apart := false }
def CauchyTellsSaid : Prop := cauchyTellsRow.holds Try.pinned (OpenSpec.ofChange cauchyTellsSpec)

/-- ITS FALSE NEIGHBOUR: 'it returns false'. Refute it at one input. -/
def cauchyTellsWrong : ChangeSpec := { name := "cauchyTells", fn := fun _ => fun
  | [d1, d2] => { results := [.lit (.bool false)], args := [d1, d2] }
  | _ => none }
def CauchyTellsWrongFalsely : Prop := cauchyTellsRow.holds Try.pinned (OpenSpec.ofChange cauchyTellsWrong)

/-- 'aumbrylaw05.CauchyNought': WHATEVER THE INPUT: true; the input reads as it did. -/
def cauchyNoughtSpec : ChangeSpec := { name := "cauchyNought", fn := fun _ => fun
  | [d1, d2] => { results := [.lit (.bool true)], args := [d1, d2] }
  | _ => none }
def cauchyNoughtRow : OpenClaim := { program := "ythfimeddfpchpaa", sum := "7020edca91a41eb6ef237ae497952fd81013ff68b3bf4d5475cf983f3ae6946d", func := "aumbry/aumbrylaw05.CauchyNought", spec := "cauchyNought", unfollowed := true, recurses := true, apart := false }
def CauchyNoughtSaid : Prop := cauchyNoughtRow.holds Try.pinned (OpenSpec.ofChange cauchyNoughtSpec)

/-- ITS FALSE NEIGHBOUR: 'it returns false'. Refute it at one input. -/
def cauchyNoughtWrong : ChangeSpec := { name := "cauchyNought", fn := fun _ => fun
  | [d1, d2] => { results := [.lit (.bool false)], args := [d1, d2] }
  | _ => none }
def CauchyNoughtWrongFalsely : Prop := cauchyNoughtRow.holds Try.pinned (OpenSpec.ofChange cauchyNoughtWrong)

/-- 'aumbrylaw05.CauchyRows': WHATEVER THE INPUT: true; the input reads as it did. -/
def cauchyRowsSpec : ChangeSpec := { name := "cauchyRows", fn := fun _ => fun
  | [d1, d2, d3] => { results := [.lit (.bool true)], args := [d1, d2, d3] }
  | _ => none }
def cauchyRowsRow : OpenClaim := { program := "ythfimeddfpchpaa", sum := "7020edca91a41eb6ef237ae497952fd81013ff68b3bf4d5475cf983f3ae6946d", func := "aumbry/aumbrylaw05.CauchyRows", spec := "cauchyRows", unfollowed := true, recurses := true, apart := false }
def CauchyRowsSaid : Prop := cauchyRowsRow.holds Try.pinned (OpenSpec.ofChange cauchyRowsSpec)

/-- ITS FALSE NEIGHBOUR: 'it returns false'. Refute it at one input. -/
def cauchyRowsWrong : ChangeSpec := { name := "cauchyRows", fn := fun _ => fun
  | [d1, d2, d3] => { results := [.lit (.bool false)], args := [d1, d2, d3] }
  | _ => none }
def CauchyRowsWrongFalsely : Prop := cauchyRowsRow.holds Try.pinned (OpenSpec.ofChange cauchyRowsWrong)

/-- 'aumbrylaw05.CauchyMore': WHATEVER THE INPUT: true; the input reads as it did. -/
def cauchyMoreSpec : ChangeSpec := { name := "cauchyMore", fn := fun _ => fun
  | [d1, d2] => { results := [.lit (.bool true)], args := [d1, d2] }
  | _ => none }
def cauchyMoreRow : OpenClaim := { program := "ythfimeddfpchpaa", sum := "7020edca91a41eb6ef237ae497952fd81013ff68b3bf4d5475cf983f3ae6946d", func := "aumbry/aumbrylaw05.CauchyMore", spec := "cauchyMore", unfollowed := true, recurses := true, apart := false }
def CauchyMoreSaid : Prop := cauchyMoreRow.holds Try.pinned (OpenSpec.ofChange cauchyMoreSpec)

/-- ITS FALSE NEIGHBOUR: 'it returns false'. Refute it at one input. -/
def cauchyMoreWrong : ChangeSpec := { name := "cauchyMore", fn := fun _ => fun
  | [d1, d2] => { results := [.lit (.bool false)], args := [d1, d2] }
  | _ => none }
def CauchyMoreWrongFalsely : Prop := cauchyMoreRow.holds Try.pinned (OpenSpec.ofChange cauchyMoreWrong)

/-- 'aumbrylaw05.CauchyNumbers': WHATEVER THE INPUT: true; the input reads as it did. -/
def cauchyNumbersSpec : ChangeSpec := { name := "cauchyNumbers", fn := fun _ => fun
  | [d1, d2, d3, d4, d5] => { results := [.lit (.bool true)], args := [d1, d2, d3, d4, d5] }
  | _ => none }
def cauchyNumbersRow : OpenClaim := { program := "ythfimeddfpchpaa", sum := "7020edca91a41eb6ef237ae497952fd81013ff68b3bf4d5475cf983f3ae6946d", func := "aumbry/aumbrylaw05.CauchyNumbers", spec := "cauchyNumbers", unfollowed := true, recurses := true, apart := false }
def CauchyNumbersSaid : Prop := cauchyNumbersRow.holds Try.pinned (OpenSpec.ofChange cauchyNumbersSpec)

/-- ITS FALSE NEIGHBOUR: 'it returns false'. Refute it at one input. -/
def cauchyNumbersWrong : ChangeSpec := { name := "cauchyNumbers", fn := fun _ => fun
  | [d1, d2, d3, d4, d5] => { results := [.lit (.bool false)], args := [d1, d2, d3, d4, d5] }
  | _ => none }
def CauchyNumbersWrongFalsely : Prop := cauchyNumbersRow.holds Try.pinned (OpenSpec.ofChange cauchyNumbersWrong)

/- THE SECOND FORM. 'bulk': how many values and letters a reading holds, each counted each time it is reached (what is shared counts as often as it is met; a slice's spare places count too). A statement '..UptoSaid' is the law's where the arguments, and the package variables that the reading takes, are together of bulk at most 1048576: NARROWER than '..Said'. Prove '..Said' where nothing that the law and all that it calls make is longer than what came in: it says more and counts as full. Else prove '..UptoSaid'. A law counts once. -/
mutual
def uptoBulk {H : Type} : DataW H → Nat
  | .lit (.string bytes) => bytes.length + 1
  | .lit _ => 1
  | .nil => 1
  | .ptr d => uptoBulk d + 1
  | .slice elems spare => uptoBulkAll elems + uptoBulkAll spare + 1
  | .agg parts => uptoBulkAll parts + 1
  | .iface _ d => uptoBulk d + 1
  | .map entries => uptoBulkEntries entries + 1
  | .held _ => 1
def uptoBulkAll {H : Type} : List (DataW H) → Nat
  | [] => 0
  | d :: r => uptoBulk d + uptoBulkAll r
def uptoBulkEntries {H : Type} : List (Lit × DataW H) → Nat
  | [] => 0
  | x :: r => uptoBulkEntry x + uptoBulkEntries r
def uptoBulkEntry {H : Type} : Lit × DataW H → Nat
  | (.string bytes, d) => bytes.length + uptoBulk d + 1
  | (_, d) => uptoBulk d + 1
 end
def uptoSmall : (H : Type) → List (DataW H) → Bool := fun _ ds => decide (uptoBulkAll ds ≤ 1048576)
def OpenSpec.upto (s : _root_.Go.ChangeSpec) : _root_.Go.OpenSpec := { _root_.Go.OpenSpec.ofChange s with cond := some uptoSmall }

/-- 'aumbrylaw05.CauchyNames', WHERE WHAT IT READS IS OF BULK AT MOST 1048576: true; the input reads as it did. -/
def cauchyNamesUptoRow : OpenClaim := { program := "ythfimeddfpchpaa", sum := "7020edca91a41eb6ef237ae497952fd81013ff68b3bf4d5475cf983f3ae6946d", func := "aumbry/aumbrylaw05.CauchyNames", spec := "cauchyNames", unfollowed := true, recurses := true, apart := false, narrowed := true }
def CauchyNamesUptoSaid : Prop := cauchyNamesUptoRow.holds Try.pinned (OpenSpec.upto cauchyNamesSpec)

/-- 'aumbrylaw05.CauchyTells', WHERE WHAT IT READS IS OF BULK AT MOST 1048576: true; the input reads as it did. -/
def cauchyTellsUptoRow : OpenClaim := { program := "ythfimeddfpchpaa", sum := "7020edca91a41eb6ef237ae497952fd81013ff68b3bf4d5475cf983f3ae6946d", func := "aumbry/aumbrylaw05.CauchyTells", spec := "cauchyTells", unfollowed := true, recurses := true, apart := false, narrowed := true }
def CauchyTellsUptoSaid : Prop := cauchyTellsUptoRow.holds Try.pinned (OpenSpec.upto cauchyTellsSpec)

/-- 'aumbrylaw05.CauchyNought', WHERE WHAT IT READS IS OF BULK AT MOST 1048576: true; the input reads as it did. -/
def cauchyNoughtUptoRow : OpenClaim := { program := "ythfimeddfpchpaa", sum := "7020edca91a41eb6ef237ae497952fd81013ff68b3bf4d5475cf983f3ae6946d", func := "aumbry/aumbrylaw05.CauchyNought", spec := "cauchyNought", unfollowed := true, recurses := true, apart := false, narrowed := true }
def CauchyNoughtUptoSaid : Prop := cauchyNoughtUptoRow.holds Try.pinned (OpenSpec.upto cauchyNoughtSpec)

/-- 'aumbrylaw05.CauchyRows', WHERE WHAT IT READS IS OF BULK AT MOST 1048576: true; the input reads as it did. -/
def cauchyRowsUptoRow : OpenClaim := { program := "ythfimeddfpchpaa", sum := "7020edca91a41eb6ef237ae497952fd81013ff68b3bf4d5475cf983f3ae6946d", func := "aumbry/aumbrylaw05.CauchyRows", spec := "cauchyRows", unfollowed := true, recurses := true, apart := false, narrowed := true }
def CauchyRowsUptoSaid : Prop := cauchyRowsUptoRow.holds Try.pinned (OpenSpec.upto cauchyRowsSpec)

/-- 'aumbrylaw05.CauchyMore', WHERE WHAT IT READS IS OF BULK AT MOST 1048576: true; the input reads as it did. -/
def cauchyMoreUptoRow : OpenClaim := { program := "ythfimeddfpchpaa", sum := "7020edca91a41eb6ef237ae497952fd81013ff68b3bf4d5475cf983f3ae6946d", func := "aumbry/aumbrylaw05.CauchyMore", spec := "cauchyMore", unfollowed := true, recurses := true, apart := false, narrowed := true }
def CauchyMoreUptoSaid : Prop := cauchyMoreUptoRow.holds Try.pinned (OpenSpec.upto cauchyMoreSpec)

/-- 'aumbrylaw05.CauchyNumbers', WHERE WHAT IT READS IS OF BULK AT MOST 1048576: true; the input reads as it did. -/
def cauchyNumbersUptoRow : OpenClaim := { program := "ythfimeddfpchpaa", sum := "7020edca91a41eb6ef237ae497952fd81013ff68b3bf4d5475cf983f3ae6946d", func := "aumbry/aumbrylaw05.CauchyNumbers", spec := "cauchyNumbers", unfollowed := true, recurses := true, apart := false, narrowed := true }
def CauchyNumbersUptoSaid : Prop := cauchyNumbersUptoRow.holds Try.pinned (OpenSpec.upto cauchyNumbersSpec)

end Rows
end Go.Proofs.Ythfimeddfpchpaa
