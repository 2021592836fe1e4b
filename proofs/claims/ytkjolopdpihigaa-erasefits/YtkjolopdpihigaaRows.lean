/-
  No cell of these rows narrows 'for every input' (looked for: loops, veiled, ifaces, maps, wideKeys, modest, calm, conditions, laid).
  DERIVED. THE GIVEN ROWS OF THIS SEAT. 6 by the template 'for every input the law returns true; each argument reads behind the call as it read before'; 0 by the template 'total and deterministic' (their statements: YtkjolopdpihigaaTotals.lean).
  GIVEN WITH THE SEED: the statements are not yours to turn. If you find one false, say at which input.
  Laid BY PROGRAM, IN A SANDBOX (cutbox-rows.mjs): the forced cells as the released guide's own fill.sh prints them over the translation 6cd0702493ccb5ad… (all of the seat's roots in one cut). By AI agents, Wed Nov 11 2026. No macro, syntax, notation, axiom, sorry.
-/
import Derived.Test.YtkjolopdpihigaaChecked
import GoSem.Claim
import GoSem.ClaimJoined
import GoSem.ClaimMapViews
import Derived.JoinedTies
import Derived.KernelRfl
namespace Go.Proofs.Ytkjolopdpihigaa
/- THE CELL 'sum', in the pinned program and in every row, IS THE sha256 OF THE DUMP (.gsa) THAT YtkjolopdpihigaaProg.lean LOADS. Nothing in Lean hashes anything: it is a label: what it is worth is what the hold of that sum in a sandbox is worth. -/
noncomputable def Try.pinned : Pinned := { name := "ytkjolopdpihigaa", sum := "6cd0702493ccb5adf0342cff05aee0deb22c34e0b8192d27a511026697d18f2c", checked := Try.checked }
namespace Rows
def none {H : Type} : Left H := { results := [], args := [] }

/-- 'aumbrylaw07.EraseNames': WHATEVER THE INPUT: true; the input reads as it did. -/
def eraseNamesSpec : ChangeSpec := { name := "eraseNames", fn := fun _ => fun
  | [] => { results := [.lit (.bool true)], args := [] }
  | _ => none }
def eraseNamesRow : OpenClaim := { program := "ytkjolopdpihigaa", sum := "6cd0702493ccb5adf0342cff05aee0deb22c34e0b8192d27a511026697d18f2c", func := "aumbry/aumbrylaw07.EraseNames", spec := "eraseNames", unfollowed := true, recurses := true, apart := false }
def EraseNamesSaid : Prop := eraseNamesRow.holds Try.pinned (OpenSpec.ofChange eraseNamesSpec)

/-- ITS FALSE NEIGHBOUR: 'it returns false'. Refute it at one input. -/
def eraseNamesWrong : ChangeSpec := { name := "eraseNames", fn := fun _ => fun
  | [] => { results := [.lit (.bool false)], args := [] }
  | _ => none }
def EraseNamesWrongFalsely : Prop := eraseNamesRow.holds Try.pinned (OpenSpec.ofChange eraseNamesWrong)

/-- 'aumbrylaw07.EraseDecodes': WHATEVER THE INPUT: true; the input reads as it did. -/
def eraseDecodesSpec : ChangeSpec := { name := "eraseDecodes", fn := fun _ => fun
  | [d1, d2, d3, d4] => { results := [.lit (.bool true)], args := [d1, d2, d3, d4] }
  | _ => none }
def eraseDecodesRow : OpenClaim := { program := "ytkjolopdpihigaa", sum := "6cd0702493ccb5adf0342cff05aee0deb22c34e0b8192d27a511026697d18f2c", func := "aumbry/aumbrylaw07.EraseDecodes", spec := "eraseDecodes", unfollowed := true, recurses := true, apart := false }
def EraseDecodesSaid : Prop := eraseDecodesRow.holds Try.pinned (OpenSpec.ofChange eraseDecodesSpec)

/-- ITS FALSE NEIGHBOUR: 'it returns false'. Refute it at one input. -/
def eraseDecodesWrong : ChangeSpec := { name := "eraseDecodes", fn := fun _ => fun
  | [d1, d2, d3, d4] => { results := [.lit (.bool false)], args := [d1, d2, d3, d4] }
  | _ => none }
def EraseDecodesWrongFalsely : Prop := eraseDecodesRow.holds Try.pinned (OpenSpec.ofChange eraseDecodesWrong)

/-- 'aumbrylaw07.EraseBack': WHATEVER THE INPUT: true; the input reads as it did. -/
def eraseBackSpec : ChangeSpec := { name := "eraseBack", fn := fun _ => fun
  | [d1, d2, d3, d4, d5] => { results := [.lit (.bool true)], args := [d1, d2, d3, d4, d5] }
  | _ => none }
def eraseBackRow : OpenClaim := { program := "ytkjolopdpihigaa", sum := "6cd0702493ccb5adf0342cff05aee0deb22c34e0b8192d27a511026697d18f2c", func := "aumbry/aumbrylaw07.EraseBack", spec := "eraseBack", unfollowed := true, recurses := true, apart := false }
def EraseBackSaid : Prop := eraseBackRow.holds Try.pinned (OpenSpec.ofChange eraseBackSpec)

/-- ITS FALSE NEIGHBOUR: 'it returns false'. Refute it at one input. -/
def eraseBackWrong : ChangeSpec := { name := "eraseBack", fn := fun _ => fun
  | [d1, d2, d3, d4, d5] => { results := [.lit (.bool false)], args := [d1, d2, d3, d4, d5] }
  | _ => none }
def EraseBackWrongFalsely : Prop := eraseBackRow.holds Try.pinned (OpenSpec.ofChange eraseBackWrong)

/-- 'aumbrylaw07.EraseFits': WHATEVER THE INPUT: true; the input reads as it did. -/
def eraseFitsSpec : ChangeSpec := { name := "eraseFits", fn := fun _ => fun
  | [d1, d2, d3, d4, d5] => { results := [.lit (.bool true)], args := [d1, d2, d3, d4, d5] }
  | _ => none }
def eraseFitsRow : OpenClaim := { program := "ytkjolopdpihigaa", sum := "6cd0702493ccb5adf0342cff05aee0deb22c34e0b8192d27a511026697d18f2c", func := "aumbry/aumbrylaw07.EraseFits", spec := "eraseFits", unfollowed := true, recurses := true, apart := false }
def EraseFitsSaid : Prop := eraseFitsRow.holds Try.pinned (OpenSpec.ofChange eraseFitsSpec)

/-- ITS FALSE NEIGHBOUR: 'it returns false'. Refute it at one input. -/
def eraseFitsWrong : ChangeSpec := { name := "eraseFits", fn := fun _ => fun
  | [d1, d2, d3, d4, d5] => { results := [.lit (.bool false)], args := [d1, d2, d3, d4, d5] }
  | _ => none }
def EraseFitsWrongFalsely : Prop := eraseFitsRow.holds Try.pinned (OpenSpec.ofChange eraseFitsWrong)

/-- 'aumbrylaw07.EraseLater': WHATEVER THE INPUT: true; the input reads as it did. -/
def eraseLaterSpec : ChangeSpec := { name := "eraseLater", fn := fun _ => fun
  | [d1, d2, d3, d4, d5] => { results := [.lit (.bool true)], args := [d1, d2, d3, d4, d5] }
  | _ => none }
def eraseLaterRow : OpenClaim := { program := "ytkjolopdpihigaa", sum := "6cd0702493ccb5adf0342cff05aee0deb22c34e0b8192d27a511026697d18f2c", func := "aumbry/aumbrylaw07.EraseLater", spec := "eraseLater", unfollowed := true, recurses := true, apart := false }
def EraseLaterSaid : Prop := eraseLaterRow.holds Try.pinned (OpenSpec.ofChange eraseLaterSpec)

/-- ITS FALSE NEIGHBOUR: 'it returns false'. Refute it at one input. -/
def eraseLaterWrong : ChangeSpec := { name := "eraseLater", fn := fun _ => fun
  | [d1, d2, d3, d4, d5] => { results := [.lit (.bool false)], args := [d1, d2, d3, d4, d5] }
  | _ => none }
def EraseLaterWrongFalsely : Prop := eraseLaterRow.holds Try.pinned (OpenSpec.ofChange eraseLaterWrong)

/-- 'aumbrylaw07.EraseSums': WHATEVER THE INPUT: true; the input reads as it did. -/
def eraseSumsSpec : ChangeSpec := { name := "eraseSums", fn := fun _ => fun
  | [d1, d2, d3, d4, d5] => { results := [.lit (.bool true)], args := [d1, d2, d3, d4, d5] }
  | _ => none }
def eraseSumsRow : OpenClaim := { program := "ytkjolopdpihigaa", sum := "6cd0702493ccb5adf0342cff05aee0deb22c34e0b8192d27a511026697d18f2c", func := "aumbry/aumbrylaw07.EraseSums", spec := "eraseSums", unfollowed := true, recurses := true, apart := false }
def EraseSumsSaid : Prop := eraseSumsRow.holds Try.pinned (OpenSpec.ofChange eraseSumsSpec)

/-- ITS FALSE NEIGHBOUR: 'it returns false'. Refute it at one input. -/
def eraseSumsWrong : ChangeSpec := { name := "eraseSums", fn := fun _ => fun
  | [d1, d2, d3, d4, d5] => { results := [.lit (.bool false)], args := [d1, d2, d3, d4, d5] }
  | _ => none }
def EraseSumsWrongFalsely : Prop := eraseSumsRow.holds Try.pinned (OpenSpec.ofChange eraseSumsWrong)

/- THE SECOND FORM. 'bulk': how many values and letters a reading holds, each counted each time it is reached (what is shared counts as often as it is met; a slice's spare places count too). A statement '..UptoSaid' is the law's where the arguments, and the package variables that the reading takes, are together of bulk at most 1048576: NARROWER than '..Said'. Prove '..Said' where nothing that the law and all that it calls make is longer than what came in: it says more and counts as full. Else prove '..UptoSaid'. A law counts once. -/
mutual
def uptoBulk {H : Type} : DataW H → Nat
  | .lit (.string bytes) => bytes.length + 1
  | .lit _ => 1
  | .nil => 1
  | .ptr d => uptoBulk d + 1
  | .slice elems spare => uptoBulkAll elems + uptoBulkAll spare + 1
  | .agg parts => uptoBulkAll parts + 1
  | .iface _ d => uptoBulk d + 1
  | .map entries => uptoBulkEntries entries + 1
  | .held _ => 1
def uptoBulkAll {H : Type} : List (DataW H) → Nat
  | [] => 0
  | d :: r => uptoBulk d + uptoBulkAll r
def uptoBulkEntries {H : Type} : List (Lit × DataW H) → Nat
  | [] => 0
  | x :: r => uptoBulkEntry x + uptoBulkEntries r
def uptoBulkEntry {H : Type} : Lit × DataW H → Nat
  | (.string bytes, d) => bytes.length + uptoBulk d + 1
  | (_, d) => uptoBulk d + 1
 end
def uptoSmall : (H : Type) → List (DataW H) → Bool := fun _ ds => decide (uptoBulkAll ds ≤ 1048576)
def OpenSpec.upto (s : _root_.Go.ChangeSpec) : _root_.Go.OpenSpec := { _root_.Go.OpenSpec.ofChange s with cond := some uptoSmall }

/-- 'aumbrylaw07.EraseNames', WHERE WHAT IT READS IS OF BULK AT MOST 1048576: true; the input reads as it did. -/
def eraseNamesUptoRow : OpenClaim := { program := "ytkjolopdpihigaa", sum := "6cd0702493ccb5adf0342cff05aee0deb22c34e0b8192d27a511026697d18f2c", func := "aumbry/aumbrylaw07.EraseNames", spec := "eraseNames", unfollowed := true, recurses := true, apart := false, narrowed := true }
def EraseNamesUptoSaid : Prop := eraseNamesUptoRow.holds Try.pinned (OpenSpec.upto eraseNamesSpec)

/-- 'aumbrylaw07.EraseDecodes', WHERE WHAT IT READS IS OF BULK AT MOST 1048576: true; the input reads as it did. -/
def eraseDecodesUptoRow : OpenClaim := { program := "ytkjolopdpihigaa", sum := "6cd0702493ccb5adf0342cff05aee0deb22c34e0b8192d27a511026697d18f2c", func := "aumbry/aumbrylaw07.EraseDecodes", spec := "eraseDecodes", unfollowed := true, recurses := true, apart := false, narrowed := true }
def EraseDecodesUptoSaid : Prop := eraseDecodesUptoRow.holds Try.pinned (OpenSpec.upto eraseDecodesSpec)

/-- 'aumbrylaw07.EraseBack', WHERE WHAT IT READS IS OF BULK AT MOST 1048576: true; the input reads as it did. -/
def eraseBackUptoRow : OpenClaim := { program := "ytkjolopdpihigaa", sum := "6cd0702493ccb5adf0342cff05aee0deb22c34e0b8192d27a511026697d18f2c", func := "aumbry/aumbrylaw07.EraseBack", spec := "eraseBack", unfollowed := true, recurses := true, apart := false, narrowed := true }
def EraseBackUptoSaid : Prop := eraseBackUptoRow.holds Try.pinned (OpenSpec.upto eraseBackSpec)

/-- 'aumbrylaw07.EraseFits', WHERE WHAT IT READS IS OF BULK AT MOST 1048576: true; the input reads as it did. -/
def eraseFitsUptoRow : OpenClaim := { program := "ytkjolopdpihigaa", sum := "6cd0702493ccb5adf0342cff05aee0deb22c34e0b8192d27a511026697d18f2c", func := "aumbry/aumbrylaw07.EraseFits", spec := "eraseFits", unfollowed := true, recurses := true, apart := false, narrowed := true }
def EraseFitsUptoSaid : Prop := eraseFitsUptoRow.holds Try.pinned (OpenSpec.upto eraseFitsSpec)

/-- 'aumbrylaw07.EraseLater', WHERE WHAT IT READS IS OF BULK AT MOST 1048576: true; the input reads as it did. -/
def eraseLaterUptoRow : OpenClaim := { program := "ytkjolopdpihigaa", sum := "6cd0702493ccb5adf0342cff05aee0deb22c34e0b8192d27a511026697d18f2c", func := "aumbry/aumbrylaw07.EraseLater", spec := "eraseLater", unfollowed := true, recurses := true, apart := false, narrowed := true }
def EraseLaterUptoSaid : Prop := eraseLaterUptoRow.holds Try.pinned (OpenSpec.upto eraseLaterSpec)

/-- 'aumbrylaw07.EraseSums', WHERE WHAT IT READS IS OF BULK AT MOST 1048576: true; the input reads as it did. -/
def eraseSumsUptoRow : OpenClaim := { program := "ytkjolopdpihigaa", sum := "6cd0702493ccb5adf0342cff05aee0deb22c34e0b8192d27a511026697d18f2c", func := "aumbry/aumbrylaw07.EraseSums", spec := "eraseSums", unfollowed := true, recurses := true, apart := false, narrowed := true }
def EraseSumsUptoSaid : Prop := eraseSumsUptoRow.holds Try.pinned (OpenSpec.upto eraseSumsSpec)

end Rows
end Go.Proofs.Ytkjolopdpihigaa
