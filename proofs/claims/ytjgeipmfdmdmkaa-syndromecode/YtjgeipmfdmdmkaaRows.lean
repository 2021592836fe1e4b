/-
  No cell of these rows narrows 'for every input' (looked for: loops, veiled, ifaces, maps, wideKeys, modest, calm, conditions, laid).
  DERIVED. THE GIVEN ROWS OF THIS SEAT. 5 by the template 'for every input the law returns true; each argument reads behind the call as it read before'; 0 by the template 'total and deterministic' (their statements: YtjgeipmfdmdmkaaTotals.lean).
  GIVEN WITH THE SEED: the statements are not yours to turn. If you find one false, say at which input.
  Laid BY PROGRAM, IN A SANDBOX (cutbox-rows.mjs): the forced cells as the released guide's own fill.sh prints them over the translation 2510924a70824c2e… (all of the seat's roots in one cut). By AI agents, Wed Nov 11 2026. No macro, syntax, notation, axiom, sorry.
-/
import Derived.Test.YtjgeipmfdmdmkaaChecked
import GoSem.Claim
import GoSem.ClaimJoined
import GoSem.ClaimMapViews
import Derived.JoinedTies
import Derived.KernelRfl
namespace Go.Proofs.Ytjgeipmfdmdmkaa
/- THE CELL 'sum', in the pinned program and in every row, IS THE sha256 OF THE DUMP (.gsa) THAT YtjgeipmfdmdmkaaProg.lean LOADS. Nothing in Lean hashes anything: it is a label: what it is worth is what the hold of that sum in a sandbox is worth. -/
noncomputable def Try.pinned : Pinned := { name := "ytjgeipmfdmdmkaa", sum := "2510924a70824c2ee38a48b654ba759c9ac60d38d8599ffce81f452592aaa955", checked := Try.checked }
namespace Rows
def none {H : Type} : Left H := { results := [], args := [] }

/-- 'aumbrylaw08.SyndromeTells': WHATEVER THE INPUT: true; the input reads as it did. -/
def syndromeTellsSpec : ChangeSpec := { name := "syndromeTells", fn := fun _ => fun
  | [d1, d2, d3] => { results := [.lit (.bool true)], args := [d1, d2, d3] }
  | _ => none }
def syndromeTellsRow : OpenClaim := { program := "ytjgeipmfdmdmkaa", sum := "2510924a70824c2ee38a48b654ba759c9ac60d38d8599ffce81f452592aaa955", func := "aumbry/aumbrylaw08.SyndromeTells", spec := "syndromeTells", unfollowed := true, recurses := true, apart := false }
def SyndromeTellsSaid : Prop := syndromeTellsRow.holds Try.pinned (OpenSpec.ofChange syndromeTellsSpec)

/-- ITS FALSE NEIGHBOUR: 'it returns false'. Refute it at one input. -/
def syndromeTellsWrong : ChangeSpec := { name := "syndromeTells", fn := fun _ => fun
  | [d1, d2, d3] => { results := [.lit (.bool false)], args := [d1, d2, d3] }
  | _ => none }
def SyndromeTellsWrongFalsely : Prop := syndromeTellsRow.holds Try.pinned (OpenSpec.ofChange syndromeTellsWrong)

/-- 'aumbrylaw08.SyndromeCode': WHATEVER THE INPUT: true; the input reads as it did. -/
def syndromeCodeSpec : ChangeSpec := { name := "syndromeCode", fn := fun _ => fun
  | [d1, d2, d3] => { results := [.lit (.bool true)], args := [d1, d2, d3] }
  | _ => none }
def syndromeCodeRow : OpenClaim := { program := "ytjgeipmfdmdmkaa", sum := "2510924a70824c2ee38a48b654ba759c9ac60d38d8599ffce81f452592aaa955", func := "aumbry/aumbrylaw08.SyndromeCode", spec := "syndromeCode", unfollowed := true, recurses := true, apart := false }
def SyndromeCodeSaid : Prop := syndromeCodeRow.holds Try.pinned (OpenSpec.ofChange syndromeCodeSpec)

/-- ITS FALSE NEIGHBOUR: 'it returns false'. Refute it at one input. -/
def syndromeCodeWrong : ChangeSpec := { name := "syndromeCode", fn := fun _ => fun
  | [d1, d2, d3] => { results := [.lit (.bool false)], args := [d1, d2, d3] }
  | _ => none }
def SyndromeCodeWrongFalsely : Prop := syndromeCodeRow.holds Try.pinned (OpenSpec.ofChange syndromeCodeWrong)

/-- 'aumbrylaw08.SyndromeLinear': WHATEVER THE INPUT: true; the input reads as it did. -/
def syndromeLinearSpec : ChangeSpec := { name := "syndromeLinear", fn := fun _ => fun
  | [d1, d2, d3, d4] => { results := [.lit (.bool true)], args := [d1, d2, d3, d4] }
  | _ => none }
def syndromeLinearRow : OpenClaim := { program := "ytjgeipmfdmdmkaa", sum := "2510924a70824c2ee38a48b654ba759c9ac60d38d8599ffce81f452592aaa955", func := "aumbry/aumbrylaw08.SyndromeLinear", spec := "syndromeLinear", unfollowed := true, recurses := true, apart := false }
def SyndromeLinearSaid : Prop := syndromeLinearRow.holds Try.pinned (OpenSpec.ofChange syndromeLinearSpec)

/-- ITS FALSE NEIGHBOUR: 'it returns false'. Refute it at one input. -/
def syndromeLinearWrong : ChangeSpec := { name := "syndromeLinear", fn := fun _ => fun
  | [d1, d2, d3, d4] => { results := [.lit (.bool false)], args := [d1, d2, d3, d4] }
  | _ => none }
def SyndromeLinearWrongFalsely : Prop := syndromeLinearRow.holds Try.pinned (OpenSpec.ofChange syndromeLinearWrong)

/-- 'aumbrylaw08.SyndromeSingle': WHATEVER THE INPUT: true; the input reads as it did. -/
def syndromeSingleSpec : ChangeSpec := { name := "syndromeSingle", fn := fun _ => fun
  | [d1, d2, d3, d4] => { results := [.lit (.bool true)], args := [d1, d2, d3, d4] }
  | _ => none }
def syndromeSingleRow : OpenClaim := { program := "ytjgeipmfdmdmkaa", sum := "2510924a70824c2ee38a48b654ba759c9ac60d38d8599ffce81f452592aaa955", func := "aumbry/aumbrylaw08.SyndromeSingle", spec := "syndromeSingle", unfollowed := true, recurses := true, apart := false }
def SyndromeSingleSaid : Prop := syndromeSingleRow.holds Try.pinned (OpenSpec.ofChange syndromeSingleSpec)

/-- ITS FALSE NEIGHBOUR: 'it returns false'. Refute it at one input. -/
def syndromeSingleWrong : ChangeSpec := { name := "syndromeSingle", fn := fun _ => fun
  | [d1, d2, d3, d4] => { results := [.lit (.bool false)], args := [d1, d2, d3, d4] }
  | _ => none }
def SyndromeSingleWrongFalsely : Prop := syndromeSingleRow.holds Try.pinned (OpenSpec.ofChange syndromeSingleWrong)

/-- 'aumbrylaw08.SyndromeScales': WHATEVER THE INPUT: true; the input reads as it did. -/
def syndromeScalesSpec : ChangeSpec := { name := "syndromeScales", fn := fun _ => fun
  | [d1, d2, d3, d4] => { results := [.lit (.bool true)], args := [d1, d2, d3, d4] }
  | _ => none }
def syndromeScalesRow : OpenClaim := { program := "ytjgeipmfdmdmkaa", sum := "2510924a70824c2ee38a48b654ba759c9ac60d38d8599ffce81f452592aaa955", func := "aumbry/aumbrylaw08.SyndromeScales", spec := "syndromeScales", unfollowed := true, recurses := true, apart := false }
def SyndromeScalesSaid : Prop := syndromeScalesRow.holds Try.pinned (OpenSpec.ofChange syndromeScalesSpec)

/-- ITS FALSE NEIGHBOUR: 'it returns false'. Refute it at one input. -/
def syndromeScalesWrong : ChangeSpec := { name := "syndromeScales", fn := fun _ => fun
  | [d1, d2, d3, d4] => { results := [.lit (.bool false)], args := [d1, d2, d3, d4] }
  | _ => none }
def SyndromeScalesWrongFalsely : Prop := syndromeScalesRow.holds Try.pinned (OpenSpec.ofChange syndromeScalesWrong)

/- THE SECOND FORM. 'bulk': how many values and letters a reading holds, each counted each time it is reached (what is shared counts as often as it is met; a slice's spare places count too). A statement '..UptoSaid' is the law's where the arguments, and the package variables that the reading takes, are together of bulk at most 1048576: NARROWER than '..Said'. Prove '..Said' where nothing that the law and all that it calls make is longer than what came in: it says more and counts as full. Else prove '..UptoSaid'. A law counts once. -/
mutual
def uptoBulk {H : Type} : DataW H → Nat
  | .lit (.string bytes) => bytes.length + 1
  | .lit _ => 1
  | .nil => 1
  | .ptr d => uptoBulk d + 1
  | .slice elems spare => uptoBulkAll elems + uptoBulkAll spare + 1
  | .agg parts => uptoBulkAll parts + 1
  | .iface _ d => uptoBulk d + 1
  | .map entries => uptoBulkEntries entries + 1
  | .held _ => 1
def uptoBulkAll {H : Type} : List (DataW H) → Nat
  | [] => 0
  | d :: r => uptoBulk d + uptoBulkAll r
def uptoBulkEntries {H : Type} : List (Lit × DataW H) → Nat
  | [] => 0
  | x :: r => uptoBulkEntry x + uptoBulkEntries r
def uptoBulkEntry {H : Type} : Lit × DataW H → Nat
  | (.string bytes, d) => bytes.length + uptoBulk d + 1
  | (_, d) => uptoBulk d + 1
 end
def uptoSmall : (H : Type) → List (DataW H) → Bool := fun _ ds => decide (uptoBulkAll ds ≤ 1048576)
def OpenSpec.upto (s : _root_.Go.ChangeSpec) : _root_.Go.OpenSpec := { _root_.Go.OpenSpec.ofChange s with cond := some uptoSmall }

/-- 'aumbrylaw08.SyndromeTells', WHERE WHAT IT READS IS OF BULK AT MOST 1048576: true; the input reads as it did. -/
def syndromeTellsUptoRow : OpenClaim := { program := "ytjgeipmfdmdmkaa", sum := "2510924a70824c2ee38a48b654ba759c9ac60d38d8599ffce81f452592aaa955", func := "aumbry/aumbrylaw08.SyndromeTells", spec := "syndromeTells", unfollowed := true, recurses := true, apart := false, narrowed := true }
def SyndromeTellsUptoSaid : Prop := syndromeTellsUptoRow.holds Try.pinned (OpenSpec.upto syndromeTellsSpec)

/-- 'aumbrylaw08.SyndromeCode', WHERE WHAT IT READS IS OF BULK AT MOST 1048576: true; the input reads as it did. -/
def syndromeCodeUptoRow : OpenClaim := { program := "ytjgeipmfdmdmkaa", sum := "2510924a70824c2ee38a48b654ba759c9ac60d38d8599ffce81f452592aaa955", func := "aumbry/aumbrylaw08.SyndromeCode", spec := "syndromeCode", unfollowed := true, recurses := true, apart := false, narrowed := true }
def SyndromeCodeUptoSaid : Prop := syndromeCodeUptoRow.holds Try.pinned (OpenSpec.upto syndromeCodeSpec)

/-- 'aumbrylaw08.SyndromeLinear', WHERE WHAT IT READS IS OF BULK AT MOST 1048576: true; the input reads as it did. -/
def syndromeLinearUptoRow : OpenClaim := { program := "ytjgeipmfdmdmkaa", sum := "2510924a70824c2ee38a48b654ba759c9ac60d38d8599ffce81f452592aaa955", func := "aumbry/aumbrylaw08.SyndromeLinear", spec := "syndromeLinear", unfollowed := true, recurses := true, apart := false, narrowed := true }
def SyndromeLinearUptoSaid : Prop := syndromeLinearUptoRow.holds Try.pinned (OpenSpec.upto syndromeLinearSpec)

/-- 'aumbrylaw08.SyndromeSingle', WHERE WHAT IT READS IS OF BULK AT MOST 1048576: true; the input reads as it did. -/
def syndromeSingleUptoRow : OpenClaim := { program := "ytjgeipmfdmdmkaa", sum := "2510924a70824c2ee38a48b654ba759c9ac60d38d8599ffce81f452592aaa955", func := "aumbry/aumbrylaw08.SyndromeSingle", spec := "syndromeSingle", unfollowed := true, recurses := true, apart := false, narrowed := true }
def SyndromeSingleUptoSaid : Prop := syndromeSingleUptoRow.holds Try.pinned (OpenSpec.upto syndromeSingleSpec)

/-- 'aumbrylaw08.SyndromeScales', WHERE WHAT IT READS IS OF BULK AT MOST 1048576: true; the input reads as it did. -/
def syndromeScalesUptoRow : OpenClaim := { program := "ytjgeipmfdmdmkaa", sum := "2510924a70824c2ee38a48b654ba759c9ac60d38d8599ffce81f452592aaa955", func := "aumbry/aumbrylaw08.SyndromeScales", spec := "syndromeScales", unfollowed := true, recurses := true, apart := false, narrowed := true }
def SyndromeScalesUptoSaid : Prop := syndromeScalesUptoRow.holds Try.pinned (OpenSpec.upto syndromeScalesSpec)

end Rows
end Go.Proofs.Ytjgeipmfdmdmkaa
