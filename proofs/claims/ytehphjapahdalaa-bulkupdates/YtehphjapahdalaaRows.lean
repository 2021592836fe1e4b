/-
  No cell of these rows narrows 'for every input' (looked for: loops, veiled, ifaces, maps, wideKeys, modest, calm, conditions, laid).
  DERIVED. THE GIVEN ROWS OF THIS SEAT. 6 by the template 'for every input the law returns true; each argument reads behind the call as it read before'; 0 by the template 'total and deterministic' (their statements: YtehphjapahdalaaTotals.lean).
  GIVEN WITH THE SEED: the statements are not yours to turn. If you find one false, say at which input.
  Laid BY PROGRAM, IN A SANDBOX (cutbox-rows.mjs): the forced cells as the released guide's own fill.sh prints them over the translation 540598c8978e7636… (all of the seat's roots in one cut). By AI agents, Wed Nov 11 2026. No macro, syntax, notation, axiom, sorry.
-/
import Derived.Test.YtehphjapahdalaaChecked
import GoSem.Claim
import GoSem.ClaimJoined
import GoSem.ClaimMapViews
import Derived.JoinedTies
import Derived.KernelRfl
namespace Go.Proofs.Ytehphjapahdalaa
/- THE CELL 'sum', in the pinned program and in every row, IS THE sha256 OF THE DUMP (.gsa) THAT YtehphjapahdalaaProg.lean LOADS. Nothing in Lean hashes anything: it is a label: what it is worth is what the hold of that sum in a sandbox is worth. -/
noncomputable def Try.pinned : Pinned := { name := "ytehphjapahdalaa", sum := "540598c8978e76362dcb46d4be539b5946756a0cc9254c59991b276f7377769f", checked := Try.checked }
namespace Rows
def none {H : Type} : Left H := { results := [], args := [] }

/-- 'aumbrylaw06.BulkNames': WHATEVER THE INPUT: true; the input reads as it did. -/
def bulkNamesSpec : ChangeSpec := { name := "bulkNames", fn := fun _ => fun
  | [] => { results := [.lit (.bool true)], args := [] }
  | _ => none }
def bulkNamesRow : OpenClaim := { program := "ytehphjapahdalaa", sum := "540598c8978e76362dcb46d4be539b5946756a0cc9254c59991b276f7377769f", func := "aumbry/aumbrylaw06.BulkNames", spec := "bulkNames", unfollowed := true, recurses := true, apart := false }
def BulkNamesSaid : Prop := bulkNamesRow.holds Try.pinned (OpenSpec.ofChange bulkNamesSpec)

/-- ITS FALSE NEIGHBOUR: 'it returns false'. Refute it at one input. -/
def bulkNamesWrong : ChangeSpec := { name := "bulkNames", fn := fun _ => fun
  | [] => { results := [.lit (.bool false)], args := [] }
  | _ => none }
def BulkNamesWrongFalsely : Prop := bulkNamesRow.holds Try.pinned (OpenSpec.ofChange bulkNamesWrong)

/-- 'aumbrylaw06.BulkEncodes': WHATEVER THE INPUT: true; the input reads as it did. -/
def bulkEncodesSpec : ChangeSpec := { name := "bulkEncodes", fn := fun _ => fun
  | [d1, d2, d3] => { results := [.lit (.bool true)], args := [d1, d2, d3] }
  | _ => none }
def bulkEncodesRow : OpenClaim := { program := "ytehphjapahdalaa", sum := "540598c8978e76362dcb46d4be539b5946756a0cc9254c59991b276f7377769f", func := "aumbry/aumbrylaw06.BulkEncodes", spec := "bulkEncodes", unfollowed := true, recurses := true, apart := false }
def BulkEncodesSaid : Prop := bulkEncodesRow.holds Try.pinned (OpenSpec.ofChange bulkEncodesSpec)

/-- ITS FALSE NEIGHBOUR: 'it returns false'. Refute it at one input. -/
def bulkEncodesWrong : ChangeSpec := { name := "bulkEncodes", fn := fun _ => fun
  | [d1, d2, d3] => { results := [.lit (.bool false)], args := [d1, d2, d3] }
  | _ => none }
def BulkEncodesWrongFalsely : Prop := bulkEncodesRow.holds Try.pinned (OpenSpec.ofChange bulkEncodesWrong)

/-- 'aumbrylaw06.BulkUpdates': WHATEVER THE INPUT: true; the input reads as it did. -/
def bulkUpdatesSpec : ChangeSpec := { name := "bulkUpdates", fn := fun _ => fun
  | [d1, d2, d3, d4, d5, d6] => { results := [.lit (.bool true)], args := [d1, d2, d3, d4, d5, d6] }
  | _ => none }
def bulkUpdatesRow : OpenClaim := { program := "ytehphjapahdalaa", sum := "540598c8978e76362dcb46d4be539b5946756a0cc9254c59991b276f7377769f", func := "aumbry/aumbrylaw06.BulkUpdates", spec := "bulkUpdates", unfollowed := true, recurses := true, apart := false }
def BulkUpdatesSaid : Prop := bulkUpdatesRow.holds Try.pinned (OpenSpec.ofChange bulkUpdatesSpec)

/-- ITS FALSE NEIGHBOUR: 'it returns false'. Refute it at one input. -/
def bulkUpdatesWrong : ChangeSpec := { name := "bulkUpdates", fn := fun _ => fun
  | [d1, d2, d3, d4, d5, d6] => { results := [.lit (.bool false)], args := [d1, d2, d3, d4, d5, d6] }
  | _ => none }
def BulkUpdatesWrongFalsely : Prop := bulkUpdatesRow.holds Try.pinned (OpenSpec.ofChange bulkUpdatesWrong)

/-- 'aumbrylaw06.BulkLinear': WHATEVER THE INPUT: true; the input reads as it did. -/
def bulkLinearSpec : ChangeSpec := { name := "bulkLinear", fn := fun _ => fun
  | [d1, d2, d3, d4] => { results := [.lit (.bool true)], args := [d1, d2, d3, d4] }
  | _ => none }
def bulkLinearRow : OpenClaim := { program := "ytehphjapahdalaa", sum := "540598c8978e76362dcb46d4be539b5946756a0cc9254c59991b276f7377769f", func := "aumbry/aumbrylaw06.BulkLinear", spec := "bulkLinear", unfollowed := true, recurses := true, apart := false }
def BulkLinearSaid : Prop := bulkLinearRow.holds Try.pinned (OpenSpec.ofChange bulkLinearSpec)

/-- ITS FALSE NEIGHBOUR: 'it returns false'. Refute it at one input. -/
def bulkLinearWrong : ChangeSpec := { name := "bulkLinear", fn := fun _ => fun
  | [d1, d2, d3, d4] => { results := [.lit (.bool false)], args := [d1, d2, d3, d4] }
  | _ => none }
def BulkLinearWrongFalsely : Prop := bulkLinearRow.holds Try.pinned (OpenSpec.ofChange bulkLinearWrong)

/-- 'aumbrylaw06.BulkChanges': WHATEVER THE INPUT: true; the input reads as it did. -/
def bulkChangesSpec : ChangeSpec := { name := "bulkChanges", fn := fun _ => fun
  | [d1, d2, d3, d4, d5] => { results := [.lit (.bool true)], args := [d1, d2, d3, d4, d5] }
  | _ => none }
def bulkChangesRow : OpenClaim := { program := "ytehphjapahdalaa", sum := "540598c8978e76362dcb46d4be539b5946756a0cc9254c59991b276f7377769f", func := "aumbry/aumbrylaw06.BulkChanges", spec := "bulkChanges", unfollowed := true, recurses := true, apart := false }
def BulkChangesSaid : Prop := bulkChangesRow.holds Try.pinned (OpenSpec.ofChange bulkChangesSpec)

/-- ITS FALSE NEIGHBOUR: 'it returns false'. Refute it at one input. -/
def bulkChangesWrong : ChangeSpec := { name := "bulkChanges", fn := fun _ => fun
  | [d1, d2, d3, d4, d5] => { results := [.lit (.bool false)], args := [d1, d2, d3, d4, d5] }
  | _ => none }
def BulkChangesWrongFalsely : Prop := bulkChangesRow.holds Try.pinned (OpenSpec.ofChange bulkChangesWrong)

/-- 'aumbrylaw06.BulkSingle': WHATEVER THE INPUT: true; the input reads as it did. -/
def bulkSingleSpec : ChangeSpec := { name := "bulkSingle", fn := fun _ => fun
  | [d1, d2, d3, d4, d5, d6] => { results := [.lit (.bool true)], args := [d1, d2, d3, d4, d5, d6] }
  | _ => none }
def bulkSingleRow : OpenClaim := { program := "ytehphjapahdalaa", sum := "540598c8978e76362dcb46d4be539b5946756a0cc9254c59991b276f7377769f", func := "aumbry/aumbrylaw06.BulkSingle", spec := "bulkSingle", unfollowed := true, recurses := true, apart := false }
def BulkSingleSaid : Prop := bulkSingleRow.holds Try.pinned (OpenSpec.ofChange bulkSingleSpec)

/-- ITS FALSE NEIGHBOUR: 'it returns false'. Refute it at one input. -/
def bulkSingleWrong : ChangeSpec := { name := "bulkSingle", fn := fun _ => fun
  | [d1, d2, d3, d4, d5, d6] => { results := [.lit (.bool false)], args := [d1, d2, d3, d4, d5, d6] }
  | _ => none }
def BulkSingleWrongFalsely : Prop := bulkSingleRow.holds Try.pinned (OpenSpec.ofChange bulkSingleWrong)

/- THE SECOND FORM. 'bulk': how many values and letters a reading holds, each counted each time it is reached (what is shared counts as often as it is met; a slice's spare places count too). A statement '..UptoSaid' is the law's where the arguments, and the package variables that the reading takes, are together of bulk at most 1048576: NARROWER than '..Said'. Prove '..Said' where nothing that the law and all that it calls make is longer than what came in: it says more and counts as full. Else prove '..UptoSaid'. A law counts once. -/
mutual
def uptoBulk {H : Type} : DataW H → Nat
  | .lit (.string bytes) => bytes.length + 1
  | .lit _ => 1
  | .nil => 1
  | .ptr d => uptoBulk d + 1
  | .slice elems spare => uptoBulkAll elems + uptoBulkAll spare + 1
  | .agg parts => uptoBulkAll parts + 1
  | .iface _ d => uptoBulk d + 1
  | .map entries => uptoBulkEntries entries + 1
  | .held _ => 1
def uptoBulkAll {H : Type} : List (DataW H) → Nat
  | [] => 0
  | d :: r => uptoBulk d + uptoBulkAll r
def uptoBulkEntries {H : Type} : List (Lit × DataW H) → Nat
  | [] => 0
  | x :: r => uptoBulkEntry x + uptoBulkEntries r
def uptoBulkEntry {H : Type} : Lit × DataW H → Nat
  | (.string bytes, d) => bytes.length + uptoBulk d + 1
  | (_, d) => uptoBulk d + 1
 end
def uptoSmall : (H : Type) → List (DataW H) → Bool := fun _ ds => decide (uptoBulkAll ds ≤ 1048576)
def OpenSpec.upto (s : _root_.Go.ChangeSpec) : _root_.Go.OpenSpec := { _root_.Go.OpenSpec.ofChange s with cond := some uptoSmall }

/-- 'aumbrylaw06.BulkNames', WHERE WHAT IT READS IS OF BULK AT MOST 1048576: true; the input reads as it did. -/
def bulkNamesUptoRow : OpenClaim := { program := "ytehphjapahdalaa", sum := "540598c8978e76362dcb46d4be539b5946756a0cc9254c59991b276f7377769f", func := "aumbry/aumbrylaw06.BulkNames", spec := "bulkNames", unfollowed := true, recurses := true, apart := false, narrowed := true }
def BulkNamesUptoSaid : Prop := bulkNamesUptoRow.holds Try.pinned (OpenSpec.upto bulkNamesSpec)

/-- 'aumbrylaw06.BulkEncodes', WHERE WHAT IT READS IS OF BULK AT MOST 1048576: true; the input reads as it did. -/
def bulkEncodesUptoRow : OpenClaim := { program := "ytehphjapahdalaa", sum := "540598c8978e76362dcb46d4be539b5946756a0cc9254c59991b276f7377769f", func := "aumbry/aumbrylaw06.BulkEncodes", spec := "bulkEncodes", unfollowed := true, recurses := true, apart := false, narrowed := true }
def BulkEncodesUptoSaid : Prop := bulkEncodesUptoRow.holds Try.pinned (OpenSpec.upto bulkEncodesSpec)

/-- 'aumbrylaw06.BulkUpdates', WHERE WHAT IT READS IS OF BULK AT MOST 1048576: true; the input reads as it did. -/
def bulkUpdatesUptoRow : OpenClaim := { program := "ytehphjapahdalaa", sum := "540598c8978e76362dcb46d4be539b5946756a0cc9254c59991b276f7377769f", func := "aumbry/aumbrylaw06.BulkUpdates", spec := "bulkUpdates", unfollowed := true, recurses := true, apart := false, narrowed := true }
def BulkUpdatesUptoSaid : Prop := bulkUpdatesUptoRow.holds Try.pinned (OpenSpec.upto bulkUpdatesSpec)

/-- 'aumbrylaw06.BulkLinear', WHERE WHAT IT READS IS OF BULK AT MOST 1048576: true; the input reads as it did. -/
def bulkLinearUptoRow : OpenClaim := { program := "ytehphjapahdalaa", sum := "540598c8978e76362dcb46d4be539b5946756a0cc9254c59991b276f7377769f", func := "aumbry/aumbrylaw06.BulkLinear", spec := "bulkLinear", unfollowed := true, recurses := true, apart := false, narrowed := true }
def BulkLinearUptoSaid : Prop := bulkLinearUptoRow.holds Try.pinned (OpenSpec.upto bulkLinearSpec)

/-- 'aumbrylaw06.BulkChanges', WHERE WHAT IT READS IS OF BULK AT MOST 1048576: true; the input reads as it did. -/
def bulkChangesUptoRow : OpenClaim := { program := "ytehphjapahdalaa", sum := "540598c8978e76362dcb46d4be539b5946756a0cc9254c59991b276f7377769f", func := "aumbry/aumbrylaw06.BulkChanges", spec := "bulkChanges", unfollowed := true, recurses := true, apart := false, narrowed := true }
def BulkChangesUptoSaid : Prop := bulkChangesUptoRow.holds Try.pinned (OpenSpec.upto bulkChangesSpec)

/-- 'aumbrylaw06.BulkSingle', WHERE WHAT IT READS IS OF BULK AT MOST 1048576: true; the input reads as it did. -/
def bulkSingleUptoRow : OpenClaim := { program := "ytehphjapahdalaa", sum := "540598c8978e76362dcb46d4be539b5946756a0cc9254c59991b276f7377769f", func := "aumbry/aumbrylaw06.BulkSingle", spec := "bulkSingle", unfollowed := true, recurses := true, apart := false, narrowed := true }
def BulkSingleUptoSaid : Prop := bulkSingleUptoRow.holds Try.pinned (OpenSpec.upto bulkSingleSpec)

end Rows
end Go.Proofs.Ytehphjapahdalaa
