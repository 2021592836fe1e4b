/-
  WORDS FOR SHORT PROOFS THAT STAND AT MANY PLACES: each closes what its one tactic closes. No program's function is named here.
-/
import Derived.Deep.RegionHeld3
import Derived.WalkKit
import Derived.Below
import Derived.OwnWalk
import Derived.Laws.AppendOwn
namespace Go.Proofs.YtclieefpnbdbjaaGreat.Gf
open Go.RowKit
theorem Zr {n : Nat} : n ≤ n := Nat.le_refl n
theorem Zf {b : Nat} {w : World} : Below b w w := Below.refl b w
theorem Zz {n : Nat} : 0 ≤ n := Nat.zero_le n
abbrev Zx := @decide_eq_false
abbrev Zy := @decide_eq_true
abbrev Zu := @Nat.lt_of_lt_of_le
abbrev Zc := @World.cell?_of_block
abbrev Zv := @World.ownsRow.lt
abbrev Zq := @beq_eq_false_iff_ne.{0}
theorem Zo {p : Prop} (h : p := by omega) : p := h
theorem Zs {p : Prop} (h : p := by simp) : p := h
theorem Zd {p : Prop} (h : p := by decide) : p := h
theorem Zk {p : Prop} (h : p := by kernel_rfl) : p := h
theorem Za {p : Prop} (h : p := by assumption) : p := h
theorem Zm {p : Prop} (h : p := by simp; omega) : p := h
theorem Zn {p : Prop} (h : p := by simp <;> omega) : p := h
theorem Zl {p : Prop} (h : p := by unfold maxLen; omega) : p := h
theorem Zg {p : Prop} (h : p := by go_num) : p := h
theorem Zw {p : Prop} (h : p := by rw [IntKind.wrap_i64]; omega) : p := h
end Go.Proofs.YtclieefpnbdbjaaGreat.Gf
