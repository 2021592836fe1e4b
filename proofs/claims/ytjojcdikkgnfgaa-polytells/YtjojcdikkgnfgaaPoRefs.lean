/-
  THE DOCUMENT's ANSWER FOR LAYER 2 (package aumbryref02) BY CONTRACT, in the words of the statements' walks.
-/
import Derived.Test.YtjojcdikkgnfgaaPoApi
import Derived.Test.YtjojcdikkgnfgaaPoRAdd
import Derived.Test.YtjojcdikkgnfgaaPoRMulAll
import Derived.Test.YtjojcdikkgnfgaaPoRDeriv
import Derived.Test.YtjojcdikkgnfgaaPoRDivAll
namespace Go.Proofs.Ytjojcdikkgnfgaa.Gf
set_option linter.unusedVariables false
set_option linter.unusedSimpArgs false
open Go.RowKit

theorem makes_of {w : World} {base u : Nat} {p : List UInt8} {e : Ending} {w' : World} (h : ∃ v, e = .returned v ∧ w'.ownsRow base u 1 v p.length (p.map vb) ∧ Below w.heap.size w w') : Makes w p e w' := by
  obtain ⟨v, he, ho, hb⟩ := h
  exact ⟨v, he, Rd.owned ho, hb⟩
theorem rnorm2 {v : Value} {p : List UInt8} {w : World} (hp : Rd w v p) (hl : p.length ≤ 400000) : Calls Try.prog 14 #[v] w (Makes w (norm p)) :=
  (rnorm_any hp (by omega)).mono fun e w' h => makes_of h
theorem radd2 {va vq : Value} {p q : List UInt8} {w : World} (hp : Rd w va p) (hq : Rd w vq q) (hl : p.length ≤ 400000) (hl2 : q.length ≤ 400000) : Calls Try.prog 16 #[va, vq] w (Makes w (addP p q)) :=
  (radd_any hp hq (by omega) (by omega)).mono fun e w' h => makes_of h
theorem rpmul2 {va vq : Value} {p q : List UInt8} {w : World} (hp : Rd w va p) (hq : Rd w vq q) (hl : p.length ≤ 400000) (hl2 : q.length ≤ 400000) : Calls Try.prog 18 #[va, vq] w (Makes w (mulP p q)) :=
  (rpmul_any hp hq hl hl2).mono fun e w' h => makes_of h
theorem rderiv2 {v : Value} {p : List UInt8} {w : World} (hp : Rd w v p) (hl : p.length ≤ 400000) : Calls Try.prog 20 #[v] w (Makes w (derP p)) :=
  (rderiv_any hp (by omega)).mono fun e w' h => makes_of h

end Go.Proofs.Ytjojcdikkgnfgaa.Gf
