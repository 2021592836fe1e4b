/-
  THE PROGRAM's 'Update' BY ONE CONTRACT.
-/
import Derived.Test.YtehphjapahdalaaBkUpd
import Derived.Test.YtehphjapahdalaaBkUy
namespace Go.Proofs.Ytehphjapahdalaa.Gf
set_option linter.unusedVariables false
set_option linter.unusedSimpArgs false
open Go.RowKit

theorem upd_any {b : Nat} {k m j : Int} {vp vq v : Value} {p q : List UInt8} {A : List (List UInt8)} {w : World} (hF : FieldAt w b) (hp : Rd w vp p) (hq : Rd w vq q) (h : Rs w v A) (hS : Small A) (hSp : p.length ≤ 300) :
    Calls Try.prog 17 #[.pointer (some ⟨b, 0, none⟩), .int .i64 k, .int .i64 m, .int .i64 j, vp, vq, v] w (MakesRs w (updX k m j p q A) (updY k m j p q A)) := by
  have A0 : ∀ x y : Value, Below w.heap.size w (w.alloc (.cells #[x, y] 35)) := fun x y => (Below.refl _ _).alloc (Nat.le_refl _) _
  by_cases c : OkC k m
  · by_cases d : OkU k m j p q A
    · rw [(updX_ok c d).1, (updX_ok c d).2]
      obtain ⟨k, m, rfl, rfl, h1, h2⟩ := c.nat
      obtain ⟨d1, d2, d3, d4⟩ := d
      obtain ⟨j, rfl⟩ := Int.eq_ofNat_of_zero_le d3
      exact upd_ok hF h1 h2 (by omega) hp hq h ⟨d1, d2⟩ hS hSp rfl rfl rfl
    · rw [(updX_shard c d).1, (updX_shard c d).2]
      obtain ⟨k, m, rfl, rfl, h1, h2⟩ := c.nat
      by_cases d2 : (A.length : Int) = m ∧ Even (A ++ [p, q])
      · have h3 : ¬ (0 ≤ j ∧ j < k) := fun e => d ⟨d2.1, d2.2, e⟩
        obtain ⟨a1, c1, rfl⟩ := hp.form
        obtain ⟨a2, c2, rfl⟩ := hq.form
        exact upd_errj h3 (chkd_ok (hF.below (A0 _ _)) h1 h2 (h.below (A0 _ _)) (rs_lit2 rfl hp hq) d2 rfl rfl)
      · obtain ⟨a1, c1, rfl⟩ := hp.form
        obtain ⟨a2, c2, rfl⟩ := hq.form
        exact upd_err (by decide) (chkd_shard (hF.below (A0 _ _)) h1 h2 (h.below (A0 _ _)) (rs_lit2 rfl hp hq) d2 rfl rfl)
  · rw [(updX_bad c).1, (updX_bad c).2]
    obtain ⟨a1, c1, rfl⟩ := hp.form
    obtain ⟨a2, c2, rfl⟩ := hq.form
    exact upd_err (by decide) (chkd_bad (hF.below (A0 _ _)) c)

end Go.Proofs.Ytehphjapahdalaa.Gf
