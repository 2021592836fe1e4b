/-
  STRIPES AS LISTS OF SHARDS: what is encoded, updated, added, multiplied. No program's function is named here.
-/
import Derived.Test.YtehphjapahdalaaBkEven
import Derived.Test.YtehphjapahdalaaCaMath
namespace Go.Proofs.Ytehphjapahdalaa.Gf
set_option linter.unusedVariables false
set_option linter.unusedSimpArgs false
open Go.RowKit

/-- a parity byte: the sum of the first j products -/
def wd (F : Mx) (L : List (List UInt8)) (i j n : Nat) : UInt8 := S j (fun l => mu (F i l) (co (ro L l) n))
theorem wd_zero (F : Mx) (L : List (List UInt8)) (i n : Nat) : wd F L i 0 n = 0 := rfl
theorem wd_succ (F : Mx) (L : List (List UInt8)) (i j n : Nat) : wd F L i (j + 1) n = wd F L i j n ^^^ mu (F i j) (co (ro L j) n) := rfl
/-- a parity shard -/
def parR (k : Nat) (F : Mx) (L : List (List UInt8)) (i : Nat) : List UInt8 := upto (wd F L i k) (ro L 0).length
theorem parR_length (k : Nat) (F : Mx) (L : List (List UInt8)) (i : Nat) : (parR k F L i).length = (ro L 0).length := upto_length _ _
/-- all shards of data shards -/
def encL (m k : Nat) (F : Mx) (L : List (List UInt8)) : List (List UInt8) := L ++ mkL m (parR k F L)
theorem encL_length (m k : Nat) (F : Mx) (L : List (List UInt8)) : (encL m k F L).length = L.length + m := by unfold encL; rw [List.length_append, mkL_length]
theorem upto_co (p : List UInt8) : upto (co p) p.length = p := co_ext (upto_length _ _) fun i hi => by rw [upto_length] at hi; exact co_map_range _ hi
theorem co_upto_in {f : Nat → UInt8} {k i : Nat} (h : i < k) : co (upto f k) i = f i := co_map_range f h

end Go.Proofs.Ytehphjapahdalaa.Gf
