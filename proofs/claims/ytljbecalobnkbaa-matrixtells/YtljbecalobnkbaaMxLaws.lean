/-
  PLAIN MATHEMATICS: what the statements of layer 3 ask of matrices as lists. No program's function is named here.
-/
import Derived.Test.YtljbecalobnkbaaMxRd
namespace Go.Proofs.Ytljbecalobnkbaa.Gf
set_option linter.unusedVariables false
set_option linter.unusedSimpArgs false

theorem inv_x {n : Nat} {A : List UInt8} {V : Mx} (h : IsInv n (en n A) V) : flat n n (mm n (en n A) (en n (flat n n V))) = flat n n one :=
  flat_congr fun i j hi hj => by rw [← h.right i j hi hj]; exact mm_congr (fun _ _ => rfl) (fun k hk => en_flat V hk hj)
theorem inv_y {n : Nat} {A : List UInt8} {V : Mx} (h : IsInv n (en n A) V) : flat n n (mm n (en n (flat n n V)) (en n A)) = flat n n one :=
  flat_congr fun i j hi hj => by rw [← h.left i j hi hj]; exact mm_congr (fun k hk => en_flat V hi hk) (fun _ _ => rfl)
theorem inv_flat {n : Nat} {A V : Mx} (h : IsInv n A V) : IsInv n (en n (flat n n V)) A := h.symm.congr (fun i j hi hj => (en_flat V hi hj).symm) (fun _ _ _ _ => rfl)
theorem inv_back {n : Nat} {A : List UInt8} {V W : Mx} (hA : A.length = n * n) (h : IsInv n (en n A) V) (h' : IsInv n (en n (flat n n V)) W) : flat n n W = A := by
  rw [flat_congr (fun i j hi hj => (inv_flat h).unique h' i j hi hj), flat_en hA]
theorem inv_no {n : Nat} {A : List UInt8} {V : Mx} (h : IsInv n (en n A) V) (hs : IsSing n (en n (flat n n V))) : False := (inv_flat h).no_sing hs
theorem okM_flat {r c : Nat} (F : Mx) (hr : r ≤ 256) (hc : c ≤ 256) : OkM r c (flat r c F) := okM_mk hr hc (flat_length _ _ _)
/-- products with the identity -/
theorem one_x {r c : Nat} {A : List UInt8} (hA : A.length = r * c) : flat r c (mm r (en r (flat r r one)) (en c A)) = A := by
  rw [flat_congr (G := en c A) (fun i j hi hj => by rw [mm_congr (A' := one) (B' := en c A) (fun k hk => en_flat one hi hk) (fun _ _ => rfl), one_mm _ _ hi]), flat_en hA]
theorem one_y {r c : Nat} {A : List UInt8} (hA : A.length = r * c) : flat r c (mm c (en c A) (en c (flat c c one))) = A := by
  rw [flat_congr (G := en c A) (fun i j hi hj => by rw [mm_congr (A' := en c A) (B' := one) (fun _ _ => rfl) (fun k hk => en_flat one hk hj), mm_one _ _ hj]), flat_en hA]
theorem one_inv (n : Nat) {V : Mx} (h : IsInv n (en n (flat n n one)) V) : flat n n V = flat n n one :=
  flat_congr fun i j hi hj => ((inv_flat (isInv_one n)).unique h i j hi hj)
theorem one_no (n : Nat) (hs : IsSing n (en n (flat n n one))) : False := (inv_flat (isInv_one n)).no_sing hs
/-- sums, number by number -/
def xorF (B C : List UInt8) (i : Nat) : UInt8 := co B i ^^^ co C i
theorem sum_x {r c d : Nat} (A B C : List UInt8) (hB : B.length = c * d) (hC : C.length = c * d) (i : Nat) (hi : i < r * d) :
    co (flat r d (mm c (en c A) (en d (upto (xorF B C) B.length)))) i = co (flat r d (mm c (en c A) (en d B))) i ^^^ co (flat r d (mm c (en c A) (en d C))) i := by
  have hd : 0 < d := by
    rcases Nat.eq_zero_or_pos d with e | e
    · rw [e, Nat.mul_zero] at hi; omega
    · exact e
  have h1 : i / d < r := (Nat.div_lt_iff_lt_mul hd).2 hi
  have h2 : i % d < d := Nat.mod_lt _ hd
  unfold flat
  simp only [upto, co_map_range _ hi]
  rw [← mm_add]
  refine mm_congr (fun _ _ => rfl) fun k hk => ?_
  show co (upto (xorF B C) B.length) (k * d + i % d) = co B (k * d + i % d) ^^^ co C (k * d + i % d)
  rw [upto, co_map_range _ (by rw [hB]; exact place_lt hk h2)]
  rfl
/-- brackets -/
theorem br_x {r c d e : Nat} (A B C : List UInt8) : flat r e (mm d (en d (flat r d (mm c (en c A) (en d B)))) (en e C)) = flat r e (mm c (en c A) (en e (flat c e (mm d (en d B) (en e C))))) := by
  refine flat_congr fun i j hi hj => ?_
  rw [mm_congr (A' := mm c (en c A) (en d B)) (B' := en e C) (fun k hk => en_flat _ hi hk) (fun _ _ => rfl), mm_assoc]
  exact mm_congr (fun _ _ => rfl) (fun k hk => (en_flat _ hk hj).symm)
theorem br_inv {n : Nat} {A B : List UInt8} {V W Z : Mx} (hV : IsInv n (en n A) V) (hW : IsInv n (en n B) W) (hZ : IsInv n (en n (flat n n (mm n (en n A) (en n B)))) Z) : flat n n Z = flat n n (mm n (en n (flat n n W)) (en n (flat n n V))) := by
  have h1 : IsInv n (en n (flat n n (mm n (en n A) (en n B)))) (mm n W V) := (hV.mul hW).congr (fun i j hi hj => (en_flat _ hi hj).symm) (fun _ _ _ _ => rfl)
  refine flat_congr fun i j hi hj => ?_
  rw [h1.unique hZ i j hi hj]
  exact mm_congr (fun k hk => (en_flat W hi hk).symm) (fun k hk => (en_flat V hk hj).symm)
theorem br_no {n : Nat} {A B : List UInt8} {V W : Mx} (hV : IsInv n (en n A) V) (hW : IsInv n (en n B) W) (hs : IsSing n (en n (flat n n (mm n (en n A) (en n B))))) : False :=
  ((hV.mul hW).congr (fun i j hi hj => (en_flat _ hi hj).symm) (fun _ _ _ _ => rfl) : IsInv n (en n (flat n n (mm n (en n A) (en n B)))) (mm n W V)).no_sing hs
/-- rows that are picked -/
theorem pick_mul {r c : Nat} {A : List UInt8} {zs : List Int} (hz : AllIn r zs) : flat zs.length c (pickF c A zs) = flat zs.length c (mm r (en r (flat zs.length r (pickF r (flat r r one) zs))) (en c A)) := by
  refine flat_congr fun i j hi hj => ?_
  obtain ⟨h1, h2⟩ := hz i hi
  have hlt : (zs.getD i 0).toNat < r := by omega
  rw [mm_congr (A' := fun i k => one (zs.getD i 0).toNat k) (B' := en c A) (fun k hk => by rw [en_flat _ hi hk]; exact en_flat one hlt hk) (fun _ _ => rfl)]
  exact (one_mm (en c A) (i := (zs.getD i 0).toNat) j hlt).symm
theorem pick_twice {n : Nat} {A : List UInt8} {zs : List Int} {V : Mx} (hl : zs.length = n) {k l : Nat} (hk : k < n) (hlk : l < k) (he : zs.getD k 0 = zs.getD l 0) (h : IsInv n (en n (flat n n (pickF n A zs))) V) : False :=
  h.rows_apart (i := k) (j := l) hk (by omega) (by omega) fun j hj => by
    rw [en_flat _ hk hj, en_flat _ (by omega) hj]
    show en n A (zs.getD k 0).toNat j = en n A (zs.getD l 0).toNat j
    rw [he]

end Go.Proofs.Ytljbecalobnkbaa.Gf
