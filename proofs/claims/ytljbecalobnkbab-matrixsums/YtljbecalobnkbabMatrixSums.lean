/- PROVED: for all matrices a, b, c (whatever their rows and columns say) the call MatrixSums(a, b, c) returns true, and its arguments read behind it as before; no conditions. -/
import Derived.Test.YtljbecalobnkbabRows
import Derived.Test.YtljbecalobnkbabMxAwake
import Derived.Test.YtljbecalobnkbabMxSmall
import Derived.Test.YtljbecalobnkbabMxLaws
import Derived.Test.YtljbecalobnkbabMxStep
import Derived.WalkKit
import Derived.ProofKit
import Derived.OpenShut
import Derived.ShutString
import Derived.ChangeOld
import Derived.Below
import Derived.Lib.SmallJoins
namespace Go.Proofs.Ytljbecalobnkbab.matrixSums
open Go.ChangeShapes Go.WideShapes Go.ChangeAt Go.RowKit
open Go.ChangeMaps (open_string shut_string)
set_option linter.unusedVariables false

theorem own : ownKnob Try.prog.godebug = none := by kernel_rfl
theorem laidOut : laidOutB Try.prog = true := by kernel_rfl

/-- WHAT THE WALK IS TOLD OF A SLICE OF INTEGERS THAT CAME IN: it is nil; or it leads to a row of 'cap' cells, the numbers 'zs' (the first 'len' are its elements, the rest its spare room), each fitting its kind. -/
def IsRow (k : IntKind) (w : World) (a : Option Addr) (len cap : Nat) (zs : List Int) : Prop :=
  (a = none ∧ len = 0 ∧ cap = 0 ∧ zs = []) ∨
  ∃ x, a = some x ∧ len ≤ cap ∧ cap ≤ maxLen ∧ zs.length = cap ∧ (∀ i, i < zs.length → w.cell? (x.add i) = some (.int k (zs.getD i 0))) ∧ ∀ n ∈ zs, (Lit.int k n).wf = true

open Gf
set_option linter.unusedSimpArgs false
theorem okM_len {r c : Int} {A B : List UInt8} (h : A.length = B.length) (k : OkM r c A) : OkM r c B := ⟨k.1, k.2.1, k.2.2.1, k.2.2.2.1, by rw [← h]; exact k.2.2.2.2⟩

set_option maxRecDepth 100000 in
set_option maxHeartbeats 2000000 in
theorem walk (mr0 mc0 : Int) (a0 : Option Addr) (len0 cap0 : Nat) (z0 : List Int) (mr1 mc1 : Int) (a1 : Option Addr) (len1 cap1 : Nat) (z1 : List Int) (mr2 mc2 : Int) (a2 : Option Addr) (len2 cap2 : Nat) (z2 : List Int) (w : World) (wr0 : (Lit.int .i64 mr0).wf = true) (wc0 : (Lit.int .i64 mc0).wf = true) (w0 : IsRow .u8 w a0 len0 cap0 z0) (wr1 : (Lit.int .i64 mr1).wf = true) (wc1 : (Lit.int .i64 mc1).wf = true) (w1 : IsRow .u8 w a1 len1 cap1 z1) (wr2 : (Lit.int .i64 mr2).wf = true) (wc2 : (Lit.int .i64 mc2).wf = true) (w2 : IsRow .u8 w a2 len2 cap2 z2) :
    Calls Try.prog 4 #[.agg #[.int .i64 mr0, .int .i64 mc0, .slice a0 len0 cap0], .agg #[.int .i64 mr1, .int .i64 mc1, .slice a1 len1 cap1], .agg #[.int .i64 mr2, .int .i64 mc2, .slice a2 len2 cap2]] w fun e w' => e = .returned (.bool true) ∧ Below w.heap.size w w' := by
  obtain ⟨La, rfl, Ra⟩ := rd_row w0
  obtain ⟨Lb, rfl, Rb⟩ := rd_row w1
  obtain ⟨Lc, rfl, Rc⟩ := rd_row w2
  by_cases hsa : SmallM mr0 mc0 La
  · by_cases hsb : SmallM mr1 mc1 Lb
    · by_cases hsc : SmallM mr2 mc2 Lc
      · by_cases h1 : mr1 = mr2
        · by_cases h2 : mc1 = mc2
          · by_cases h3 : Lb.length = Lc.length
            · subst h1
              subst h2
              have HL : Hid (Lb.length = Lc.length) := h3
              have h4 : ((Lb.length : Int) != (Lc.length : Int)) = false := by simp [h3]
              clear h3
              go_enter Try.func4, Try.ntmps4
              have B : Below w.heap.size w w := Below.refl _ _
              go_wp2_with fail
              refine (awake3_any _).mono ?_
              rintro e u1 ⟨rfl, b⟩
              have D : Below w.heap.size w u1 := Below.next (by repeat (first | exact Below.refl _ _ | apply Below.draws | apply below_lit)) b
              have sD := D.size
              replace Ra := Ra.below D
              replace Rb := Rb.below D
              replace Rc := Rc.below D
              have Xa : Box u1 (w.heap.size) _ _ _ := Below.box b (by simp <;> omega) (by first | exact Box.new _ _ _ _ _ | exact (Box.new _ _ _ _ _).alloc (by simp) _ | exact ((Box.new _ _ _ _ _).alloc (by simp) _).alloc (by simp <;> omega) _ | exact Box.new1 _ _ _ _ _ _ | exact (Box.new1 _ _ _ _ _ _).alloc (by simp <;> omega) _ | exact Box.new2 _ _ _ _ _ _ _)
              have la : w.heap.size < u1.heap.size := by have := b.size; simp at this; omega
              have Xb : Box u1 (w.heap.size + 1) _ _ _ := Below.box b (by simp <;> omega) (by first | exact Box.new _ _ _ _ _ | exact (Box.new _ _ _ _ _).alloc (by simp) _ | exact ((Box.new _ _ _ _ _).alloc (by simp) _).alloc (by simp <;> omega) _ | exact Box.new1 _ _ _ _ _ _ | exact (Box.new1 _ _ _ _ _ _).alloc (by simp <;> omega) _ | exact Box.new2 _ _ _ _ _ _ _)
              have lb : w.heap.size + 1 < u1.heap.size := by have := b.size; simp at this; omega
              have Xc : Box u1 (w.heap.size + 1 + 1) _ _ _ := Below.box b (by simp <;> omega) (by first | exact Box.new _ _ _ _ _ | exact (Box.new _ _ _ _ _).alloc (by simp) _ | exact ((Box.new _ _ _ _ _).alloc (by simp) _).alloc (by simp <;> omega) _ | exact Box.new1 _ _ _ _ _ _ | exact (Box.new1 _ _ _ _ _ _).alloc (by simp <;> omega) _ | exact Box.new2 _ _ _ _ _ _ _)
              have lc : w.heap.size + 1 + 1 < u1.heap.size := by have := b.size; simp at this; omega
              replace B := Below.next B D
              clear b D sD
              have xa0 := Xa.c0
              have xa1 := Xa.c1
              have xa2 := Xa.c2
              have xb0 := Xb.c0
              have xb1 := Xb.c1
              have xb2 := Xb.c2
              have xc0 := Xc.c0
              have xc1 := Xc.c1
              have xc2 := Xc.c2
              go_wp2_with fail
              refine (new_any _).mono ?_
              rintro e u2 ⟨rfl, F, hO⟩
              have b := hO.below
              clear hO
              clear xa0 xa1 xa2 xb0 xb1 xb2 xc0 xc1 xc2
              have D : Below (World.heap u1 |>.size) u1 u2 := Below.next (by repeat (first | exact Below.refl _ _ | apply Below.draws | apply below_lit)) b
              have sD := D.size
              replace Ra := Ra.below D
              replace Rb := Rb.below D
              replace Rc := Rc.below D
              replace Xa := Xa.below la D
              replace la := Nat.lt_of_lt_of_le la sD
              replace Xb := Xb.below lb D
              replace lb := Nat.lt_of_lt_of_le lb sD
              replace Xc := Xc.below lc D
              replace lc := Nat.lt_of_lt_of_le lc sD
              replace B := Below.next B D
              clear b D sD
              have xa0 := Xa.c0
              have xa1 := Xa.c1
              have xa2 := Xa.c2
              have xb0 := Xb.c0
              have xb1 := Xb.c1
              have xb2 := Xb.c2
              have xc0 := Xc.c0
              have xc1 := Xc.c1
              have xc2 := Xc.c2
              go_wp2_with fail
              refine (small_yes ⟨_, rfl, (Ra.below (by repeat (first | exact Below.refl _ _ | apply Below.draws | apply below_lit)))⟩ hsa).mono ?_
              rintro e u3 ⟨rfl, b⟩
              clear xa0 xa1 xa2 xb0 xb1 xb2 xc0 xc1 xc2
              have D : Below (World.heap u2 |>.size) u2 u3 := Below.next (by repeat (first | exact Below.refl _ _ | apply Below.draws | apply below_lit)) b
              have sD := D.size
              replace Ra := Ra.below D
              replace Rb := Rb.below D
              replace Rc := Rc.below D
              replace F := F.below D
              replace Xa := Xa.below la D
              replace la := Nat.lt_of_lt_of_le la sD
              replace Xb := Xb.below lb D
              replace lb := Nat.lt_of_lt_of_le lb sD
              replace Xc := Xc.below lc D
              replace lc := Nat.lt_of_lt_of_le lc sD
              replace B := Below.next B D
              clear b D sD
              have xa0 := Xa.c0
              have xa1 := Xa.c1
              have xa2 := Xa.c2
              have xb0 := Xb.c0
              have xb1 := Xb.c1
              have xb2 := Xb.c2
              have xc0 := Xc.c0
              have xc1 := Xc.c1
              have xc2 := Xc.c2
              go_wp2_with fail
              refine (small_yes ⟨_, rfl, (Rb.below (by repeat (first | exact Below.refl _ _ | apply Below.draws | apply below_lit)))⟩ hsb).mono ?_
              rintro e u4 ⟨rfl, b⟩
              clear xa0 xa1 xa2 xb0 xb1 xb2 xc0 xc1 xc2
              have D : Below (World.heap u3 |>.size) u3 u4 := Below.next (by repeat (first | exact Below.refl _ _ | apply Below.draws | apply below_lit)) b
              have sD := D.size
              replace Ra := Ra.below D
              replace Rb := Rb.below D
              replace Rc := Rc.below D
              replace F := F.below D
              replace Xa := Xa.below la D
              replace la := Nat.lt_of_lt_of_le la sD
              replace Xb := Xb.below lb D
              replace lb := Nat.lt_of_lt_of_le lb sD
              replace Xc := Xc.below lc D
              replace lc := Nat.lt_of_lt_of_le lc sD
              replace B := Below.next B D
              clear b D sD
              have xa0 := Xa.c0
              have xa1 := Xa.c1
              have xa2 := Xa.c2
              have xb0 := Xb.c0
              have xb1 := Xb.c1
              have xb2 := Xb.c2
              have xc0 := Xc.c0
              have xc1 := Xc.c1
              have xc2 := Xc.c2
              go_wp2_with fail
              refine (small_yes ⟨_, rfl, (Rc.below (by repeat (first | exact Below.refl _ _ | apply Below.draws | apply below_lit)))⟩ hsc).mono ?_
              rintro e u5 ⟨rfl, b⟩
              clear xa0 xa1 xa2 xb0 xb1 xb2 xc0 xc1 xc2
              have D : Below (World.heap u4 |>.size) u4 u5 := Below.next (by repeat (first | exact Below.refl _ _ | apply Below.draws | apply below_lit)) b
              have sD := D.size
              replace Ra := Ra.below D
              replace Rb := Rb.below D
              replace Rc := Rc.below D
              replace F := F.below D
              replace Xa := Xa.below la D
              replace la := Nat.lt_of_lt_of_le la sD
              replace Xb := Xb.below lb D
              replace lb := Nat.lt_of_lt_of_le lb sD
              replace Xc := Xc.below lc D
              replace lc := Nat.lt_of_lt_of_le lc sD
              replace B := Below.next B D
              clear b D sD
              have xa0 := Xa.c0
              have xa1 := Xa.c1
              have xa2 := Xa.c2
              have xb0 := Xb.c0
              have xb1 := Xb.c1
              have xb2 := Xb.c2
              have xc0 := Xc.c0
              have xc1 := Xc.c1
              have xc2 := Xc.c2
              obtain ⟨i0, hi, hz0, hz1, hz2⟩ := info_parts info_u8
              go_wp2
              go_loopw [10] (fun i wr => ∃ (k : Nat) (v : Value), k ≤ Lb.length ∧ i = .int .i64 k ∧ Box wr (World.heap u5 |>.size) mr1 mc1 v ∧ Free wr (World.heap u5 |>.size) ∧ wr.ownsRow ((World.heap u5 |>.size) + 1) 5 1 v k ((upto (xorF Lb Lc) k).map vb) ∧ (World.heap u5 |>.size) + 1 ≤ wr.heap.size ∧ Below (World.heap u5 |>.size) u5 wr) (fun i _ => Lb.length - (intOf i).toNat)
              case atStart => exact ⟨0, .slice none 0 0, by omega, rfl, Box.new _ _ _ _ _, Free.new _ _ _, World.ownsRow_nil _ _ _ _, by simp, (Below.refl _ _).alloc (Nat.le_refl _) _⟩
              case round =>
                obtain ⟨k, v, hk, rfl, YS, GS, hown, hsz, BB⟩ := hrel
                clear xa0 xa1 xa2 xb0 xb1 xb2 xc0 xc1 xc2
                have xb2 := (Xb.below lb BB).c2
                have xc2 := (Xc.below lc BB).c2
                by_cases hlt : k < Lb.length
                · have hltc : k < Lc.length := by have := HL.out; omega
                  rcases Rb with ⟨_, _, e1, _⟩ | ⟨bb, ob, cb, hb0, eb, hb1, hb2, hb3, hbc⟩
                  · subst e1; simp at hlt
                  rcases Rc with ⟨_, _, e1, _⟩ | ⟨bc, oc, cc, hc0, ec, hc1, hc2, hc3, hcc⟩
                  · subst e1; simp at hltc
                  simp at eb ec
                  obtain ⟨rfl, rfl⟩ := eb
                  obtain ⟨rfl, rfl⟩ := ec
                  have c1 := (BB.cell (p := ⟨bb, ob + k, none⟩) hb3).trans (hbc k hlt)
                  have c2 := (BB.cell (p := ⟨bc, oc + k, none⟩) hc3).trans (hcc k hltc)
                  have ys2 := YS.c2
                  have gs2 := GS.f2
                  have sU := BB.size
                  have hb300 : Lb.length ≤ 300 := hsb.1
                  have hl1 : (k : Int) < (Lb.length : Int) := by omega
                  have hl2 : (k : Int) < (Lc.length : Int) := by omega
                  have E := xor_u8 (co Lb k) (co Lc k)
                  have HS : Hid _ := upto_vb_succ (xorF Lb Lc) k
                  have hn0 : v.ownBlock ≠ some (World.heap u5 |>.size) := fun h => by have := hown.lt _ h; omega
                  have hn1 : v.ownBlock ≠ some (w.heap.size + 1) := fun h => by have := hown.lt _ h; omega
                  have hn2 : v.ownBlock ≠ some (w.heap.size + 1 + 1) := fun h => by have := hown.lt _ h; omega
                  have hn3 : v.ownBlock ≠ some bb := fun h => by have := hown.lt _ h; omega
                  have hn4 : v.ownBlock ≠ some bc := fun h => by have := hown.lt _ h; omega
                  have d1 : (World.heap u5 |>.size) ≠ w.heap.size + 1 := by omega
                  have d2 : (World.heap u5 |>.size) ≠ w.heap.size + 1 + 1 := by omega
                  have d3 : (World.heap u5 |>.size) ≠ bb := by omega
                  have d4 : (World.heap u5 |>.size) ≠ bc := by omega
                  have hlU : (World.heap u5 |>.size) < wr.heap.size := by omega
                  have hlit : Rd (World.drew (World.alloc wr (.cells #[.int .u8 (((co Lb k).toNat ^^^ (co Lc k).toNat : Nat) : Int)] 5))) (.slice (some ⟨wr.heap.size, 0, none⟩) 1 1) [xorF Lb Lc k] := rd_lit (w := wr) (e := 5) (cs := #[.int .u8 (((co Lb k).toNat ^^^ (co Lc k).toNat : Nat) : Int)]) [xorF Lb Lc k] rfl (by simp [vb, xorF]) (by omega)
                  have YS2 := (YS.alloc hlU (.cells #[.int .u8 (((co Lb k).toNat ^^^ (co Lc k).toNat : Nat) : Int)] 5)).drew
                  have GS2 := (GS.alloc hlU (.cells #[.int .u8 (((co Lb k).toNat ^^^ (co Lc k).toNat : Nat) : Int)] 5)).drew
                  clear hbc hcc
                  go_wp2_with fail
                  refine wp_region_held_drew (S := (fun w' => w'.cell? ⟨w.heap.size + 1, 2, none⟩ = some (.slice (some ⟨bb, ob, none⟩) Lb.length cap1) ∧ w'.cell? ⟨bb, ob + k, none⟩ = some (.int .u8 ((co Lb k).toNat : Nat)) ∧ w'.cell? ⟨w.heap.size + 1 + 1, 2, none⟩ = some (.slice (some ⟨bc, oc, none⟩) Lc.length cap2) ∧ w'.cell? ⟨bc, oc + k, none⟩ = some (.int .u8 ((co Lc k).toNat : Nat)))) (by kernel_rfl) ?_ (fun hHeld => ?_)
                  · exact ⟨xb2, c1, xc2, c2⟩
                  refine wpAnyH_take (i := 0) (v := ?_) rfl (by kernel_rfl) (by kernel_rfl) (by kernel_rfl) (fun _ _ _ h => h) (Or.inl ⟨by rfl, ?_⟩) (by assumption) ?_
                  rotate_left
                  · intro w hSw; (try dsimp only at hSw); go_simp; try with_reducible rfl
                  try simp only [Act.put, List.setIfInBounds_toArray, List.set_cons_zero, List.set_cons_succ]
                  refine wpAnyH_take (i := 2) (v := ?_) rfl (by kernel_rfl) (by kernel_rfl) (by kernel_rfl) (fun _ _ _ h => h) (Or.inl ⟨by rfl, ?_⟩) (by assumption) ?_
                  rotate_left
                  · intro w hSw; (try dsimp only at hSw); go_simp; try with_reducible rfl
                  try simp only [Act.put, List.setIfInBounds_toArray, List.set_cons_zero, List.set_cons_succ]
                  refine wpAnyH_take (i := 3) (v := ?_) rfl (by kernel_rfl) (by kernel_rfl) (by kernel_rfl) (fun _ _ _ h => h) (Or.inl ⟨by rfl, ?_⟩) (by assumption) ?_
                  rotate_left
                  · intro w hSw; (try dsimp only at hSw); go_simp; try with_reducible rfl
                  try simp only [Act.put, List.setIfInBounds_toArray, List.set_cons_zero, List.set_cons_succ]
                  refine wpAnyH_take (i := 4) (v := ?_) rfl (by kernel_rfl) (by kernel_rfl) (by kernel_rfl) (fun _ _ _ h => h) (Or.inl ⟨by rfl, ?_⟩) (by assumption) ?_
                  rotate_left
                  · intro w hSw; (try dsimp only at hSw); go_simp; try with_reducible rfl
                  try simp only [Act.put, List.setIfInBounds_toArray, List.set_cons_zero, List.set_cons_succ]
                  refine wpAnyH_take (i := 5) (v := ?_) rfl (by kernel_rfl) (by kernel_rfl) (by kernel_rfl) (fun _ _ _ h => h) (Or.inl ⟨by rfl, ?_⟩) (by assumption) ?_
                  rotate_left
                  · intro w hSw; (try dsimp only at hSw); go_simp; try with_reducible rfl
                  try simp only [Act.put, List.setIfInBounds_toArray, List.set_cons_zero, List.set_cons_succ]
                  refine wpAnyH_take (i := 6) (v := ?_) rfl (by kernel_rfl) (by kernel_rfl) (by kernel_rfl) (fun _ _ _ h => h) (Or.inl ⟨by rfl, ?_⟩) (by assumption) ?_
                  rotate_left
                  · intro w hSw; (try dsimp only at hSw); go_simp; try with_reducible rfl
                  try simp only [Act.put, List.setIfInBounds_toArray, List.set_cons_zero, List.set_cons_succ]
                  refine wpAnyH_take (i := 7) (v := ?_) rfl (by kernel_rfl) (by kernel_rfl) (by kernel_rfl) (fun _ _ _ h => h) (Or.inl ⟨by rfl, ?_⟩) (by assumption) ?_
                  rotate_left
                  · intro w hSw; (try dsimp only at hSw); go_simp; try with_reducible rfl
                  try simp only [Act.put, List.setIfInBounds_toArray, List.set_cons_zero, List.set_cons_succ]
                  refine wpAnyH_take (i := 8) (v := ?_) rfl (by kernel_rfl) (by kernel_rfl) (by kernel_rfl) (fun _ _ _ h => h) (Or.inl ⟨by rfl, ?_⟩) (by assumption) ?_
                  rotate_left
                  · intro w hSw; (try dsimp only at hSw); go_simp; try with_reducible rfl
                  try simp only [Act.put, List.setIfInBounds_toArray, List.set_cons_zero, List.set_cons_succ]
                  refine wpAnyH_take (i := 9) (v := ?_) rfl (by kernel_rfl) (by kernel_rfl) (by kernel_rfl) (fun _ _ _ h => h) (Or.inl ⟨by rfl, ?_⟩) (by assumption) ?_
                  rotate_left
                  · intro w hSw; (try dsimp only at hSw); go_simp; try with_reducible rfl
                  try simp only [Act.put, List.setIfInBounds_toArray, List.set_cons_zero, List.set_cons_succ]
                  refine wpAnyH_take (i := 10) (v := ?_) rfl (by kernel_rfl) (by kernel_rfl) (by kernel_rfl) (fun _ _ _ h => h) (Or.inl ⟨by rfl, ?_⟩) (by assumption) ?_
                  rotate_left
                  · intro w hSw; (try dsimp only at hSw); go_simp; try with_reducible rfl
                  try simp only [Act.put, List.setIfInBounds_toArray, List.set_cons_zero, List.set_cons_succ]
                  refine wpAnyH_take (i := 11) (v := ?_) rfl (by kernel_rfl) (by kernel_rfl) (by kernel_rfl) (fun _ _ _ h => h) (Or.inl ⟨by rfl, ?_⟩) (by assumption) ?_
                  rotate_left
                  · intro w hSw; (try dsimp only at hSw); go_simp; try with_reducible rfl
                  try simp only [Act.put, List.setIfInBounds_toArray, List.set_cons_zero, List.set_cons_succ]
                  refine wpAnyH_take (i := 12) (v := ?_) rfl (by kernel_rfl) (by kernel_rfl) (by kernel_rfl) (fun _ _ _ h => h) (Or.inl ⟨by rfl, ?_⟩) (by assumption) ?_
                  rotate_left
                  · intro w hSw; (try dsimp only at hSw); go_simp; try with_reducible rfl
                  try simp only [Act.put, List.setIfInBounds_toArray, List.set_cons_zero, List.set_cons_succ]
                  refine wpAnyH_ready (rs := [1, 13]) (by kernel_rfl) (by simp) ?_
                  refine AllReadyH.cons rfl (fun K hK => ?_) (AllReadyH.cons rfl (fun K hK => ?_) AllReadyH.nil)
                  · go_simp
                    refine hK.out _ _ ?_ (fun hHeld => ?_)
                    · assumption
                    clear hK K
                    try simp only [Act.put, List.setIfInBounds_toArray, List.set_cons_zero, List.set_cons_succ]
                    refine wpAnyH_ready (rs := [13]) (by kernel_rfl) (by simp) ?_
                    refine AllReadyH.cons rfl (fun K hK => ?_) AllReadyH.nil
                    go_simp
                    refine hK.out _ _ ?_ (fun hHeld => ?_)
                    · go_keep
                    clear hK K
                    try simp only [Act.put, List.setIfInBounds_toArray, List.set_cons_zero, List.set_cons_succ]
                    refine wpAnyH_ready (rs := [14]) (by kernel_rfl) (by simp) ?_
                    refine AllReadyH.cons rfl (fun K hK => ?_) AllReadyH.nil
                    refine step_append_rd (by rfl) _ _ _ (by rfl) ((World.heap u5 |>.size) + 1) 5 i0 Try.underlying22 hi hz0 hz1 hz2 v k _ (by rfl) (World.ownsRow.drew (hown.alloc _)) _ [xorF Lb Lc k] (by rfl) hlit (by simp; omega) (by simp; omega) ?_
                    intro v' w5 hown5 hgrow5
                    simp only [List.length_cons, List.length_nil, Nat.zero_add] at hown5
                    obtain ⟨a5, c5, rfl⟩ := owns_form hown5
                    have YS5 := YS2.grown hgrow5 (by simp; omega) (Ne.symm hn0)
                    have GS5 := GS2.grown hgrow5 (by simp; omega) (Ne.symm hn0)
                    have ys5 := YS5.c2
                    have gs5 := GS5.f2
                    refine hK.out _ _ ?_ (fun hHeld => ?_)
                    · exact ⟨(hgrow5.cell_far ⟨w.heap.size + 1, 2, none⟩ (by simp; omega) (Ne.symm hn1)).trans hHeld.1, (hgrow5.cell_far ⟨bb, ob + k, none⟩ (by simp; omega) (Ne.symm hn3)).trans hHeld.2.1, (hgrow5.cell_far ⟨w.heap.size + 1 + 1, 2, none⟩ (by simp; omega) (Ne.symm hn2)).trans hHeld.2.2.1, (hgrow5.cell_far ⟨bc, oc + k, none⟩ (by simp; omega) (Ne.symm hn4)).trans hHeld.2.2.2⟩
                    clear hK K
                    try simp only [Act.put, List.setIfInBounds_toArray, List.set_cons_zero, List.set_cons_succ]
                    refine wpAnyH_take (i := 15) (v := ?_) rfl (by kernel_rfl) (by kernel_rfl) (by kernel_rfl) (fun _ _ _ h => h) (Or.inl ⟨by rfl, ?_⟩) (by assumption) ?_
                    rotate_left
                    · intro w hSw; (try dsimp only at hSw); go_simp; try with_reducible rfl
                    try simp only [Act.put, List.setIfInBounds_toArray, List.set_cons_zero, List.set_cons_succ]
                    refine wpAnyH_ready (rs := [16]) (by kernel_rfl) (by simp) ?_
                    refine AllReadyH.cons rfl (fun K hK => ?_) AllReadyH.nil
                    go_simp
                    refine hK.out _ _ ?_ (fun hHeld => ?_)
                    · exact ⟨(World.cell?_setCell_far _ _ _ _ d1).trans hHeld.1, (World.cell?_setCell_far _ _ _ _ d3).trans hHeld.2.1, (World.cell?_setCell_far _ _ _ _ d2).trans hHeld.2.2.1, (World.cell?_setCell_far _ _ _ _ d4).trans hHeld.2.2.2⟩
                    clear hK K
                    try simp only [Act.put, List.setIfInBounds_toArray, List.set_cons_zero, List.set_cons_succ]
                    refine wpAnyH_done (by kernel_rfl) ?_ _
                    have O6 : Only (World.heap u5 |>.size) w5 (w5.setCell ⟨(World.heap u5 |>.size), 2, none⟩ (.slice a5 (k + 1) c5)) := (Only.refl _ _).setCell 2 _
                    have BW : Below (World.heap u5 |>.size) u5 w5 := ((BB.alloc sU (.cells #[.int .u8 (((co Lb k).toNat ^^^ (co Lc k).toNat : Nat) : Int)] 5)).drew).grown hgrow5 (by simp; omega) (fun g hg => by have := hown.lt g hg; omega)
                    have l5 : wr.heap.size ≤ w5.heap.size := by have := ((Below.refl 0 _).grown hgrow5 (Nat.zero_le _) (fun k h => Nat.zero_le _)).size; simp at this; omega
                    have N1 : Hid _ := YS5.set2 (.slice a5 (k + 1) c5)
                    have N2 : Hid _ := GS5.setCell ⟨(World.heap u5 |>.size), 2, none⟩ (.slice a5 (k + 1) c5)
                    have N3 : Hid _ := ownsRow_setCell_below hown5 (a := ⟨(World.heap u5 |>.size), 2, none⟩) (show (World.heap u5 |>.size) < (World.heap u5 |>.size) + 1 by omega) (.slice a5 (k + 1) c5)
                    have N4 : Hid _ := BW.trans (O6.below (Nat.le_refl _))
                    have N5 : Hid ((World.heap u5 |>.size) + 1 ≤ (w5.setCell ⟨(World.heap u5 |>.size), 2, none⟩ (.slice a5 (k + 1) c5)).heap.size) := by show _ ≤ _; rw [O6.size]; omega
                    clear hHeld hown5 hgrow5 hown YS GS YS2 GS2 YS5 GS5 BB BW ys5 gs5 hlit O6
                    go_wp2
                    go_roundw
                    case rel => exact ⟨k + 1, _, by omega, by go_num, N1.out, N2.out, by rw [HS.out]; exact N3.out, N5.out, N4.out⟩
                    case measure => simp [intOf]; omega
                  · go_simp
                    refine hK.out _ _ ?_ (fun hHeld => ?_)
                    · go_keep
                    clear hK K
                    try simp only [Act.put, List.setIfInBounds_toArray, List.set_cons_zero, List.set_cons_succ]
                    refine wpAnyH_ready (rs := [1]) (by kernel_rfl) (by simp) ?_
                    refine AllReadyH.cons rfl (fun K hK => ?_) AllReadyH.nil
                    go_simp
                    refine hK.out _ _ ?_ (fun hHeld => ?_)
                    · assumption
                    clear hK K
                    try simp only [Act.put, List.setIfInBounds_toArray, List.set_cons_zero, List.set_cons_succ]
                    refine wpAnyH_ready (rs := [14]) (by kernel_rfl) (by simp) ?_
                    refine AllReadyH.cons rfl (fun K hK => ?_) AllReadyH.nil
                    refine step_append_rd (by rfl) _ _ _ (by rfl) ((World.heap u5 |>.size) + 1) 5 i0 Try.underlying22 hi hz0 hz1 hz2 v k _ (by rfl) (World.ownsRow.drew (hown.alloc _)) _ [xorF Lb Lc k] (by rfl) hlit (by simp; omega) (by simp; omega) ?_
                    intro v' w5 hown5 hgrow5
                    simp only [List.length_cons, List.length_nil, Nat.zero_add] at hown5
                    obtain ⟨a5, c5, rfl⟩ := owns_form hown5
                    have YS5 := YS2.grown hgrow5 (by simp; omega) (Ne.symm hn0)
                    have GS5 := GS2.grown hgrow5 (by simp; omega) (Ne.symm hn0)
                    have ys5 := YS5.c2
                    have gs5 := GS5.f2
                    refine hK.out _ _ ?_ (fun hHeld => ?_)
                    · exact ⟨(hgrow5.cell_far ⟨w.heap.size + 1, 2, none⟩ (by simp; omega) (Ne.symm hn1)).trans hHeld.1, (hgrow5.cell_far ⟨bb, ob + k, none⟩ (by simp; omega) (Ne.symm hn3)).trans hHeld.2.1, (hgrow5.cell_far ⟨w.heap.size + 1 + 1, 2, none⟩ (by simp; omega) (Ne.symm hn2)).trans hHeld.2.2.1, (hgrow5.cell_far ⟨bc, oc + k, none⟩ (by simp; omega) (Ne.symm hn4)).trans hHeld.2.2.2⟩
                    clear hK K
                    try simp only [Act.put, List.setIfInBounds_toArray, List.set_cons_zero, List.set_cons_succ]
                    refine wpAnyH_take (i := 15) (v := ?_) rfl (by kernel_rfl) (by kernel_rfl) (by kernel_rfl) (fun _ _ _ h => h) (Or.inl ⟨by rfl, ?_⟩) (by assumption) ?_
                    rotate_left
                    · intro w hSw; (try dsimp only at hSw); go_simp; try with_reducible rfl
                    try simp only [Act.put, List.setIfInBounds_toArray, List.set_cons_zero, List.set_cons_succ]
                    refine wpAnyH_ready (rs := [16]) (by kernel_rfl) (by simp) ?_
                    refine AllReadyH.cons rfl (fun K hK => ?_) AllReadyH.nil
                    go_simp
                    refine hK.out _ _ ?_ (fun hHeld => ?_)
                    · exact ⟨(World.cell?_setCell_far _ _ _ _ d1).trans hHeld.1, (World.cell?_setCell_far _ _ _ _ d3).trans hHeld.2.1, (World.cell?_setCell_far _ _ _ _ d2).trans hHeld.2.2.1, (World.cell?_setCell_far _ _ _ _ d4).trans hHeld.2.2.2⟩
                    clear hK K
                    try simp only [Act.put, List.setIfInBounds_toArray, List.set_cons_zero, List.set_cons_succ]
                    refine wpAnyH_done (by kernel_rfl) ?_ _
                    have O6 : Only (World.heap u5 |>.size) w5 (w5.setCell ⟨(World.heap u5 |>.size), 2, none⟩ (.slice a5 (k + 1) c5)) := (Only.refl _ _).setCell 2 _
                    have BW : Below (World.heap u5 |>.size) u5 w5 := ((BB.alloc sU (.cells #[.int .u8 (((co Lb k).toNat ^^^ (co Lc k).toNat : Nat) : Int)] 5)).drew).grown hgrow5 (by simp; omega) (fun g hg => by have := hown.lt g hg; omega)
                    have l5 : wr.heap.size ≤ w5.heap.size := by have := ((Below.refl 0 _).grown hgrow5 (Nat.zero_le _) (fun k h => Nat.zero_le _)).size; simp at this; omega
                    have N1 : Hid _ := YS5.set2 (.slice a5 (k + 1) c5)
                    have N2 : Hid _ := GS5.setCell ⟨(World.heap u5 |>.size), 2, none⟩ (.slice a5 (k + 1) c5)
                    have N3 : Hid _ := ownsRow_setCell_below hown5 (a := ⟨(World.heap u5 |>.size), 2, none⟩) (show (World.heap u5 |>.size) < (World.heap u5 |>.size) + 1 by omega) (.slice a5 (k + 1) c5)
                    have N4 : Hid _ := BW.trans (O6.below (Nat.le_refl _))
                    have N5 : Hid ((World.heap u5 |>.size) + 1 ≤ (w5.setCell ⟨(World.heap u5 |>.size), 2, none⟩ (.slice a5 (k + 1) c5)).heap.size) := by show _ ≤ _; rw [O6.size]; omega
                    clear hHeld hown5 hgrow5 hown YS GS YS2 GS2 YS5 GS5 BB BW ys5 gs5 hlit O6
                    go_wp2
                    go_roundw
                    case rel => exact ⟨k + 1, _, by omega, by go_num, N1.out, N2.out, by rw [HS.out]; exact N3.out, N5.out, N4.out⟩
                    case measure => simp [intOf]; omega
                · obtain rfl : k = Lb.length := by omega
                  have Rs : Rd wr v (upto (xorF Lb Lc) Lb.length) := Rd.owned (base := (World.heap u5 |>.size) + 1) (e := 5) (by rw [upto_length]; exact hown)
                  obtain ⟨aS, cS, rfl⟩ := Rs.form
                  clear hown GS xb2 xc2
                  have ls : (World.heap u5 |>.size) < wr.heap.size := by omega
                  have b := BB
                  clear BB
                  have D : Below (World.heap u5 |>.size) u5 wr := Below.next (by repeat (first | exact Below.refl _ _ | apply Below.draws | apply below_lit)) b
                  have sD := D.size
                  replace Ra := Ra.below D
                  replace Rb := Rb.below D
                  replace Rc := Rc.below D
                  replace F := F.below D
                  replace Xa := Xa.below la D
                  replace la := Nat.lt_of_lt_of_le la sD
                  replace Xb := Xb.below lb D
                  replace lb := Nat.lt_of_lt_of_le lb sD
                  replace Xc := Xc.below lc D
                  replace lc := Nat.lt_of_lt_of_le lc sD
                  replace B := Below.next B D
                  clear b D sD
                  have xa0 := Xa.c0
                  have xa1 := Xa.c1
                  have xa2 := Xa.c2
                  have xb0 := Xb.c0
                  have xb1 := Xb.c1
                  have xb2 := Xb.c2
                  have xc0 := Xc.c0
                  have xc1 := Xc.c1
                  have xc2 := Xc.c2
                  have Xs := YS
                  clear YS
                  have xs0 := Xs.c0
                  have xs1 := Xs.c1
                  have xs2 := Xs.c2
                  by_cases hk : OkM mr0 mc0 La ∧ OkM mr1 mc1 Lb ∧ mc0 = mr1
                  · obtain ⟨ka, kb, e1⟩ := hk
                    obtain ⟨r, c, f1, f2, hr, hc, hAl⟩ := ka.nat
                    subst f1
                    subst f2
                    obtain ⟨c2, d, f3, f4, hc2, hd, hBl⟩ := kb.nat
                    subst f4
                    subst f3
                    have hcc : c = c2 := by omega
                    subst hcc
                    have HB : Hid _ := hBl
                    have HC : Hid (Lc.length = c * d) := HL.out.symm.trans hBl
                    have ks : OkM c d (upto (xorF Lb Lc) Lb.length) := okM_mk (by omega) (by omega) (by rw [upto_length]; exact hBl)
                    have kc : OkM c d Lc := okM_mk (by omega) (by omega) HC.out
                    clear e1 hAl hBl
                    go_wp2_with fail
                    refine (mmul_ok (F.below (by repeat (first | exact Below.refl _ _ | apply Below.draws | apply below_lit))) ⟨_, rfl, (Ra.below (by repeat (first | exact Below.refl _ _ | apply Below.draws | apply below_lit)))⟩ ⟨_, rfl, (Rs.below (by repeat (first | exact Below.refl _ _ | apply Below.draws | apply below_lit)))⟩ ka ks).mono ?_
                    rintro e u6 ⟨vx, rfl, Rx, b⟩
                    clear xa0 xa1 xa2 xb0 xb1 xb2 xc0 xc1 xc2 xs0 xs1 xs2
                    have D : Below (World.heap wr |>.size) wr u6 := Below.next (by repeat (first | exact Below.refl _ _ | apply Below.draws | apply below_lit)) b
                    have sD := D.size
                    replace Ra := Ra.below D
                    replace Rb := Rb.below D
                    replace Rc := Rc.below D
                    replace F := F.below D
                    replace Rs := Rs.below D
                    replace Xa := Xa.below la D
                    replace la := Nat.lt_of_lt_of_le la sD
                    replace Xb := Xb.below lb D
                    replace lb := Nat.lt_of_lt_of_le lb sD
                    replace Xc := Xc.below lc D
                    replace lc := Nat.lt_of_lt_of_le lc sD
                    replace Xs := Xs.below ls D
                    replace ls := Nat.lt_of_lt_of_le ls sD
                    replace B := Below.next B D
                    clear b D sD
                    have xa0 := Xa.c0
                    have xa1 := Xa.c1
                    have xa2 := Xa.c2
                    have xb0 := Xb.c0
                    have xb1 := Xb.c1
                    have xb2 := Xb.c2
                    have xc0 := Xc.c0
                    have xc1 := Xc.c1
                    have xc2 := Xc.c2
                    have xs0 := Xs.c0
                    have xs1 := Xs.c1
                    have xs2 := Xs.c2
                    obtain ⟨ax, cx, rfl⟩ := Rx.form
                    go_wp2_with fail
                    refine (mmul_ok (F.below (by repeat (first | exact Below.refl _ _ | apply Below.draws | apply below_lit))) ⟨_, rfl, (Ra.below (by repeat (first | exact Below.refl _ _ | apply Below.draws | apply below_lit)))⟩ ⟨_, rfl, (Rb.below (by repeat (first | exact Below.refl _ _ | apply Below.draws | apply below_lit)))⟩ ka kb).mono ?_
                    rintro e u7 ⟨vy, rfl, Ry, b⟩
                    clear xa0 xa1 xa2 xb0 xb1 xb2 xc0 xc1 xc2 xs0 xs1 xs2
                    have D : Below (World.heap u6 |>.size) u6 u7 := Below.next (by repeat (first | exact Below.refl _ _ | apply Below.draws | apply below_lit)) b
                    have sD := D.size
                    replace Ra := Ra.below D
                    replace Rb := Rb.below D
                    replace Rc := Rc.below D
                    replace F := F.below D
                    replace Rs := Rs.below D
                    replace Rx := Rx.below D
                    replace Xa := Xa.below la D
                    replace la := Nat.lt_of_lt_of_le la sD
                    replace Xb := Xb.below lb D
                    replace lb := Nat.lt_of_lt_of_le lb sD
                    replace Xc := Xc.below lc D
                    replace lc := Nat.lt_of_lt_of_le lc sD
                    replace Xs := Xs.below ls D
                    replace ls := Nat.lt_of_lt_of_le ls sD
                    have Xx : Box u7 (World.heap u6 |>.size) _ _ _ := Below.box b (by simp <;> omega) (by first | exact Box.new _ _ _ _ _ | exact (Box.new _ _ _ _ _).alloc (by simp) _ | exact ((Box.new _ _ _ _ _).alloc (by simp) _).alloc (by simp <;> omega) _)
                    have lx : (World.heap u6 |>.size) < (World.heap u7 |>.size) := by have := b.size; simp at this; omega
                    replace B := Below.next B D
                    clear b D sD
                    have xa0 := Xa.c0
                    have xa1 := Xa.c1
                    have xa2 := Xa.c2
                    have xb0 := Xb.c0
                    have xb1 := Xb.c1
                    have xb2 := Xb.c2
                    have xc0 := Xc.c0
                    have xc1 := Xc.c1
                    have xc2 := Xc.c2
                    have xs0 := Xs.c0
                    have xs1 := Xs.c1
                    have xs2 := Xs.c2
                    have xx0 := Xx.c0
                    have xx1 := Xx.c1
                    have xx2 := Xx.c2
                    obtain ⟨ay, cy, rfl⟩ := Ry.form
                    go_wp2_with fail
                    refine (mmul_ok (F.below (by repeat (first | exact Below.refl _ _ | apply Below.draws | apply below_lit))) ⟨_, rfl, (Ra.below (by repeat (first | exact Below.refl _ _ | apply Below.draws | apply below_lit)))⟩ ⟨_, rfl, (Rc.below (by repeat (first | exact Below.refl _ _ | apply Below.draws | apply below_lit)))⟩ ka kc).mono ?_
                    rintro e u8 ⟨vz, rfl, Rz, b⟩
                    clear xa0 xa1 xa2 xb0 xb1 xb2 xc0 xc1 xc2 xs0 xs1 xs2 xx0 xx1 xx2
                    have D : Below (World.heap u7 |>.size) u7 u8 := Below.next (by repeat (first | exact Below.refl _ _ | apply Below.draws | apply below_lit)) b
                    have sD := D.size
                    replace Ra := Ra.below D
                    replace Rb := Rb.below D
                    replace Rc := Rc.below D
                    replace F := F.below D
                    replace Rs := Rs.below D
                    replace Rx := Rx.below D
                    replace Ry := Ry.below D
                    replace Xa := Xa.below la D
                    replace la := Nat.lt_of_lt_of_le la sD
                    replace Xb := Xb.below lb D
                    replace lb := Nat.lt_of_lt_of_le lb sD
                    replace Xc := Xc.below lc D
                    replace lc := Nat.lt_of_lt_of_le lc sD
                    replace Xs := Xs.below ls D
                    replace ls := Nat.lt_of_lt_of_le ls sD
                    replace Xx := Xx.below lx D
                    replace lx := Nat.lt_of_lt_of_le lx sD
                    have Xy : Box u8 (World.heap u7 |>.size) _ _ _ := Below.box b (by simp <;> omega) (by first | exact Box.new _ _ _ _ _ | exact (Box.new _ _ _ _ _).alloc (by simp) _ | exact ((Box.new _ _ _ _ _).alloc (by simp) _).alloc (by simp <;> omega) _)
                    have ly : (World.heap u7 |>.size) < (World.heap u8 |>.size) := by have := b.size; simp at this; omega
                    replace B := Below.next B D
                    clear b D sD
                    have xa0 := Xa.c0
                    have xa1 := Xa.c1
                    have xa2 := Xa.c2
                    have xb0 := Xb.c0
                    have xb1 := Xb.c1
                    have xb2 := Xb.c2
                    have xc0 := Xc.c0
                    have xc1 := Xc.c1
                    have xc2 := Xc.c2
                    have xs0 := Xs.c0
                    have xs1 := Xs.c1
                    have xs2 := Xs.c2
                    have xx0 := Xx.c0
                    have xx1 := Xx.c1
                    have xx2 := Xx.c2
                    have xy0 := Xy.c0
                    have xy1 := Xy.c1
                    have xy2 := Xy.c2
                    obtain ⟨az, cz, rfl⟩ := Rz.form
                    obtain ⟨N, hN⟩ : ∃ N, Hid (N = r * d) := ⟨_, rfl⟩
                    have HSX : Hid _ := fun i hi => sum_x (r := r) (d := d) La Lb Lc HB.out HC.out i hi
                    have LX := flat_length r d (mm c (en c La) (en d (upto (xorF Lb Lc) Lb.length)))
                    have LY := flat_length r d (mm c (en c La) (en d Lb))
                    have LZ := flat_length r d (mm c (en c La) (en d Lc))
                    generalize flat r d (mm c (en c La) (en d (upto (xorF Lb Lc) Lb.length))) = PX at *
                    generalize flat r d (mm c (en c La) (en d Lb)) = PY at *
                    generalize flat r d (mm c (en c La) (en d Lc)) = PZ at *
                    have hN9 : N ≤ 65536 := by rw [hN.out]; exact mul_small (by omega) (by omega)
                    have nx : PX.length = N := by rw [← hN.out] at LX; exact LX
                    have ny : PY.length = N := by rw [← hN.out] at LY; exact LY
                    have nz : PZ.length = N := by rw [← hN.out] at LZ; exact LZ
                    rw [← hN.out] at HSX
                    clear LX LY LZ
                    go_wp2
                    go_loopw [17] (fun i wr => ∃ k : Nat, k ≤ N ∧ i = .int .i64 k ∧ Box wr (World.heap u8 |>.size) (r : Int) (d : Int) (.slice az N cz) ∧ Below (World.heap u8 |>.size) u8 wr) (fun i _ => N - (intOf i).toNat)
                    case atStart => exact ⟨0, by omega, rfl, by first | exact Box.new _ _ _ _ _ | (rw [← nz]; exact Box.new _ _ _ _ _), (Below.refl _ _).alloc (Nat.le_refl _) _⟩
                    case round =>
                      obtain ⟨k, hk2, rfl, YZ, BZ⟩ := hrel
                      have xx2 := (Xx.below lx BZ).c2
                      have xy2 := (Xy.below ly BZ).c2
                      have xz2 := YZ.c2
                      by_cases hlt2 : k < N
                      · have hnx : PX ≠ [] := fun h => by rw [h] at nx; simp at nx; omega
                        have hny : PY ≠ [] := fun h => by rw [h] at ny; simp at ny; omega
                        have hnz : PZ ≠ [] := fun h => by rw [h] at nz; simp at nz; omega
                        obtain ⟨gx, ox, cx2, ex⟩ := (Rx.below BZ).somewhere hnx
                        obtain ⟨gy, oy, cy2, ey⟩ := (Ry.below BZ).somewhere hny
                        obtain ⟨gz, oz, cz2, ez⟩ := (Rz.below BZ).somewhere hnz
                        simp at ex ey ez
                        obtain ⟨rfl, rfl⟩ := ex
                        obtain ⟨rfl, rfl⟩ := ey
                        obtain ⟨rfl, rfl⟩ := ez
                        have k1 := (Rx.below BZ).cellAt (i := k) (by omega)
                        have k2 := (Ry.below BZ).cellAt (i := k) (by omega)
                        have k3 := (Rz.below BZ).cellAt (i := k) (by omega)
                        rw [HSX.out k hlt2, UInt8.toNat_xor] at k1
                        have E := xor_u8 (co PY k) (co PZ k)
                        have hkN : (k : Int) < (N : Int) := by omega
                        go_wp2
                        go_quiet (fail)
                        go_wp2
                        go_roundw
                        case rel => exact ⟨k + 1, by omega, by go_num, YZ.drewN _, BZ.drewN _⟩
                        case measure => simp [intOf]; omega
                      · go_wp2
                        go_ret
                        exact ⟨rfl, Below.next B BZ⟩
                  · have q1 : ¬ (OkM mr0 mc0 La ∧ OkM mr1 mc1 (upto (xorF Lb Lc) Lb.length) ∧ mc0 = mr1) := fun h => hk ⟨h.1, okM_len (upto_length _ _) h.2.1, h.2.2⟩
                    have q2 : ¬ (OkM mr0 mc0 La ∧ OkM mr1 mc1 Lc ∧ mc0 = mr1) := fun h => hk ⟨h.1, okM_len HL.out.symm h.2.1, h.2.2⟩
                    go_wp2_with fail
                    refine (mmul_bad (F.below (by repeat (first | exact Below.refl _ _ | apply Below.draws | apply below_lit))) ⟨_, rfl, (Ra.below (by repeat (first | exact Below.refl _ _ | apply Below.draws | apply below_lit)))⟩ ⟨_, rfl, (Rs.below (by repeat (first | exact Below.refl _ _ | apply Below.draws | apply below_lit)))⟩ q1).mono ?_
                    rintro e u6 ⟨vx, rfl, Rx, b⟩
                    clear xa0 xa1 xa2 xb0 xb1 xb2 xc0 xc1 xc2 xs0 xs1 xs2
                    have D : Below (World.heap wr |>.size) wr u6 := Below.next (by repeat (first | exact Below.refl _ _ | apply Below.draws | apply below_lit)) b
                    have sD := D.size
                    replace Ra := Ra.below D
                    replace Rb := Rb.below D
                    replace Rc := Rc.below D
                    replace F := F.below D
                    replace Rs := Rs.below D
                    replace Xa := Xa.below la D
                    replace la := Nat.lt_of_lt_of_le la sD
                    replace Xb := Xb.below lb D
                    replace lb := Nat.lt_of_lt_of_le lb sD
                    replace Xc := Xc.below lc D
                    replace lc := Nat.lt_of_lt_of_le lc sD
                    replace Xs := Xs.below ls D
                    replace ls := Nat.lt_of_lt_of_le ls sD
                    replace B := Below.next B D
                    clear b D sD
                    have xa0 := Xa.c0
                    have xa1 := Xa.c1
                    have xa2 := Xa.c2
                    have xb0 := Xb.c0
                    have xb1 := Xb.c1
                    have xb2 := Xb.c2
                    have xc0 := Xc.c0
                    have xc1 := Xc.c1
                    have xc2 := Xc.c2
                    have xs0 := Xs.c0
                    have xs1 := Xs.c1
                    have xs2 := Xs.c2
                    obtain ⟨ax, cx, rfl⟩ := Rx.form
                    clear Rx
                    go_wp2_with fail
                    refine (mmul_bad (F.below (by repeat (first | exact Below.refl _ _ | apply Below.draws | apply below_lit))) ⟨_, rfl, (Ra.below (by repeat (first | exact Below.refl _ _ | apply Below.draws | apply below_lit)))⟩ ⟨_, rfl, (Rb.below (by repeat (first | exact Below.refl _ _ | apply Below.draws | apply below_lit)))⟩ hk).mono ?_
                    rintro e u7 ⟨vy, rfl, Ry, b⟩
                    clear xa0 xa1 xa2 xb0 xb1 xb2 xc0 xc1 xc2 xs0 xs1 xs2
                    have D : Below (World.heap u6 |>.size) u6 u7 := Below.next (by repeat (first | exact Below.refl _ _ | apply Below.draws | apply below_lit)) b
                    have sD := D.size
                    replace Ra := Ra.below D
                    replace Rb := Rb.below D
                    replace Rc := Rc.below D
                    replace F := F.below D
                    replace Rs := Rs.below D
                    replace Xa := Xa.below la D
                    replace la := Nat.lt_of_lt_of_le la sD
                    replace Xb := Xb.below lb D
                    replace lb := Nat.lt_of_lt_of_le lb sD
                    replace Xc := Xc.below lc D
                    replace lc := Nat.lt_of_lt_of_le lc sD
                    replace Xs := Xs.below ls D
                    replace ls := Nat.lt_of_lt_of_le ls sD
                    have Xx : Box u7 (World.heap u6 |>.size) _ _ _ := Below.box b (by simp <;> omega) (by first | exact Box.new _ _ _ _ _ | exact (Box.new _ _ _ _ _).alloc (by simp) _ | exact ((Box.new _ _ _ _ _).alloc (by simp) _).alloc (by simp <;> omega) _)
                    have lx : (World.heap u6 |>.size) < (World.heap u7 |>.size) := by have := b.size; simp at this; omega
                    replace B := Below.next B D
                    clear b D sD
                    have xa0 := Xa.c0
                    have xa1 := Xa.c1
                    have xa2 := Xa.c2
                    have xb0 := Xb.c0
                    have xb1 := Xb.c1
                    have xb2 := Xb.c2
                    have xc0 := Xc.c0
                    have xc1 := Xc.c1
                    have xc2 := Xc.c2
                    have xs0 := Xs.c0
                    have xs1 := Xs.c1
                    have xs2 := Xs.c2
                    have xx0 := Xx.c0
                    have xx1 := Xx.c1
                    have xx2 := Xx.c2
                    obtain ⟨ay, cy, rfl⟩ := Ry.form
                    clear Ry
                    go_wp2_with fail
                    refine (mmul_bad (F.below (by repeat (first | exact Below.refl _ _ | apply Below.draws | apply below_lit))) ⟨_, rfl, (Ra.below (by repeat (first | exact Below.refl _ _ | apply Below.draws | apply below_lit)))⟩ ⟨_, rfl, (Rc.below (by repeat (first | exact Below.refl _ _ | apply Below.draws | apply below_lit)))⟩ q2).mono ?_
                    rintro e u8 ⟨vz, rfl, Rz, b⟩
                    clear xa0 xa1 xa2 xb0 xb1 xb2 xc0 xc1 xc2 xs0 xs1 xs2 xx0 xx1 xx2
                    have D : Below (World.heap u7 |>.size) u7 u8 := Below.next (by repeat (first | exact Below.refl _ _ | apply Below.draws | apply below_lit)) b
                    have sD := D.size
                    replace Ra := Ra.below D
                    replace Rb := Rb.below D
                    replace Rc := Rc.below D
                    replace F := F.below D
                    replace Rs := Rs.below D
                    replace Xa := Xa.below la D
                    replace la := Nat.lt_of_lt_of_le la sD
                    replace Xb := Xb.below lb D
                    replace lb := Nat.lt_of_lt_of_le lb sD
                    replace Xc := Xc.below lc D
                    replace lc := Nat.lt_of_lt_of_le lc sD
                    replace Xs := Xs.below ls D
                    replace ls := Nat.lt_of_lt_of_le ls sD
                    replace Xx := Xx.below lx D
                    replace lx := Nat.lt_of_lt_of_le lx sD
                    have Xy : Box u8 (World.heap u7 |>.size) _ _ _ := Below.box b (by simp <;> omega) (by first | exact Box.new _ _ _ _ _ | exact (Box.new _ _ _ _ _).alloc (by simp) _ | exact ((Box.new _ _ _ _ _).alloc (by simp) _).alloc (by simp <;> omega) _)
                    have ly : (World.heap u7 |>.size) < (World.heap u8 |>.size) := by have := b.size; simp at this; omega
                    replace B := Below.next B D
                    clear b D sD
                    have xa0 := Xa.c0
                    have xa1 := Xa.c1
                    have xa2 := Xa.c2
                    have xb0 := Xb.c0
                    have xb1 := Xb.c1
                    have xb2 := Xb.c2
                    have xc0 := Xc.c0
                    have xc1 := Xc.c1
                    have xc2 := Xc.c2
                    have xs0 := Xs.c0
                    have xs1 := Xs.c1
                    have xs2 := Xs.c2
                    have xx0 := Xx.c0
                    have xx1 := Xx.c1
                    have xx2 := Xx.c2
                    have xy0 := Xy.c0
                    have xy1 := Xy.c1
                    have xy2 := Xy.c2
                    obtain ⟨az, cz, rfl⟩ := Rz.form
                    clear Rz
                    go_wp2
                    go_ret
                    exact ⟨rfl, Below.next B (by repeat (first | exact Below.refl _ _ | apply Below.draws | apply below_lit))⟩
            · subst h1
              subst h2
              have h4 : ((Lb.length : Int) != (Lc.length : Int)) = true := by simp; omega
              go_enter Try.func4, Try.ntmps4
              have B : Below w.heap.size w w := Below.refl _ _
              go_wp2_with fail
              refine (awake3_any _).mono ?_
              rintro e u1 ⟨rfl, b⟩
              have D : Below w.heap.size w u1 := Below.next (by repeat (first | exact Below.refl _ _ | apply Below.draws | apply below_lit)) b
              have sD := D.size
              replace Ra := Ra.below D
              replace Rb := Rb.below D
              replace Rc := Rc.below D
              have Xa : Box u1 (w.heap.size) _ _ _ := Below.box b (by simp <;> omega) (by first | exact Box.new _ _ _ _ _ | exact (Box.new _ _ _ _ _).alloc (by simp) _ | exact ((Box.new _ _ _ _ _).alloc (by simp) _).alloc (by simp <;> omega) _ | exact Box.new1 _ _ _ _ _ _ | exact (Box.new1 _ _ _ _ _ _).alloc (by simp <;> omega) _ | exact Box.new2 _ _ _ _ _ _ _)
              have la : w.heap.size < u1.heap.size := by have := b.size; simp at this; omega
              have Xb : Box u1 (w.heap.size + 1) _ _ _ := Below.box b (by simp <;> omega) (by first | exact Box.new _ _ _ _ _ | exact (Box.new _ _ _ _ _).alloc (by simp) _ | exact ((Box.new _ _ _ _ _).alloc (by simp) _).alloc (by simp <;> omega) _ | exact Box.new1 _ _ _ _ _ _ | exact (Box.new1 _ _ _ _ _ _).alloc (by simp <;> omega) _ | exact Box.new2 _ _ _ _ _ _ _)
              have lb : w.heap.size + 1 < u1.heap.size := by have := b.size; simp at this; omega
              have Xc : Box u1 (w.heap.size + 1 + 1) _ _ _ := Below.box b (by simp <;> omega) (by first | exact Box.new _ _ _ _ _ | exact (Box.new _ _ _ _ _).alloc (by simp) _ | exact ((Box.new _ _ _ _ _).alloc (by simp) _).alloc (by simp <;> omega) _ | exact Box.new1 _ _ _ _ _ _ | exact (Box.new1 _ _ _ _ _ _).alloc (by simp <;> omega) _ | exact Box.new2 _ _ _ _ _ _ _)
              have lc : w.heap.size + 1 + 1 < u1.heap.size := by have := b.size; simp at this; omega
              replace B := Below.next B D
              clear b D sD
              have xa0 := Xa.c0
              have xa1 := Xa.c1
              have xa2 := Xa.c2
              have xb0 := Xb.c0
              have xb1 := Xb.c1
              have xb2 := Xb.c2
              have xc0 := Xc.c0
              have xc1 := Xc.c1
              have xc2 := Xc.c2
              go_wp2_with fail
              refine (new_any _).mono ?_
              rintro e u2 ⟨rfl, F, hO⟩
              have b := hO.below
              clear hO
              clear xa0 xa1 xa2 xb0 xb1 xb2 xc0 xc1 xc2
              have D : Below (World.heap u1 |>.size) u1 u2 := Below.next (by repeat (first | exact Below.refl _ _ | apply Below.draws | apply below_lit)) b
              have sD := D.size
              replace Ra := Ra.below D
              replace Rb := Rb.below D
              replace Rc := Rc.below D
              replace Xa := Xa.below la D
              replace la := Nat.lt_of_lt_of_le la sD
              replace Xb := Xb.below lb D
              replace lb := Nat.lt_of_lt_of_le lb sD
              replace Xc := Xc.below lc D
              replace lc := Nat.lt_of_lt_of_le lc sD
              replace B := Below.next B D
              clear b D sD
              have xa0 := Xa.c0
              have xa1 := Xa.c1
              have xa2 := Xa.c2
              have xb0 := Xb.c0
              have xb1 := Xb.c1
              have xb2 := Xb.c2
              have xc0 := Xc.c0
              have xc1 := Xc.c1
              have xc2 := Xc.c2
              go_wp2_with fail
              refine (small_yes ⟨_, rfl, (Ra.below (by repeat (first | exact Below.refl _ _ | apply Below.draws | apply below_lit)))⟩ hsa).mono ?_
              rintro e u3 ⟨rfl, b⟩
              clear xa0 xa1 xa2 xb0 xb1 xb2 xc0 xc1 xc2
              have D : Below (World.heap u2 |>.size) u2 u3 := Below.next (by repeat (first | exact Below.refl _ _ | apply Below.draws | apply below_lit)) b
              have sD := D.size
              replace Ra := Ra.below D
              replace Rb := Rb.below D
              replace Rc := Rc.below D
              replace F := F.below D
              replace Xa := Xa.below la D
              replace la := Nat.lt_of_lt_of_le la sD
              replace Xb := Xb.below lb D
              replace lb := Nat.lt_of_lt_of_le lb sD
              replace Xc := Xc.below lc D
              replace lc := Nat.lt_of_lt_of_le lc sD
              replace B := Below.next B D
              clear b D sD
              have xa0 := Xa.c0
              have xa1 := Xa.c1
              have xa2 := Xa.c2
              have xb0 := Xb.c0
              have xb1 := Xb.c1
              have xb2 := Xb.c2
              have xc0 := Xc.c0
              have xc1 := Xc.c1
              have xc2 := Xc.c2
              go_wp2_with fail
              refine (small_yes ⟨_, rfl, (Rb.below (by repeat (first | exact Below.refl _ _ | apply Below.draws | apply below_lit)))⟩ hsb).mono ?_
              rintro e u4 ⟨rfl, b⟩
              clear xa0 xa1 xa2 xb0 xb1 xb2 xc0 xc1 xc2
              have D : Below (World.heap u3 |>.size) u3 u4 := Below.next (by repeat (first | exact Below.refl _ _ | apply Below.draws | apply below_lit)) b
              have sD := D.size
              replace Ra := Ra.below D
              replace Rb := Rb.below D
              replace Rc := Rc.below D
              replace F := F.below D
              replace Xa := Xa.below la D
              replace la := Nat.lt_of_lt_of_le la sD
              replace Xb := Xb.below lb D
              replace lb := Nat.lt_of_lt_of_le lb sD
              replace Xc := Xc.below lc D
              replace lc := Nat.lt_of_lt_of_le lc sD
              replace B := Below.next B D
              clear b D sD
              have xa0 := Xa.c0
              have xa1 := Xa.c1
              have xa2 := Xa.c2
              have xb0 := Xb.c0
              have xb1 := Xb.c1
              have xb2 := Xb.c2
              have xc0 := Xc.c0
              have xc1 := Xc.c1
              have xc2 := Xc.c2
              go_wp2_with fail
              refine (small_yes ⟨_, rfl, (Rc.below (by repeat (first | exact Below.refl _ _ | apply Below.draws | apply below_lit)))⟩ hsc).mono ?_
              rintro e u5 ⟨rfl, b⟩
              clear xa0 xa1 xa2 xb0 xb1 xb2 xc0 xc1 xc2
              have D : Below (World.heap u4 |>.size) u4 u5 := Below.next (by repeat (first | exact Below.refl _ _ | apply Below.draws | apply below_lit)) b
              have sD := D.size
              replace Ra := Ra.below D
              replace Rb := Rb.below D
              replace Rc := Rc.below D
              replace F := F.below D
              replace Xa := Xa.below la D
              replace la := Nat.lt_of_lt_of_le la sD
              replace Xb := Xb.below lb D
              replace lb := Nat.lt_of_lt_of_le lb sD
              replace Xc := Xc.below lc D
              replace lc := Nat.lt_of_lt_of_le lc sD
              replace B := Below.next B D
              clear b D sD
              have xa0 := Xa.c0
              have xa1 := Xa.c1
              have xa2 := Xa.c2
              have xb0 := Xb.c0
              have xb1 := Xb.c1
              have xb2 := Xb.c2
              have xc0 := Xc.c0
              have xc1 := Xc.c1
              have xc2 := Xc.c2
              go_wp2
              go_ret
              exact ⟨rfl, Below.next B (by repeat (first | exact Below.refl _ _ | apply Below.draws | apply below_lit))⟩
          · subst h1
            have h4 : (mc1 != mc2) = true := by simpa using h2
            go_enter Try.func4, Try.ntmps4
            have B : Below w.heap.size w w := Below.refl _ _
            go_wp2_with fail
            refine (awake3_any _).mono ?_
            rintro e u1 ⟨rfl, b⟩
            have D : Below w.heap.size w u1 := Below.next (by repeat (first | exact Below.refl _ _ | apply Below.draws | apply below_lit)) b
            have sD := D.size
            replace Ra := Ra.below D
            replace Rb := Rb.below D
            replace Rc := Rc.below D
            have Xa : Box u1 (w.heap.size) _ _ _ := Below.box b (by simp <;> omega) (by first | exact Box.new _ _ _ _ _ | exact (Box.new _ _ _ _ _).alloc (by simp) _ | exact ((Box.new _ _ _ _ _).alloc (by simp) _).alloc (by simp <;> omega) _ | exact Box.new1 _ _ _ _ _ _ | exact (Box.new1 _ _ _ _ _ _).alloc (by simp <;> omega) _ | exact Box.new2 _ _ _ _ _ _ _)
            have la : w.heap.size < u1.heap.size := by have := b.size; simp at this; omega
            have Xb : Box u1 (w.heap.size + 1) _ _ _ := Below.box b (by simp <;> omega) (by first | exact Box.new _ _ _ _ _ | exact (Box.new _ _ _ _ _).alloc (by simp) _ | exact ((Box.new _ _ _ _ _).alloc (by simp) _).alloc (by simp <;> omega) _ | exact Box.new1 _ _ _ _ _ _ | exact (Box.new1 _ _ _ _ _ _).alloc (by simp <;> omega) _ | exact Box.new2 _ _ _ _ _ _ _)
            have lb : w.heap.size + 1 < u1.heap.size := by have := b.size; simp at this; omega
            have Xc : Box u1 (w.heap.size + 1 + 1) _ _ _ := Below.box b (by simp <;> omega) (by first | exact Box.new _ _ _ _ _ | exact (Box.new _ _ _ _ _).alloc (by simp) _ | exact ((Box.new _ _ _ _ _).alloc (by simp) _).alloc (by simp <;> omega) _ | exact Box.new1 _ _ _ _ _ _ | exact (Box.new1 _ _ _ _ _ _).alloc (by simp <;> omega) _ | exact Box.new2 _ _ _ _ _ _ _)
            have lc : w.heap.size + 1 + 1 < u1.heap.size := by have := b.size; simp at this; omega
            replace B := Below.next B D
            clear b D sD
            have xa0 := Xa.c0
            have xa1 := Xa.c1
            have xa2 := Xa.c2
            have xb0 := Xb.c0
            have xb1 := Xb.c1
            have xb2 := Xb.c2
            have xc0 := Xc.c0
            have xc1 := Xc.c1
            have xc2 := Xc.c2
            go_wp2_with fail
            refine (new_any _).mono ?_
            rintro e u2 ⟨rfl, F, hO⟩
            have b := hO.below
            clear hO
            clear xa0 xa1 xa2 xb0 xb1 xb2 xc0 xc1 xc2
            have D : Below (World.heap u1 |>.size) u1 u2 := Below.next (by repeat (first | exact Below.refl _ _ | apply Below.draws | apply below_lit)) b
            have sD := D.size
            replace Ra := Ra.below D
            replace Rb := Rb.below D
            replace Rc := Rc.below D
            replace Xa := Xa.below la D
            replace la := Nat.lt_of_lt_of_le la sD
            replace Xb := Xb.below lb D
            replace lb := Nat.lt_of_lt_of_le lb sD
            replace Xc := Xc.below lc D
            replace lc := Nat.lt_of_lt_of_le lc sD
            replace B := Below.next B D
            clear b D sD
            have xa0 := Xa.c0
            have xa1 := Xa.c1
            have xa2 := Xa.c2
            have xb0 := Xb.c0
            have xb1 := Xb.c1
            have xb2 := Xb.c2
            have xc0 := Xc.c0
            have xc1 := Xc.c1
            have xc2 := Xc.c2
            go_wp2_with fail
            refine (small_yes ⟨_, rfl, (Ra.below (by repeat (first | exact Below.refl _ _ | apply Below.draws | apply below_lit)))⟩ hsa).mono ?_
            rintro e u3 ⟨rfl, b⟩
            clear xa0 xa1 xa2 xb0 xb1 xb2 xc0 xc1 xc2
            have D : Below (World.heap u2 |>.size) u2 u3 := Below.next (by repeat (first | exact Below.refl _ _ | apply Below.draws | apply below_lit)) b
            have sD := D.size
            replace Ra := Ra.below D
            replace Rb := Rb.below D
            replace Rc := Rc.below D
            replace F := F.below D
            replace Xa := Xa.below la D
            replace la := Nat.lt_of_lt_of_le la sD
            replace Xb := Xb.below lb D
            replace lb := Nat.lt_of_lt_of_le lb sD
            replace Xc := Xc.below lc D
            replace lc := Nat.lt_of_lt_of_le lc sD
            replace B := Below.next B D
            clear b D sD
            have xa0 := Xa.c0
            have xa1 := Xa.c1
            have xa2 := Xa.c2
            have xb0 := Xb.c0
            have xb1 := Xb.c1
            have xb2 := Xb.c2
            have xc0 := Xc.c0
            have xc1 := Xc.c1
            have xc2 := Xc.c2
            go_wp2_with fail
            refine (small_yes ⟨_, rfl, (Rb.below (by repeat (first | exact Below.refl _ _ | apply Below.draws | apply below_lit)))⟩ hsb).mono ?_
            rintro e u4 ⟨rfl, b⟩
            clear xa0 xa1 xa2 xb0 xb1 xb2 xc0 xc1 xc2
            have D : Below (World.heap u3 |>.size) u3 u4 := Below.next (by repeat (first | exact Below.refl _ _ | apply Below.draws | apply below_lit)) b
            have sD := D.size
            replace Ra := Ra.below D
            replace Rb := Rb.below D
            replace Rc := Rc.below D
            replace F := F.below D
            replace Xa := Xa.below la D
            replace la := Nat.lt_of_lt_of_le la sD
            replace Xb := Xb.below lb D
            replace lb := Nat.lt_of_lt_of_le lb sD
            replace Xc := Xc.below lc D
            replace lc := Nat.lt_of_lt_of_le lc sD
            replace B := Below.next B D
            clear b D sD
            have xa0 := Xa.c0
            have xa1 := Xa.c1
            have xa2 := Xa.c2
            have xb0 := Xb.c0
            have xb1 := Xb.c1
            have xb2 := Xb.c2
            have xc0 := Xc.c0
            have xc1 := Xc.c1
            have xc2 := Xc.c2
            go_wp2_with fail
            refine (small_yes ⟨_, rfl, (Rc.below (by repeat (first | exact Below.refl _ _ | apply Below.draws | apply below_lit)))⟩ hsc).mono ?_
            rintro e u5 ⟨rfl, b⟩
            clear xa0 xa1 xa2 xb0 xb1 xb2 xc0 xc1 xc2
            have D : Below (World.heap u4 |>.size) u4 u5 := Below.next (by repeat (first | exact Below.refl _ _ | apply Below.draws | apply below_lit)) b
            have sD := D.size
            replace Ra := Ra.below D
            replace Rb := Rb.below D
            replace Rc := Rc.below D
            replace F := F.below D
            replace Xa := Xa.below la D
            replace la := Nat.lt_of_lt_of_le la sD
            replace Xb := Xb.below lb D
            replace lb := Nat.lt_of_lt_of_le lb sD
            replace Xc := Xc.below lc D
            replace lc := Nat.lt_of_lt_of_le lc sD
            replace B := Below.next B D
            clear b D sD
            have xa0 := Xa.c0
            have xa1 := Xa.c1
            have xa2 := Xa.c2
            have xb0 := Xb.c0
            have xb1 := Xb.c1
            have xb2 := Xb.c2
            have xc0 := Xc.c0
            have xc1 := Xc.c1
            have xc2 := Xc.c2
            go_wp2
            go_ret
            exact ⟨rfl, Below.next B (by repeat (first | exact Below.refl _ _ | apply Below.draws | apply below_lit))⟩
        · have h4 : (mr1 != mr2) = true := by simpa using h1
          go_enter Try.func4, Try.ntmps4
          have B : Below w.heap.size w w := Below.refl _ _
          go_wp2_with fail
          refine (awake3_any _).mono ?_
          rintro e u1 ⟨rfl, b⟩
          have D : Below w.heap.size w u1 := Below.next (by repeat (first | exact Below.refl _ _ | apply Below.draws | apply below_lit)) b
          have sD := D.size
          replace Ra := Ra.below D
          replace Rb := Rb.below D
          replace Rc := Rc.below D
          have Xa : Box u1 (w.heap.size) _ _ _ := Below.box b (by simp <;> omega) (by first | exact Box.new _ _ _ _ _ | exact (Box.new _ _ _ _ _).alloc (by simp) _ | exact ((Box.new _ _ _ _ _).alloc (by simp) _).alloc (by simp <;> omega) _ | exact Box.new1 _ _ _ _ _ _ | exact (Box.new1 _ _ _ _ _ _).alloc (by simp <;> omega) _ | exact Box.new2 _ _ _ _ _ _ _)
          have la : w.heap.size < u1.heap.size := by have := b.size; simp at this; omega
          have Xb : Box u1 (w.heap.size + 1) _ _ _ := Below.box b (by simp <;> omega) (by first | exact Box.new _ _ _ _ _ | exact (Box.new _ _ _ _ _).alloc (by simp) _ | exact ((Box.new _ _ _ _ _).alloc (by simp) _).alloc (by simp <;> omega) _ | exact Box.new1 _ _ _ _ _ _ | exact (Box.new1 _ _ _ _ _ _).alloc (by simp <;> omega) _ | exact Box.new2 _ _ _ _ _ _ _)
          have lb : w.heap.size + 1 < u1.heap.size := by have := b.size; simp at this; omega
          have Xc : Box u1 (w.heap.size + 1 + 1) _ _ _ := Below.box b (by simp <;> omega) (by first | exact Box.new _ _ _ _ _ | exact (Box.new _ _ _ _ _).alloc (by simp) _ | exact ((Box.new _ _ _ _ _).alloc (by simp) _).alloc (by simp <;> omega) _ | exact Box.new1 _ _ _ _ _ _ | exact (Box.new1 _ _ _ _ _ _).alloc (by simp <;> omega) _ | exact Box.new2 _ _ _ _ _ _ _)
          have lc : w.heap.size + 1 + 1 < u1.heap.size := by have := b.size; simp at this; omega
          replace B := Below.next B D
          clear b D sD
          have xa0 := Xa.c0
          have xa1 := Xa.c1
          have xa2 := Xa.c2
          have xb0 := Xb.c0
          have xb1 := Xb.c1
          have xb2 := Xb.c2
          have xc0 := Xc.c0
          have xc1 := Xc.c1
          have xc2 := Xc.c2
          go_wp2_with fail
          refine (new_any _).mono ?_
          rintro e u2 ⟨rfl, F, hO⟩
          have b := hO.below
          clear hO
          clear xa0 xa1 xa2 xb0 xb1 xb2 xc0 xc1 xc2
          have D : Below (World.heap u1 |>.size) u1 u2 := Below.next (by repeat (first | exact Below.refl _ _ | apply Below.draws | apply below_lit)) b
          have sD := D.size
          replace Ra := Ra.below D
          replace Rb := Rb.below D
          replace Rc := Rc.below D
          replace Xa := Xa.below la D
          replace la := Nat.lt_of_lt_of_le la sD
          replace Xb := Xb.below lb D
          replace lb := Nat.lt_of_lt_of_le lb sD
          replace Xc := Xc.below lc D
          replace lc := Nat.lt_of_lt_of_le lc sD
          replace B := Below.next B D
          clear b D sD
          have xa0 := Xa.c0
          have xa1 := Xa.c1
          have xa2 := Xa.c2
          have xb0 := Xb.c0
          have xb1 := Xb.c1
          have xb2 := Xb.c2
          have xc0 := Xc.c0
          have xc1 := Xc.c1
          have xc2 := Xc.c2
          go_wp2_with fail
          refine (small_yes ⟨_, rfl, (Ra.below (by repeat (first | exact Below.refl _ _ | apply Below.draws | apply below_lit)))⟩ hsa).mono ?_
          rintro e u3 ⟨rfl, b⟩
          clear xa0 xa1 xa2 xb0 xb1 xb2 xc0 xc1 xc2
          have D : Below (World.heap u2 |>.size) u2 u3 := Below.next (by repeat (first | exact Below.refl _ _ | apply Below.draws | apply below_lit)) b
          have sD := D.size
          replace Ra := Ra.below D
          replace Rb := Rb.below D
          replace Rc := Rc.below D
          replace F := F.below D
          replace Xa := Xa.below la D
          replace la := Nat.lt_of_lt_of_le la sD
          replace Xb := Xb.below lb D
          replace lb := Nat.lt_of_lt_of_le lb sD
          replace Xc := Xc.below lc D
          replace lc := Nat.lt_of_lt_of_le lc sD
          replace B := Below.next B D
          clear b D sD
          have xa0 := Xa.c0
          have xa1 := Xa.c1
          have xa2 := Xa.c2
          have xb0 := Xb.c0
          have xb1 := Xb.c1
          have xb2 := Xb.c2
          have xc0 := Xc.c0
          have xc1 := Xc.c1
          have xc2 := Xc.c2
          go_wp2_with fail
          refine (small_yes ⟨_, rfl, (Rb.below (by repeat (first | exact Below.refl _ _ | apply Below.draws | apply below_lit)))⟩ hsb).mono ?_
          rintro e u4 ⟨rfl, b⟩
          clear xa0 xa1 xa2 xb0 xb1 xb2 xc0 xc1 xc2
          have D : Below (World.heap u3 |>.size) u3 u4 := Below.next (by repeat (first | exact Below.refl _ _ | apply Below.draws | apply below_lit)) b
          have sD := D.size
          replace Ra := Ra.below D
          replace Rb := Rb.below D
          replace Rc := Rc.below D
          replace F := F.below D
          replace Xa := Xa.below la D
          replace la := Nat.lt_of_lt_of_le la sD
          replace Xb := Xb.below lb D
          replace lb := Nat.lt_of_lt_of_le lb sD
          replace Xc := Xc.below lc D
          replace lc := Nat.lt_of_lt_of_le lc sD
          replace B := Below.next B D
          clear b D sD
          have xa0 := Xa.c0
          have xa1 := Xa.c1
          have xa2 := Xa.c2
          have xb0 := Xb.c0
          have xb1 := Xb.c1
          have xb2 := Xb.c2
          have xc0 := Xc.c0
          have xc1 := Xc.c1
          have xc2 := Xc.c2
          go_wp2_with fail
          refine (small_yes ⟨_, rfl, (Rc.below (by repeat (first | exact Below.refl _ _ | apply Below.draws | apply below_lit)))⟩ hsc).mono ?_
          rintro e u5 ⟨rfl, b⟩
          clear xa0 xa1 xa2 xb0 xb1 xb2 xc0 xc1 xc2
          have D : Below (World.heap u4 |>.size) u4 u5 := Below.next (by repeat (first | exact Below.refl _ _ | apply Below.draws | apply below_lit)) b
          have sD := D.size
          replace Ra := Ra.below D
          replace Rb := Rb.below D
          replace Rc := Rc.below D
          replace F := F.below D
          replace Xa := Xa.below la D
          replace la := Nat.lt_of_lt_of_le la sD
          replace Xb := Xb.below lb D
          replace lb := Nat.lt_of_lt_of_le lb sD
          replace Xc := Xc.below lc D
          replace lc := Nat.lt_of_lt_of_le lc sD
          replace B := Below.next B D
          clear b D sD
          have xa0 := Xa.c0
          have xa1 := Xa.c1
          have xa2 := Xa.c2
          have xb0 := Xb.c0
          have xb1 := Xb.c1
          have xb2 := Xb.c2
          have xc0 := Xc.c0
          have xc1 := Xc.c1
          have xc2 := Xc.c2
          go_wp2
          go_ret
          exact ⟨rfl, Below.next B (by repeat (first | exact Below.refl _ _ | apply Below.draws | apply below_lit))⟩
      · go_enter Try.func4, Try.ntmps4
        have B : Below w.heap.size w w := Below.refl _ _
        go_wp2_with fail
        refine (awake3_any _).mono ?_
        rintro e u1 ⟨rfl, b⟩
        have D : Below w.heap.size w u1 := Below.next (by repeat (first | exact Below.refl _ _ | apply Below.draws | apply below_lit)) b
        have sD := D.size
        replace Ra := Ra.below D
        replace Rb := Rb.below D
        replace Rc := Rc.below D
        have Xa : Box u1 (w.heap.size) _ _ _ := Below.box b (by simp <;> omega) (by first | exact Box.new _ _ _ _ _ | exact (Box.new _ _ _ _ _).alloc (by simp) _ | exact ((Box.new _ _ _ _ _).alloc (by simp) _).alloc (by simp <;> omega) _ | exact Box.new1 _ _ _ _ _ _ | exact (Box.new1 _ _ _ _ _ _).alloc (by simp <;> omega) _ | exact Box.new2 _ _ _ _ _ _ _)
        have la : w.heap.size < u1.heap.size := by have := b.size; simp at this; omega
        have Xb : Box u1 (w.heap.size + 1) _ _ _ := Below.box b (by simp <;> omega) (by first | exact Box.new _ _ _ _ _ | exact (Box.new _ _ _ _ _).alloc (by simp) _ | exact ((Box.new _ _ _ _ _).alloc (by simp) _).alloc (by simp <;> omega) _ | exact Box.new1 _ _ _ _ _ _ | exact (Box.new1 _ _ _ _ _ _).alloc (by simp <;> omega) _ | exact Box.new2 _ _ _ _ _ _ _)
        have lb : w.heap.size + 1 < u1.heap.size := by have := b.size; simp at this; omega
        have Xc : Box u1 (w.heap.size + 1 + 1) _ _ _ := Below.box b (by simp <;> omega) (by first | exact Box.new _ _ _ _ _ | exact (Box.new _ _ _ _ _).alloc (by simp) _ | exact ((Box.new _ _ _ _ _).alloc (by simp) _).alloc (by simp <;> omega) _ | exact Box.new1 _ _ _ _ _ _ | exact (Box.new1 _ _ _ _ _ _).alloc (by simp <;> omega) _ | exact Box.new2 _ _ _ _ _ _ _)
        have lc : w.heap.size + 1 + 1 < u1.heap.size := by have := b.size; simp at this; omega
        replace B := Below.next B D
        clear b D sD
        have xa0 := Xa.c0
        have xa1 := Xa.c1
        have xa2 := Xa.c2
        have xb0 := Xb.c0
        have xb1 := Xb.c1
        have xb2 := Xb.c2
        have xc0 := Xc.c0
        have xc1 := Xc.c1
        have xc2 := Xc.c2
        go_wp2_with fail
        refine (new_any _).mono ?_
        rintro e u2 ⟨rfl, F, hO⟩
        have b := hO.below
        clear hO
        clear xa0 xa1 xa2 xb0 xb1 xb2 xc0 xc1 xc2
        have D : Below (World.heap u1 |>.size) u1 u2 := Below.next (by repeat (first | exact Below.refl _ _ | apply Below.draws | apply below_lit)) b
        have sD := D.size
        replace Ra := Ra.below D
        replace Rb := Rb.below D
        replace Rc := Rc.below D
        replace Xa := Xa.below la D
        replace la := Nat.lt_of_lt_of_le la sD
        replace Xb := Xb.below lb D
        replace lb := Nat.lt_of_lt_of_le lb sD
        replace Xc := Xc.below lc D
        replace lc := Nat.lt_of_lt_of_le lc sD
        replace B := Below.next B D
        clear b D sD
        have xa0 := Xa.c0
        have xa1 := Xa.c1
        have xa2 := Xa.c2
        have xb0 := Xb.c0
        have xb1 := Xb.c1
        have xb2 := Xb.c2
        have xc0 := Xc.c0
        have xc1 := Xc.c1
        have xc2 := Xc.c2
        go_wp2_with fail
        refine (small_yes ⟨_, rfl, (Ra.below (by repeat (first | exact Below.refl _ _ | apply Below.draws | apply below_lit)))⟩ hsa).mono ?_
        rintro e u3 ⟨rfl, b⟩
        clear xa0 xa1 xa2 xb0 xb1 xb2 xc0 xc1 xc2
        have D : Below (World.heap u2 |>.size) u2 u3 := Below.next (by repeat (first | exact Below.refl _ _ | apply Below.draws | apply below_lit)) b
        have sD := D.size
        replace Ra := Ra.below D
        replace Rb := Rb.below D
        replace Rc := Rc.below D
        replace F := F.below D
        replace Xa := Xa.below la D
        replace la := Nat.lt_of_lt_of_le la sD
        replace Xb := Xb.below lb D
        replace lb := Nat.lt_of_lt_of_le lb sD
        replace Xc := Xc.below lc D
        replace lc := Nat.lt_of_lt_of_le lc sD
        replace B := Below.next B D
        clear b D sD
        have xa0 := Xa.c0
        have xa1 := Xa.c1
        have xa2 := Xa.c2
        have xb0 := Xb.c0
        have xb1 := Xb.c1
        have xb2 := Xb.c2
        have xc0 := Xc.c0
        have xc1 := Xc.c1
        have xc2 := Xc.c2
        go_wp2_with fail
        refine (small_yes ⟨_, rfl, (Rb.below (by repeat (first | exact Below.refl _ _ | apply Below.draws | apply below_lit)))⟩ hsb).mono ?_
        rintro e u4 ⟨rfl, b⟩
        clear xa0 xa1 xa2 xb0 xb1 xb2 xc0 xc1 xc2
        have D : Below (World.heap u3 |>.size) u3 u4 := Below.next (by repeat (first | exact Below.refl _ _ | apply Below.draws | apply below_lit)) b
        have sD := D.size
        replace Ra := Ra.below D
        replace Rb := Rb.below D
        replace Rc := Rc.below D
        replace F := F.below D
        replace Xa := Xa.below la D
        replace la := Nat.lt_of_lt_of_le la sD
        replace Xb := Xb.below lb D
        replace lb := Nat.lt_of_lt_of_le lb sD
        replace Xc := Xc.below lc D
        replace lc := Nat.lt_of_lt_of_le lc sD
        replace B := Below.next B D
        clear b D sD
        have xa0 := Xa.c0
        have xa1 := Xa.c1
        have xa2 := Xa.c2
        have xb0 := Xb.c0
        have xb1 := Xb.c1
        have xb2 := Xb.c2
        have xc0 := Xc.c0
        have xc1 := Xc.c1
        have xc2 := Xc.c2
        go_wp2_with fail
        refine (small_no ⟨_, rfl, (Rc.below (by repeat (first | exact Below.refl _ _ | apply Below.draws | apply below_lit)))⟩ hsc).mono ?_
        rintro e u5 ⟨rfl, b⟩
        clear xa0 xa1 xa2 xb0 xb1 xb2 xc0 xc1 xc2
        have D : Below (World.heap u4 |>.size) u4 u5 := Below.next (by repeat (first | exact Below.refl _ _ | apply Below.draws | apply below_lit)) b
        have sD := D.size
        replace Ra := Ra.below D
        replace Rb := Rb.below D
        replace Rc := Rc.below D
        replace F := F.below D
        replace Xa := Xa.below la D
        replace la := Nat.lt_of_lt_of_le la sD
        replace Xb := Xb.below lb D
        replace lb := Nat.lt_of_lt_of_le lb sD
        replace Xc := Xc.below lc D
        replace lc := Nat.lt_of_lt_of_le lc sD
        replace B := Below.next B D
        clear b D sD
        have xa0 := Xa.c0
        have xa1 := Xa.c1
        have xa2 := Xa.c2
        have xb0 := Xb.c0
        have xb1 := Xb.c1
        have xb2 := Xb.c2
        have xc0 := Xc.c0
        have xc1 := Xc.c1
        have xc2 := Xc.c2
        go_wp2
        go_ret
        exact ⟨rfl, Below.next B (by repeat (first | exact Below.refl _ _ | apply Below.draws | apply below_lit))⟩
    · go_enter Try.func4, Try.ntmps4
      have B : Below w.heap.size w w := Below.refl _ _
      go_wp2_with fail
      refine (awake3_any _).mono ?_
      rintro e u1 ⟨rfl, b⟩
      have D : Below w.heap.size w u1 := Below.next (by repeat (first | exact Below.refl _ _ | apply Below.draws | apply below_lit)) b
      have sD := D.size
      replace Ra := Ra.below D
      replace Rb := Rb.below D
      replace Rc := Rc.below D
      have Xa : Box u1 (w.heap.size) _ _ _ := Below.box b (by simp <;> omega) (by first | exact Box.new _ _ _ _ _ | exact (Box.new _ _ _ _ _).alloc (by simp) _ | exact ((Box.new _ _ _ _ _).alloc (by simp) _).alloc (by simp <;> omega) _ | exact Box.new1 _ _ _ _ _ _ | exact (Box.new1 _ _ _ _ _ _).alloc (by simp <;> omega) _ | exact Box.new2 _ _ _ _ _ _ _)
      have la : w.heap.size < u1.heap.size := by have := b.size; simp at this; omega
      have Xb : Box u1 (w.heap.size + 1) _ _ _ := Below.box b (by simp <;> omega) (by first | exact Box.new _ _ _ _ _ | exact (Box.new _ _ _ _ _).alloc (by simp) _ | exact ((Box.new _ _ _ _ _).alloc (by simp) _).alloc (by simp <;> omega) _ | exact Box.new1 _ _ _ _ _ _ | exact (Box.new1 _ _ _ _ _ _).alloc (by simp <;> omega) _ | exact Box.new2 _ _ _ _ _ _ _)
      have lb : w.heap.size + 1 < u1.heap.size := by have := b.size; simp at this; omega
      have Xc : Box u1 (w.heap.size + 1 + 1) _ _ _ := Below.box b (by simp <;> omega) (by first | exact Box.new _ _ _ _ _ | exact (Box.new _ _ _ _ _).alloc (by simp) _ | exact ((Box.new _ _ _ _ _).alloc (by simp) _).alloc (by simp <;> omega) _ | exact Box.new1 _ _ _ _ _ _ | exact (Box.new1 _ _ _ _ _ _).alloc (by simp <;> omega) _ | exact Box.new2 _ _ _ _ _ _ _)
      have lc : w.heap.size + 1 + 1 < u1.heap.size := by have := b.size; simp at this; omega
      replace B := Below.next B D
      clear b D sD
      have xa0 := Xa.c0
      have xa1 := Xa.c1
      have xa2 := Xa.c2
      have xb0 := Xb.c0
      have xb1 := Xb.c1
      have xb2 := Xb.c2
      have xc0 := Xc.c0
      have xc1 := Xc.c1
      have xc2 := Xc.c2
      go_wp2_with fail
      refine (new_any _).mono ?_
      rintro e u2 ⟨rfl, F, hO⟩
      have b := hO.below
      clear hO
      clear xa0 xa1 xa2 xb0 xb1 xb2 xc0 xc1 xc2
      have D : Below (World.heap u1 |>.size) u1 u2 := Below.next (by repeat (first | exact Below.refl _ _ | apply Below.draws | apply below_lit)) b
      have sD := D.size
      replace Ra := Ra.below D
      replace Rb := Rb.below D
      replace Rc := Rc.below D
      replace Xa := Xa.below la D
      replace la := Nat.lt_of_lt_of_le la sD
      replace Xb := Xb.below lb D
      replace lb := Nat.lt_of_lt_of_le lb sD
      replace Xc := Xc.below lc D
      replace lc := Nat.lt_of_lt_of_le lc sD
      replace B := Below.next B D
      clear b D sD
      have xa0 := Xa.c0
      have xa1 := Xa.c1
      have xa2 := Xa.c2
      have xb0 := Xb.c0
      have xb1 := Xb.c1
      have xb2 := Xb.c2
      have xc0 := Xc.c0
      have xc1 := Xc.c1
      have xc2 := Xc.c2
      go_wp2_with fail
      refine (small_yes ⟨_, rfl, (Ra.below (by repeat (first | exact Below.refl _ _ | apply Below.draws | apply below_lit)))⟩ hsa).mono ?_
      rintro e u3 ⟨rfl, b⟩
      clear xa0 xa1 xa2 xb0 xb1 xb2 xc0 xc1 xc2
      have D : Below (World.heap u2 |>.size) u2 u3 := Below.next (by repeat (first | exact Below.refl _ _ | apply Below.draws | apply below_lit)) b
      have sD := D.size
      replace Ra := Ra.below D
      replace Rb := Rb.below D
      replace Rc := Rc.below D
      replace F := F.below D
      replace Xa := Xa.below la D
      replace la := Nat.lt_of_lt_of_le la sD
      replace Xb := Xb.below lb D
      replace lb := Nat.lt_of_lt_of_le lb sD
      replace Xc := Xc.below lc D
      replace lc := Nat.lt_of_lt_of_le lc sD
      replace B := Below.next B D
      clear b D sD
      have xa0 := Xa.c0
      have xa1 := Xa.c1
      have xa2 := Xa.c2
      have xb0 := Xb.c0
      have xb1 := Xb.c1
      have xb2 := Xb.c2
      have xc0 := Xc.c0
      have xc1 := Xc.c1
      have xc2 := Xc.c2
      go_wp2_with fail
      refine (small_no ⟨_, rfl, (Rb.below (by repeat (first | exact Below.refl _ _ | apply Below.draws | apply below_lit)))⟩ hsb).mono ?_
      rintro e u4 ⟨rfl, b⟩
      clear xa0 xa1 xa2 xb0 xb1 xb2 xc0 xc1 xc2
      have D : Below (World.heap u3 |>.size) u3 u4 := Below.next (by repeat (first | exact Below.refl _ _ | apply Below.draws | apply below_lit)) b
      have sD := D.size
      replace Ra := Ra.below D
      replace Rb := Rb.below D
      replace Rc := Rc.below D
      replace F := F.below D
      replace Xa := Xa.below la D
      replace la := Nat.lt_of_lt_of_le la sD
      replace Xb := Xb.below lb D
      replace lb := Nat.lt_of_lt_of_le lb sD
      replace Xc := Xc.below lc D
      replace lc := Nat.lt_of_lt_of_le lc sD
      replace B := Below.next B D
      clear b D sD
      have xa0 := Xa.c0
      have xa1 := Xa.c1
      have xa2 := Xa.c2
      have xb0 := Xb.c0
      have xb1 := Xb.c1
      have xb2 := Xb.c2
      have xc0 := Xc.c0
      have xc1 := Xc.c1
      have xc2 := Xc.c2
      go_wp2
      go_ret
      exact ⟨rfl, Below.next B (by repeat (first | exact Below.refl _ _ | apply Below.draws | apply below_lit))⟩
  · go_enter Try.func4, Try.ntmps4
    have B : Below w.heap.size w w := Below.refl _ _
    go_wp2_with fail
    refine (awake3_any _).mono ?_
    rintro e u1 ⟨rfl, b⟩
    have D : Below w.heap.size w u1 := Below.next (by repeat (first | exact Below.refl _ _ | apply Below.draws | apply below_lit)) b
    have sD := D.size
    replace Ra := Ra.below D
    replace Rb := Rb.below D
    replace Rc := Rc.below D
    have Xa : Box u1 (w.heap.size) _ _ _ := Below.box b (by simp <;> omega) (by first | exact Box.new _ _ _ _ _ | exact (Box.new _ _ _ _ _).alloc (by simp) _ | exact ((Box.new _ _ _ _ _).alloc (by simp) _).alloc (by simp <;> omega) _ | exact Box.new1 _ _ _ _ _ _ | exact (Box.new1 _ _ _ _ _ _).alloc (by simp <;> omega) _ | exact Box.new2 _ _ _ _ _ _ _)
    have la : w.heap.size < u1.heap.size := by have := b.size; simp at this; omega
    have Xb : Box u1 (w.heap.size + 1) _ _ _ := Below.box b (by simp <;> omega) (by first | exact Box.new _ _ _ _ _ | exact (Box.new _ _ _ _ _).alloc (by simp) _ | exact ((Box.new _ _ _ _ _).alloc (by simp) _).alloc (by simp <;> omega) _ | exact Box.new1 _ _ _ _ _ _ | exact (Box.new1 _ _ _ _ _ _).alloc (by simp <;> omega) _ | exact Box.new2 _ _ _ _ _ _ _)
    have lb : w.heap.size + 1 < u1.heap.size := by have := b.size; simp at this; omega
    have Xc : Box u1 (w.heap.size + 1 + 1) _ _ _ := Below.box b (by simp <;> omega) (by first | exact Box.new _ _ _ _ _ | exact (Box.new _ _ _ _ _).alloc (by simp) _ | exact ((Box.new _ _ _ _ _).alloc (by simp) _).alloc (by simp <;> omega) _ | exact Box.new1 _ _ _ _ _ _ | exact (Box.new1 _ _ _ _ _ _).alloc (by simp <;> omega) _ | exact Box.new2 _ _ _ _ _ _ _)
    have lc : w.heap.size + 1 + 1 < u1.heap.size := by have := b.size; simp at this; omega
    replace B := Below.next B D
    clear b D sD
    have xa0 := Xa.c0
    have xa1 := Xa.c1
    have xa2 := Xa.c2
    have xb0 := Xb.c0
    have xb1 := Xb.c1
    have xb2 := Xb.c2
    have xc0 := Xc.c0
    have xc1 := Xc.c1
    have xc2 := Xc.c2
    go_wp2_with fail
    refine (new_any _).mono ?_
    rintro e u2 ⟨rfl, F, hO⟩
    have b := hO.below
    clear hO
    clear xa0 xa1 xa2 xb0 xb1 xb2 xc0 xc1 xc2
    have D : Below (World.heap u1 |>.size) u1 u2 := Below.next (by repeat (first | exact Below.refl _ _ | apply Below.draws | apply below_lit)) b
    have sD := D.size
    replace Ra := Ra.below D
    replace Rb := Rb.below D
    replace Rc := Rc.below D
    replace Xa := Xa.below la D
    replace la := Nat.lt_of_lt_of_le la sD
    replace Xb := Xb.below lb D
    replace lb := Nat.lt_of_lt_of_le lb sD
    replace Xc := Xc.below lc D
    replace lc := Nat.lt_of_lt_of_le lc sD
    replace B := Below.next B D
    clear b D sD
    have xa0 := Xa.c0
    have xa1 := Xa.c1
    have xa2 := Xa.c2
    have xb0 := Xb.c0
    have xb1 := Xb.c1
    have xb2 := Xb.c2
    have xc0 := Xc.c0
    have xc1 := Xc.c1
    have xc2 := Xc.c2
    go_wp2_with fail
    refine (small_no ⟨_, rfl, (Ra.below (by repeat (first | exact Below.refl _ _ | apply Below.draws | apply below_lit)))⟩ hsa).mono ?_
    rintro e u3 ⟨rfl, b⟩
    clear xa0 xa1 xa2 xb0 xb1 xb2 xc0 xc1 xc2
    have D : Below (World.heap u2 |>.size) u2 u3 := Below.next (by repeat (first | exact Below.refl _ _ | apply Below.draws | apply below_lit)) b
    have sD := D.size
    replace Ra := Ra.below D
    replace Rb := Rb.below D
    replace Rc := Rc.below D
    replace F := F.below D
    replace Xa := Xa.below la D
    replace la := Nat.lt_of_lt_of_le la sD
    replace Xb := Xb.below lb D
    replace lb := Nat.lt_of_lt_of_le lb sD
    replace Xc := Xc.below lc D
    replace lc := Nat.lt_of_lt_of_le lc sD
    replace B := Below.next B D
    clear b D sD
    have xa0 := Xa.c0
    have xa1 := Xa.c1
    have xa2 := Xa.c2
    have xb0 := Xb.c0
    have xb1 := Xb.c1
    have xb2 := Xb.c2
    have xc0 := Xc.c0
    have xc1 := Xc.c1
    have xc2 := Xc.c2
    go_wp2
    go_ret
    exact ⟨rfl, Below.next B (by repeat (first | exact Below.refl _ _ | apply Below.draws | apply below_lit))⟩

/-! ### THE ROW's STEP: WRITTEN OUT: LEAVE IT -/
set_option maxRecDepth 100000 in
set_option maxHeartbeats 2000000 in
theorem lifted (os : Os) (started : os.Started) (H : Type) (enc : TypeId × Value → H) :
    ReturnsInHanded {} Try.checked os 4 .any (Rows.matrixSumsSpec.pre6 enc Try.prog Try.f4 Rows.matrixSumsRow.domain false) (Rows.matrixSumsSpec.post enc Try.prog Try.f4 false true false false) := by
  refine returnsInHanded_of_change (C := Try.checked) own started (by kernel_rfl) Try.func4
    (ChangeSpec.witness6 (enc := enc) (C := Try.checked) false ⟨#[], #[.agg #[.int .i64 0, .int .i64 0, .slice none 0 0], .agg #[.int .i64 0, .int .i64 0, .slice none 0 0], .agg #[.int .i64 0, .int .i64 0, .slice none 0 0]], []⟩ 8 (by kernel_rfl) (by kernel_rfl) (by kernel_rfl) (by kernel_rfl)) ?_
  intro W base args ds gs before hval0 hW hcnd _
  have hval : ∀ (j : Nat) t v, Try.f4.params[j]? = some t → args[j]? = some v → Value.okWide Try.prog W .any base t v := hval0
  have hW' := hW
  obtain ⟨p, q, hA0, hV, rfl, hfz, hnd⟩ := hW
  have hA : DataW.TrodAll enc Try.prog W 0 (fun _ => true) true Try.f4.params.toList args.toList ds p := hA0
  rw [Try.params4] at hA hval
  obtain ⟨v0, vs0, d0, ds0, p0, q0, hargs, rfl, rfl, h0, r0⟩ := trodAll_cons hA
  obtain ⟨v1, vs1, d1, ds1, p1, q1, rfl, rfl, rfl, h1, r1⟩ := trodAll_cons r0
  obtain ⟨v2, vs2, d2, ds2, p2, q2, rfl, rfl, rfl, h2, r2⟩ := trodAll_cons r1
  obtain ⟨rfl, rfl, rfl⟩ := trodAll_nil r2
  obtain rfl : args = #[v0, v1, v2] := by cases args; simp_all
  obtain ⟨rfl, rfl⟩ := trodVars_none hV
  have k0 := h0
  have lt0 : ∀ x ∈ p0, x.block < W.heap.size := by obtain ⟨m, hm⟩ := k0; exact DataW.trod_lt m _ _ _ hm
  obtain ⟨x00, x01, x02, y00, y01, y02, m0, rfl, rfl, rfl, hy00, hy01, hy02⟩ := Go.Joins.open_agg3 Try.underlying24 (by kernel_rfl) (by kernel_rfl) (hval 0 24 v0 rfl rfl) h0
  obtain ⟨mr0, e00, f00, wr0⟩ := DataW.trod_int Try.underlying3 hy00
  obtain ⟨mc0, e01, f01, wc0⟩ := DataW.trod_int Try.underlying3 hy01
  obtain ⟨a0, len0, cap0, z0, e02, w0⟩ : ∃ a len cap zs, x02 = .slice a len cap ∧ IsRow .u8 W a len cap zs := by
    rcases open_ints Try.underlying22 Try.underlying5 (by kernel_rfl) hy02 with ⟨hcs, _⟩ | ⟨x, l, c, zs, hcs, _, hl, hm, hz, _, hcell, hwz⟩
    · simp at hcs
      exact ⟨none, 0, 0, [], hcs, .inl ⟨rfl, rfl, rfl, rfl⟩⟩
    · simp at hcs
      exact ⟨_, _, _, zs, hcs, .inr ⟨_, rfl, hl, hm, by simpa using hz, hcell, hwz⟩⟩
  simp at e00 e01
  subst e00 e01 e02
  have k1 := h1
  have lt1 : ∀ x ∈ p1, x.block < W.heap.size := by obtain ⟨m, hm⟩ := k1; exact DataW.trod_lt m _ _ _ hm
  obtain ⟨x10, x11, x12, y10, y11, y12, m1, rfl, rfl, rfl, hy10, hy11, hy12⟩ := Go.Joins.open_agg3 Try.underlying24 (by kernel_rfl) (by kernel_rfl) (hval 1 24 v1 rfl rfl) h1
  obtain ⟨mr1, e10, f10, wr1⟩ := DataW.trod_int Try.underlying3 hy10
  obtain ⟨mc1, e11, f11, wc1⟩ := DataW.trod_int Try.underlying3 hy11
  obtain ⟨a1, len1, cap1, z1, e12, w1⟩ : ∃ a len cap zs, x12 = .slice a len cap ∧ IsRow .u8 W a len cap zs := by
    rcases open_ints Try.underlying22 Try.underlying5 (by kernel_rfl) hy12 with ⟨hcs, _⟩ | ⟨x, l, c, zs, hcs, _, hl, hm, hz, _, hcell, hwz⟩
    · simp at hcs
      exact ⟨none, 0, 0, [], hcs, .inl ⟨rfl, rfl, rfl, rfl⟩⟩
    · simp at hcs
      exact ⟨_, _, _, zs, hcs, .inr ⟨_, rfl, hl, hm, by simpa using hz, hcell, hwz⟩⟩
  simp at e10 e11
  subst e10 e11 e12
  have k2 := h2
  have lt2 : ∀ x ∈ p2, x.block < W.heap.size := by obtain ⟨m, hm⟩ := k2; exact DataW.trod_lt m _ _ _ hm
  obtain ⟨x20, x21, x22, y20, y21, y22, m2, rfl, rfl, rfl, hy20, hy21, hy22⟩ := Go.Joins.open_agg3 Try.underlying24 (by kernel_rfl) (by kernel_rfl) (hval 2 24 v2 rfl rfl) h2
  obtain ⟨mr2, e20, f20, wr2⟩ := DataW.trod_int Try.underlying3 hy20
  obtain ⟨mc2, e21, f21, wc2⟩ := DataW.trod_int Try.underlying3 hy21
  obtain ⟨a2, len2, cap2, z2, e22, w2⟩ : ∃ a len cap zs, x22 = .slice a len cap ∧ IsRow .u8 W a len cap zs := by
    rcases open_ints Try.underlying22 Try.underlying5 (by kernel_rfl) hy22 with ⟨hcs, _⟩ | ⟨x, l, c, zs, hcs, _, hl, hm, hz, _, hcell, hwz⟩
    · simp at hcs
      exact ⟨none, 0, 0, [], hcs, .inl ⟨rfl, rfl, rfl, rfl⟩⟩
    · simp at hcs
      exact ⟨_, _, _, zs, hcs, .inr ⟨_, rfl, hl, hm, by simpa using hz, hcell, hwz⟩⟩
  simp at e20 e21
  subst e20 e21 e22
  clear hA0 hval0
  refine (walk mr0 mc0 a0 len0 cap0 z0 mr1 mc1 a1 len1 cap1 z1 mr2 mc2 a2 len2 cap2 z2 W wr0 wc0 w0 wr1 wc1 w1 wr2 wc2 w2).mono fun e W' ⟨he, bel⟩ => ?_
  subst he
  exact ⟨_, rfl, _, _, _, [], _, [], hW', trodAll_mk1 (shut_bool Try.underlying4 _), (trodAll_cons_mk (Below.trod laidOut (by kernel_rfl) (of_decide_eq_true (by kernel_rfl)) k0 bel lt0) (trodAll_cons_mk (Below.trod laidOut (by kernel_rfl) (of_decide_eq_true (by kernel_rfl)) k1 bel lt1) (trodAll_cons_mk (Below.trod laidOut (by kernel_rfl) (of_decide_eq_true (by kernel_rfl)) k2 bel lt2) trodAll_mk0))), rfl, bel.frame _, fun h => by cases h⟩

theorem over : Rows.matrixSumsRow.holds Try.pinned (OpenSpec.ofChange Rows.matrixSumsSpec) :=
  OpenClaim.holds_of_wide 4 Try.f4 rfl rfl rfl rfl rfl rfl rfl ⟨rfl, rfl, rfl, rfl, rfl⟩ rfl rfl rfl rfl rfl (by kernel_rfl) Try.func4 (by kernel_rfl)
    (of_decide_eq_true (by kernel_rfl)) (by unfold Func.isWrapper; first | (rw [if_pos (by decide +kernel)]; kernel_rfl) | (rw [if_neg (by decide +kernel)]; exact ⟨rfl, rfl⟩))
    (fun os started H enc _ => lifted os started H enc)

/-- ████ THE STATEMENT ████ -/
theorem proved : Rows.MatrixSumsSaid := over
end Go.Proofs.Ytljbecalobnkbab.matrixSums
namespace Go.Proofs.Ytljbecalobnkbab
theorem matrixSums_holds : Rows.MatrixSumsSaid := matrixSums.proved
#print axioms matrixSums_holds
end Go.Proofs.Ytljbecalobnkbab
