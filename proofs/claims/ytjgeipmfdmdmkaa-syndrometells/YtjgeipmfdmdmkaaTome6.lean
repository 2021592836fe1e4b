/- TEXTS JOINED: BkEq, BkCC, BkEnc, SyHelp, SyAwake. -/
import Derived.Test.YtjgeipmfdmdmkaaTome3
import Derived.Laws.BytesArg
import Derived.Test.YtjgeipmfdmdmkaaTome5
import Derived.Deep.RegionHeld3
import Derived.Test.YtjgeipmfdmdmkaaTome1
/-
  'bytes.Equal' BY CONTRACT, AND 'slices.EqualFunc' OF IT.
-/

namespace Go.Proofs.Ytjgeipmfdmdmkaa.Gf
set_option linter.unusedVariables false
set_option linter.unusedSimpArgs false
open Go.RowKit

theorem conv_str {w : World} {v : Value} {p : List UInt8} (h : Rd w v p) : Sem.run Try.prog (convert 22 9 v) w = .ok (.string ⟨p.toArray⟩) w := by
  rcases h with ⟨a, c, rfl, rfl, _⟩ | ⟨b, off, cap, hp0, rfl, h1, h2, h3, hpc⟩
  · rcases a with _ | a
    · kernel_rfl
    · kernel_rfl
  · rw [run_convert_bytes_arg (P := Try.prog) w 22 5 Try.underlying22 Try.underlying5 b off p.length cap (p.map fun x => ((x.toNat : Nat) : Int)) (by simp) (fun i hi => by rw [hpc i hi, co_lt hi]; simp [List.getD, hi]) 9 Try.underlying9]
    unfold strOfNums
    congr 4
    rw [List.map_map]
    conv => rhs; rw [← List.map_id p]
    apply List.map_congr_left
    intro b _
    simp

set_option maxRecDepth 100000 in
set_option maxHeartbeats 1000000 in
theorem beq_any {va vb : Value} {p q : List UInt8} {w : World} (hp : Rd w va p) (hq : Rd w vb q) : Calls Try.prog 34 #[va, vb] w fun e w' => e = .returned (.bool (sameB p q)) ∧ w' = w := by
  have h1 := conv_str hp
  have h2 := conv_str hq
  obtain ⟨a, c, rfl⟩ := hp.form
  obtain ⟨a', c', rfl⟩ := hq.form
  clear hp hq
  go_enter Try.func34, Try.ntmps34
  go_wp2
  go_ret
  have e : (p == q) = sameB p q := by unfold sameB; rw [Bool.eq_iff_iff]; simp
  exact ⟨congrArg (fun b => Ending.returned (.bool b)) e, rfl⟩

set_option maxRecDepth 100000 in
set_option maxHeartbeats 1000000 in
theorem eqf_any {va vb : Value} {A B : List (List UInt8)} {w : World} (hA : Rs w va A) (hB : Rs w vb B) : Calls Try.prog 33 #[va, vb, .func (.func 34) #[] #[]] w fun e w' => e = .returned (.bool (sameL A B)) ∧ w' = w := by
  obtain ⟨a, c, rfl⟩ := hA.form
  obtain ⟨a', c', rfl⟩ := hB.form
  have hl := hA.len
  unfold maxLen at hl
  by_cases hx : A.length = B.length
  · have hb : ((A.length : Int) != (B.length : Int)) = false := by simp [hx]
    have hx' : Hid (A.length = B.length) := hx
    clear hx
    go_enter Try.func33, Try.ntmps33
    go_wp2
    clear hb
    go_loopw [17] (fun i wr => ∃ k : Nat, k ≤ A.length ∧ i = .int .i64 k ∧ Hid (∀ j, j < k → ro A j = ro B j) ∧ wr = w) (fun i _ => A.length - (intOf i).toNat)
    case atStart => exact ⟨0, by omega, rfl, fun j hj => by omega, rfl⟩
    case round =>
      obtain ⟨k, hk, rfl, hs, rfl⟩ := hrel
      by_cases hlt : k < A.length
      · have hltB : k < B.length := by have := hx'.out; omega
        obtain ⟨b, off, xa, xc, rfl, hb, c1, r1⟩ := hA.at hlt
        obtain ⟨b', off', ya, yc, rfl, hb', c0, r0⟩ := hB.at hltB
        have hlt' : (k : Int) < (A.length : Int) := by omega
        have h0' : (k : Int) < (B.length : Int) := by omega
        by_cases e : ro A k = ro B k
        · have hn : sameB (ro A k) (ro B k) = true := sameB_of e
          have HS : Hid (∀ j, j < k + 1 → ro A j = ro B j) := fun j hj => by
            by_cases e2 : j = k
            · rw [e2]; exact e
            · exact hs.out j (by omega)
          clear e hs hA hB
          go_wp2_with fail
          refine (beq_any r1 r0).mono ?_
          rintro e w' ⟨rfl, rfl⟩
          go_wp2
          go_roundw
          case rel => exact ⟨k + 1, by omega, by go_num, HS, by first | rfl | trivial⟩
          case measure => simp [intOf]; omega
        · have hn : sameB (ro A k) (ro B k) = false := decide_eq_false e
          have E : Hid (sameL A B = false) := decide_eq_false fun h => e (by rw [h])
          clear e hs hA hB
          go_wp2_with fail
          refine (beq_any r1 r0).mono ?_
          rintro e w' ⟨rfl, rfl⟩
          go_wp2
          go_ret
          exact ⟨by rw [E.out]; rfl, rfl⟩
      · have E : Hid (sameL A B = true) := decide_eq_true (ro_ext hx'.out fun i hi => hs.out i (by omega))
        have hge : ¬ (k : Int) < (A.length : Int) := by omega
        clear hs hA hB
        go_wp2
        go_ret
        exact ⟨by rw [E.out]; rfl, rfl⟩
  · have hb : ((A.length : Int) != (B.length : Int)) = true := by simp; omega
    have E : Hid (sameL A B = false) := decide_eq_false fun h => hx (by rw [h])
    clear hA hB hx
    go_enter Try.func33, Try.ntmps33
    go_wp2
    go_ret
    exact ⟨by rw [E.out]; rfl, rfl⟩

end Go.Proofs.Ytjgeipmfdmdmkaa.Gf

/-
  THE PROGRAM's 'checked' BY CONTRACT.
-/


namespace Go.Proofs.Ytjgeipmfdmdmkaa.Gf
set_option linter.unusedVariables false
set_option linter.unusedSimpArgs false
open Go.RowKit

set_option maxRecDepth 100000 in
set_option maxHeartbeats 1000000 in
theorem chkd_bad {b : Nat} {k m many : Int} {v vo : Value} {w : World} (hF : FieldAt w b) (h : ¬ OkC k m) : Calls Try.prog 31 #[.pointer (some ⟨b, 0, none⟩), .int .i64 k, .int .i64 m, .int .i64 many, v, vo] w (MakesErr w 50) := by
  go_enter Try.func31, Try.ntmps31
  have A0 : Below w.heap.size w (w.alloc (.cells #[.int .i64 0, .int .i64 0, .slice none 0 0] 60)) := (Below.refl _ _).alloc (Nat.le_refl _) _
  go_wp2_with fail
  refine (cpar_bad (hF.below A0) h).mono ?_
  rintro e w2 ⟨vs, rfl, hR, b2⟩
  have X3 : Box w2 w.heap.size 0 0 (.slice none 0 0) := Below.box b2 (by simp <;> omega) (Box.new w 0 0 (.slice none 0 0) 60)
  have F3 : Free w2 w.heap.size := Below.free b2 (by simp <;> omega) (Free.new w #[.int .i64 0, .int .i64 0, .slice none 0 0] 60)
  have hs2 : w.heap.size < w2.heap.size := by have := b2.size; simp at this; omega
  have B2 : Below w.heap.size w w2 := Below.next A0 b2
  obtain ⟨va, vc, rfl⟩ := hR.form
  clear h hF A0 b2 hR
  have x30 := X3.c0
  have x31 := X3.c1
  have x32 := X3.c2
  have f30 := F3.f0
  have f31 := F3.f1
  have f32 := F3.f2
  go_wp2
  refine bodyPost_ret (v := .tuple #[.agg #[.int .i64 0, .int .i64 0, .slice none 0 0], .int .i64 50]) (by simp [results, Try.results31, go_sem, x30, x31, x32, f30, f31, f32, hs2]) rfl ⟨_, rfl, rd_none, by repeat (first | exact B2 | exact Below.refl _ _ | apply below_lit | refine Below.setCell ?_ (by first | omega | exact Nat.le_refl _) _)⟩

/-- the shards are as many as there should be, and of one length -/
def OkS (A B : List (List UInt8)) (many : Int) : Prop := (A.length : Int) = many ∧ Even (A ++ B)

set_option maxRecDepth 100000 in
set_option maxHeartbeats 1000000 in
theorem chkd_shard {b : Nat} {k m : Nat} {many : Int} {v vo : Value} {A B : List (List UInt8)} {w : World} (hF : FieldAt w b) (h1 : 1 ≤ k) (h2 : k + m ≤ 256) (hA : Rs w v A) (hB : Rs w vo B) (h : ¬ OkS A B many) {x y : Int} (hx : x = (k : Int)) (hy : y = (m : Int)) :
    Calls Try.prog 31 #[.pointer (some ⟨b, 0, none⟩), .int .i64 x, .int .i64 y, .int .i64 many, v, vo] w (MakesErr w 60) := by
  subst hx hy
  obtain ⟨a1, c1, rfl⟩ := hA.form
  obtain ⟨a2, c2, rfl⟩ := hB.form
  go_enter Try.func31, Try.ntmps31
  have A0 : Below w.heap.size w (w.alloc (.cells #[.int .i64 0, .int .i64 0, .slice none 0 0] 60)) := (Below.refl _ _).alloc (Nat.le_refl _) _
  go_wp2_with fail
  refine (cpar_ok k m (hF.below A0) h1 h2 rfl rfl).mono ?_
  rintro e w2 ⟨vs, rfl, hR, b2⟩
  have X3 : Box w2 w.heap.size 0 0 (.slice none 0 0) := Below.box b2 (by simp <;> omega) (Box.new w 0 0 (.slice none 0 0) 60)
  have F3 : Free w2 w.heap.size := Below.free b2 (by simp <;> omega) (Free.new w #[.int .i64 0, .int .i64 0, .slice none 0 0] 60)
  have hs2 : w.heap.size < w2.heap.size := by have := b2.size; simp at this; omega
  have B2 : Below w.heap.size w w2 := Below.next A0 b2
  have hA2 := hA.below B2
  have hB2 := hB.below B2
  obtain ⟨va, vc, rfl⟩ := hR.form
  clear hF A0 b2 hR hA hB
  have x30 := X3.c0
  have x31 := X3.c1
  have x32 := X3.c2
  have f30 := F3.f0
  have f31 := F3.f1
  have f32 := F3.f2
  by_cases hm : (A.length : Int) = many
  · have hE : Hid (decide (Even (A ++ B)) = false) := decide_eq_false fun he => h ⟨hm, he⟩
    have hb : ((A.length : Int) != many) = false := by simp [hm]
    have hm' : Hid _ := hm
    clear h hm
    go_wp2_with fail
    refine (one_any (A := A) (B := B) (hA2.below (by repeat (first | exact Below.refl _ _ | apply below_lit))) (hB2.below (by repeat (first | exact Below.refl _ _ | apply below_lit))) (by simp) (by simp)).mono ?_
    rintro e w3 ⟨rfl, rfl⟩
    rw [hE.out]
    clear hA2 hB2
    go_wp2
    refine bodyPost_ret (v := .tuple #[.agg #[.int .i64 0, .int .i64 0, .slice none 0 0], .int .i64 60]) (by simp [results, Try.results31, go_sem, x30, x31, x32, f30, f31, f32, hs2]) rfl ⟨_, rfl, rd_none, by repeat (first | exact B2 | exact Below.refl _ _ | apply below_lit | refine Below.setCell ?_ (by first | omega | exact Nat.le_refl _) _)⟩
  · have hb : ((A.length : Int) != many) = true := by simp [hm]
    clear h hm hA2 hB2
    go_wp2
    refine bodyPost_ret (v := .tuple #[.agg #[.int .i64 0, .int .i64 0, .slice none 0 0], .int .i64 60]) (by simp [results, Try.results31, go_sem, x30, x31, x32, f30, f31, f32, hs2]) rfl ⟨_, rfl, rd_none, by repeat (first | exact B2 | exact Below.refl _ _ | apply below_lit | refine Below.setCell ?_ (by first | omega | exact Nat.le_refl _) _)⟩

set_option maxRecDepth 100000 in
set_option maxHeartbeats 1000000 in
theorem chkd_ok {b : Nat} {k m : Nat} {many : Int} {v vo : Value} {A B : List (List UInt8)} {w : World} (hF : FieldAt w b) (h1 : 1 ≤ k) (h2 : k + m ≤ 256) (hA : Rs w v A) (hB : Rs w vo B) (h : OkS A B many) {x y : Int} (hx : x = (k : Int)) (hy : y = (m : Int)) :
    Calls Try.prog 31 #[.pointer (some ⟨b, 0, none⟩), .int .i64 x, .int .i64 y, .int .i64 many, v, vo] w (MakesM w m k (parF k)) := by
  subst hx hy
  obtain ⟨a1, c1, rfl⟩ := hA.form
  obtain ⟨a2, c2, rfl⟩ := hB.form
  go_enter Try.func31, Try.ntmps31
  have A0 : Below w.heap.size w (w.alloc (.cells #[.int .i64 0, .int .i64 0, .slice none 0 0] 60)) := (Below.refl _ _).alloc (Nat.le_refl _) _
  go_wp2_with fail
  refine (cpar_at k m (hF.below A0) h1 h2 rfl rfl).mono ?_
  rintro e w2 ⟨g, M, rfl, hg, hR, b2⟩
  simp at hg
  have X3 : Box w2 w.heap.size 0 0 (.slice none 0 0) := Below.box b2 (by simp <;> omega) (Box.new w 0 0 (.slice none 0 0) 60)
  have F3 : Free w2 w.heap.size := Below.free b2 (by simp <;> omega) (Free.new w #[.int .i64 0, .int .i64 0, .slice none 0 0] 60)
  have hs2 : w.heap.size < w2.heap.size := by have := b2.size; simp at this; omega
  have B2 : Below w.heap.size w w2 := Below.next A0 b2
  have hA2 := hA.below B2
  have hB2 := hB.below B2
  clear hF A0 b2 hA hB
  have x30 := X3.c0
  have x31 := X3.c1
  have x32 := X3.c2
  have f30 := F3.f0
  have f31 := F3.f1
  have f32 := F3.f2
  have hE : Hid (decide (Even (A ++ B)) = true) := decide_eq_true h.2
  have hb : ((A.length : Int) != many) = false := by simp [h.1]
  clear h
  go_wp2_with fail
  refine (one_any (A := A) (B := B) (hA2.below (by repeat (first | exact Below.refl _ _ | apply below_lit))) (hB2.below (by repeat (first | exact Below.refl _ _ | apply below_lit))) (by simp) (by simp)).mono ?_
  rintro e w3 ⟨rfl, rfl⟩
  rw [hE.out]
  clear hA2 hB2
  go_wp2
  have O1 : Only w.heap.size w2 (((w2.setCell ⟨w.heap.size, 0, none⟩ (.int .i64 (m : Int))).setCell ⟨w.heap.size, 1, none⟩ (.int .i64 (k : Int))).setCell ⟨w.heap.size, 2, none⟩ (.slice (some ⟨g, 0, none⟩) M M)) :=
    (((Only.refl _ _).setCell 0 _).setCell 1 _).setCell 2 _
  have R2 := hR.only (apart_block (g := w.heap.size) (by omega)) O1
  have B3 := B2.trans (O1.below (Nat.le_refl _))
  have s3 := O1.size
  refine bodyPost_ret (v := .tuple #[.agg #[.int .i64 (m : Int), .int .i64 (k : Int), .slice (some ⟨g, 0, none⟩) M M], .int .i64 0]) (by simp [results, Try.results31, go_sem, x30, x31, x32, f30, f31, f32, hs2]) rfl ⟨_, rfl, R2.below (by repeat (first | exact Below.refl _ _ | apply below_lit)), by repeat (first | exact B3 | apply below_lit)⟩

end Go.Proofs.Ytjgeipmfdmdmkaa.Gf

/-
  THE PROGRAM's 'Encode' AND 'Fits' BY CONTRACT.
-/


namespace Go.Proofs.Ytjgeipmfdmdmkaa.Gf
set_option linter.unusedVariables false
set_option linter.unusedSimpArgs false
open Go.RowKit

set_option maxRecDepth 100000 in
set_option maxHeartbeats 1000000 in
theorem enc_err {b : Nat} {k m X : Int} {v : Value} {w : World} (hX : X ≠ 0) (hC : Calls Try.prog 31 #[.pointer (some ⟨b, 0, none⟩), .int .i64 k, .int .i64 m, .int .i64 k, v, .slice none 0 0] w (MakesErr w X)) :
    Calls Try.prog 17 #[.pointer (some ⟨b, 0, none⟩), .int .i64 k, .int .i64 m, v] w (MakesRs w X []) := by
  have hb : (X != 0) = true := by simp [hX]
  clear hX
  go_enter Try.func17, Try.ntmps17
  go_wp2_with fail
  refine hC.mono ?_
  rintro e w2 ⟨vs, rfl, hR, b2⟩
  obtain ⟨va, vc, rfl⟩ := hR.form
  clear hC hR
  go_wp2
  exact bodyPost_ret (v := .tuple #[.slice none 0 0, .int .i64 X]) (by simp [results, Try.results17, go_sem]) rfl ⟨_, rfl, rs_none, below_lit b2 _⟩

set_option maxRecDepth 100000 in
set_option maxHeartbeats 1000000 in
theorem enc_ok {b : Nat} {k m : Nat} {v : Value} {L : List (List UInt8)} {w : World} (hF : FieldAt w b) (h1 : 1 ≤ k) (h2 : k + m ≤ 256) (h : Rs w v L) (hL : L.length = k) (hE : Even L) (hS : Small L) {x y : Int} (hx : x = (k : Int)) (hy : y = (m : Int)) :
    Calls Try.prog 17 #[.pointer (some ⟨b, 0, none⟩), .int .i64 x, .int .i64 y, v] w (MakesRs w 0 (encL m k (parF k) L)) := by
  subst hx hy
  go_enter Try.func17, Try.ntmps17
  go_wp2_with fail
  refine (chkd_ok hF h1 h2 h rs_none (B := []) ⟨by rw [hL], by rw [List.append_nil]; exact hE⟩ rfl rfl).mono ?_
  rintro e w2 ⟨vs, rfl, hR, b2⟩
  have A2 : Below w2.heap.size w2 (w2.alloc (.cells #[.int .i64 (m : Int), .int .i64 (k : Int), vs] 60)) := (Below.refl _ _).alloc (Nat.le_refl _) _
  have B2 : Below w.heap.size w (w2.alloc (.cells #[.int .i64 (m : Int), .int .i64 (k : Int), vs] 60)) := below_lit b2 _
  have HD := encd_any m k (parF k) (hF.below B2) (hR.below A2) h1 h2 (h.below B2) hL hE hS rfl rfl
  obtain ⟨va, vc, rfl⟩ := hR.form
  obtain ⟨da, dc, rfl⟩ := h.form
  clear hF h hR hE hS b2 A2 hL
  go_wp2_with fail
  refine HD.mono ?_
  rintro e w3 ⟨v', rfl, hR3, b3⟩
  have HB : Hid _ := Below.next B2 b3
  clear HD b3 B2
  obtain ⟨xa, xc, rfl⟩ := hR3.form
  go_wp2
  exact bodyPost_ret (v := .tuple #[.slice xa (encL m k (parF k) L).length xc, .int .i64 0]) (by simp [results, Try.results17, go_sem]) rfl ⟨_, rfl, hR3, HB.out⟩

theorem enc_any {b : Nat} {k m : Int} {v : Value} {L : List (List UInt8)} {w : World} (hF : FieldAt w b) (h : Rs w v L) (hS : Small L) :
    Calls Try.prog 17 #[.pointer (some ⟨b, 0, none⟩), .int .i64 k, .int .i64 m, v] w (MakesRs w (encX k m L) (encR k m L)) := by
  rcases enc_cases k m L with c | ⟨c, d⟩ | ⟨c, d1, d2⟩
  · rw [(encX_bad c).1, (encX_bad c).2]
    exact enc_err (by decide) (chkd_bad hF c)
  · rw [(encX_shard c d).1, (encX_shard c d).2]
    obtain ⟨k, m, rfl, rfl, h1, h2⟩ := c.nat
    exact enc_err (by decide) (chkd_shard hF h1 h2 h rs_none (fun e => d ⟨e.1, by have := e.2; rwa [List.append_nil] at this⟩) rfl rfl)
  · obtain ⟨k, m, rfl, rfl, h1, h2⟩ := c.nat
    rw [(encX_ok c d1 d2).1, (encX_ok c d1 d2).2]
    exact enc_ok hF h1 h2 h (by omega) d2 hS rfl rfl

/-- What 'Fits' leaves. -/
def MakesB (w : World) (t : Bool) (x : Int) (e : Ending) (w' : World) : Prop := e = .returned (.tuple #[.bool t, .int .i64 x]) ∧ Below w.heap.size w w'

set_option maxRecDepth 100000 in
set_option maxHeartbeats 1000000 in
theorem fits_err {b : Nat} {k m s X : Int} {v : Value} {w : World} (hX : X ≠ 0) (hs : IntKind.i64.wrap (k + m) = s) (hC : Calls Try.prog 31 #[.pointer (some ⟨b, 0, none⟩), .int .i64 k, .int .i64 m, .int .i64 s, v, .slice none 0 0] w (MakesErr w X)) :
    Calls Try.prog 21 #[.pointer (some ⟨b, 0, none⟩), .int .i64 k, .int .i64 m, v] w (MakesB w false X) := by
  have hb : (X != 0) = true := by simp [hX]
  clear hX
  go_enter Try.func21, Try.ntmps21
  go_wp2_with fail
  refine hC.mono ?_
  rintro e w2 ⟨vs, rfl, hR, b2⟩
  obtain ⟨va, vc, rfl⟩ := hR.form
  clear hC hR
  go_wp2
  exact bodyPost_ret (v := .tuple #[.bool false, .int .i64 X]) (by simp [results, Try.results21, go_sem]) rfl ⟨rfl, below_lit b2 _⟩

set_option maxRecDepth 100000 in
set_option maxHeartbeats 2000000 in
theorem fits_ok {b : Nat} {k m : Nat} {v : Value} {L : List (List UInt8)} {w : World} (hF : FieldAt w b) (h1 : 1 ≤ k) (h2 : k + m ≤ 256) (h : Rs w v L) (hL : L.length = k + m) (hE : Even L) (hS : Small L) {x y : Int} (hx : x = (k : Int)) (hy : y = (m : Int)) :
    Calls Try.prog 21 #[.pointer (some ⟨b, 0, none⟩), .int .i64 x, .int .i64 y, v] w (MakesB w (sameL (encL m k (parF k) (L.take k)) L) 0) := by
  subst hx hy
  have hs : IntKind.i64.wrap ((k : Int) + (m : Int)) = (k : Int) + (m : Int) := by rw [IntKind.wrap_i64]; omega
  obtain ⟨lb, lo, lc, rfl, hlb, hlc, hlm⟩ := h.somewhere (by omega)
  have hkc : (k : Int) ≤ (lc : Int) := by omega
  have hkc' : k ≤ lc := by omega
  have hwk : IntKind.i64.wrap (k : Int) = (k : Int) := by rw [IntKind.wrap_i64]; omega
  have hL' : Hid _ := hL
  clear hL
  go_enter Try.func21, Try.ntmps21
  go_wp2_with fail
  refine (chkd_ok hF h1 h2 h rs_none (B := []) ⟨by rw [hL'.out]; omega, by rw [List.append_nil]; exact hE⟩ rfl rfl).mono ?_
  rintro e w2 ⟨vs, rfl, hR, b2⟩
  have A2 : Below w2.heap.size w2 (w2.alloc (.cells #[.int .i64 (m : Int), .int .i64 (k : Int), vs] 60)) := (Below.refl _ _).alloc (Nat.le_refl _) _
  have B2 : Below w.heap.size w (w2.alloc (.cells #[.int .i64 (m : Int), .int .i64 (k : Int), vs] 60)) := below_lit b2 _
  have h0 := h.below B2
  have ht := h0.first (k := k) (by rw [hL'.out]; omega)
  have hF2 := hF.below B2
  have hR2 := hR.below A2
  obtain ⟨va, vc, rfl⟩ := hR.form
  obtain ⟨N, hN⟩ : ∃ N, Hid (N = (flat m k (parF k)).length) := ⟨_, rfl⟩
  rw [← hN.out] at hR2 B2 h0 ht hF2 ⊢
  have X2 := Box.new w2 (m : Int) (k : Int) (.slice va N vc) 60
  have hl2 : w2.heap.size < (w2.alloc (.cells #[.int .i64 (m : Int), .int .i64 (k : Int), .slice va N vc] 60)).heap.size := by simp
  have hTl : (L.take k).length = k := by rw [List.length_take, hL'.out]; omega
  have hTe := even_take hE k
  have hTs := small_take hS k
  obtain ⟨E, hE'⟩ : ∃ E, Hid (E = encL m k (parF k) (L.take k)) := ⟨_, rfl⟩
  rw [← hE'.out]
  clear A2
  go_wp2
  generalize w2.alloc (.cells #[.int .i64 (m : Int), .int .i64 (k : Int), .slice va N vc] 60) = w3 at *
  have hcall1 : ∀ W, Below w3.heap.size w3 W → Calls Try.prog 32 #[.pointer (some ⟨b, 0, none⟩), .agg #[.int .i64 (m : Int), .int .i64 (k : Int), .slice va N vc], .slice (some ⟨lb, lo, none⟩) k lc] W (fun e w' => ∃ ra rc, e = .returned (.slice ra E.length rc) ∧ Rs w' (.slice ra E.length rc) E ∧ Below w3.heap.size w3 w') := fun W hW =>
    (encd_any m k (parF k) (hF2.below hW) (hR2.below hW) h1 h2 (ht.below hW) hTl hTe hTs rfl rfl).mono fun e w' ⟨v', he, hr, hb⟩ => by
      rw [← hE'.out] at hr
      obtain ⟨ra, rc, rfl⟩ := hr.form
      exact ⟨ra, rc, he, hr, Below.next hW hb⟩
  have hcall2 : ∀ W ra rc, Rs W (.slice ra E.length rc) E → Below w3.heap.size w3 W → Calls Try.prog 33 #[.slice ra E.length rc, .slice (some ⟨lb, lo, none⟩) L.length lc, .func (.func 34) #[] #[]] W (fun e w' => e = .returned (.bool (sameL E L)) ∧ Below w3.heap.size w3 w') := fun W ra rc hr hW =>
    (eqf_any hr (h0.below hW)).mono fun e w' ⟨he, hw⟩ => ⟨he, by rw [hw]; exact hW⟩
  clear hF h hR b2 hF2 hR2 ht h0 hTl hTe hTs hE hS
  have Q1 := X2
  have P1 := X2
  clear X2
  go_region_held3 (fun wx => wx.cell? ⟨w2.heap.size, 0, none⟩ = some (.int .i64 (m : Int)) ∧ wx.cell? ⟨w2.heap.size, 1, none⟩ = some (.int .i64 (k : Int)) ∧ wx.cell? ⟨w2.heap.size, 2, none⟩ = some (.slice va N vc)) (first | exact ⟨P1.c0, P1.c1, P1.c2⟩ | exact ⟨P1.drew.c0, P1.drew.c1, P1.drew.c2⟩) (first
    | (go_at_call 32; go_loud (refine (hcall1 _ (by first | assumption | exact (Below.refl _ _).drew)).mono ?_); rintro e v1 ⟨ra, rc, rfl, hR4, bv1⟩; replace P1 := Q1.below hl2 bv1)
    | (go_at_call 33; go_loud (refine (hcall2 _ _ _ hR4 (by first | assumption | exact (Below.refl _ _).drew)).mono ?_); rintro e v2 ⟨rfl, bv2⟩; replace P1 := Q1.below hl2 bv2))
  have HB : Hid (Below w.heap.size w v2) := Below.next B2 bv2
  clear hcall1 hcall2 Q1 P1 bv1 bv2 hR4 B2
  go_wp2
  exact bodyPost_ret (v := .tuple #[.bool (sameL E L), .int .i64 0]) (by simp [results, Try.results21, go_sem]) rfl ⟨by rw [← hE'.out], HB.out⟩

theorem fits_any {b : Nat} {k m : Int} {v : Value} {L : List (List UInt8)} {w : World} (hF : FieldAt w b) (h : Rs w v L) (hS : Small L) :
    Calls Try.prog 21 #[.pointer (some ⟨b, 0, none⟩), .int .i64 k, .int .i64 m, v] w (MakesB w (fitB k m L) (fitX k m L)) := by
  rcases fit_cases k m L with c | ⟨c, d⟩ | ⟨c, d1, d2⟩
  · rw [(fitX_bad c).1, (fitX_bad c).2]
    exact fits_err (by decide) rfl (chkd_bad hF c)
  · rw [(fitX_shard c d).1, (fitX_shard c d).2]
    obtain ⟨k, m, rfl, rfl, h1, h2⟩ := c.nat
    exact fits_err (by decide) (by rw [IntKind.wrap_i64]; omega) (chkd_shard hF h1 h2 h rs_none (fun e => d ⟨e.1, by have := e.2; rwa [List.append_nil] at this⟩) rfl rfl)
  · obtain ⟨k, m, rfl, rfl, h1, h2⟩ := c.nat
    rw [(fitX_ok c d1 d2).1, (fitX_ok c d1 d2).2]
    exact fits_ok hF h1 h2 h (by omega) d2 hS rfl rfl

end Go.Proofs.Ytjgeipmfdmdmkaa.Gf

/-
  THE STATEMENTS' HELPERS OF LAYER 8 BY CONTRACT: 'few', 'nought', 'Column', 'Line'.
-/


namespace Go.Proofs.Ytjgeipmfdmdmkaa.Gf
set_option linter.unusedVariables false
set_option linter.unusedSimpArgs false
open Go.RowKit

def fewB (k m : Int) : Bool := decide (¬ OkC k m ∨ k + m ≤ 30)
theorem fewB_bad {k m : Int} (h : ¬ OkC k m) : fewB k m = true := decide_eq_true (Or.inl h)
theorem fewB_ok {k m : Int} (h : OkC k m) : fewB k m = decide (k + m ≤ 30) := by
  unfold fewB
  rw [Bool.eq_iff_iff, decide_eq_true_eq, decide_eq_true_eq]
  exact ⟨fun e => e.resolve_left (fun g => g h), Or.inr⟩

set_option maxRecDepth 100000 in
set_option maxHeartbeats 1000000 in
theorem few8_any (k m : Int) (w : World) : Calls Try.prog 10 #[.int .i64 k, .int .i64 m] w fun e w' => e = .returned (.bool (fewB k m)) ∧ Below w.heap.size w w' := by
  by_cases ok : OkC k m
  · have gw : IntKind.i64.wrap (k + m) = k + m := by rw [IntKind.wrap_i64]; have := ok.1; have := ok.2.1; have := ok.2.2; omega
    rw [fewB_ok ok]
    go_enter Try.func10, Try.ntmps10
    go_wp2_with fail
    refine (ccheck_ok _ ok).mono ?_
    rintro e w2 ⟨rfl, b2⟩
    clear ok
    go_wp2
    go_ret
    exact ⟨rfl, b2⟩
  · rw [fewB_bad ok]
    go_enter Try.func10, Try.ntmps10
    go_wp2_with fail
    refine (ccheck_bad _ ok).mono ?_
    rintro e w2 ⟨rfl, b2⟩
    clear ok
    go_wp2
    go_ret
    exact ⟨rfl, b2⟩

/-- are all of them 0? -/
def noughtB (p : List UInt8) : Bool := decide (∀ i, i < p.length → co p i = 0)

set_option maxRecDepth 100000 in
set_option maxHeartbeats 1000000 in
theorem nought_any {v : Value} {p : List UInt8} {w : World} (hp : Rd w v p) : Calls Try.prog 20 #[v] w fun e w' => e = .returned (.bool (noughtB p)) ∧ Below w.heap.size w w' := by
  obtain ⟨a, c, rfl⟩ := hp.form
  have hl := hp.len
  unfold maxLen at hl
  go_enter Try.func20, Try.ntmps20
  go_wp2
  go_loop [3] (fun i => ∃ k : Nat, k ≤ p.length ∧ i = .int .i64 k ∧ Hid (∀ j, j < k → co p j = 0)) (fun i => p.length - (intOf i).toNat)
  case atStart => exact ⟨0, by omega, rfl, fun j hj => by omega⟩
  case round =>
    obtain ⟨k, hk, rfl, hs⟩ := hrel
    by_cases hlt : k < p.length
    · have hlt' : (k : Int) < (p.length : Int) := by omega
      obtain ⟨b, off, rfl, _, c1⟩ := hp.byte hlt
      by_cases e : co p k = 0
      · have hn : ((((co p k).toNat : Nat) : Int) != 0) = false := by rw [e]; rfl
        have HS : Hid (∀ j, j < k + 1 → co p j = 0) := fun j hj => by
          by_cases e2 : j = k
          · rw [e2]; exact e
          · exact hs.out j (by omega)
        clear e hs hp
        go_wp2
        go_round
        case rel => exact ⟨k + 1, by omega, by go_num, HS⟩
        case measure => simp [intOf]; omega
      · have hn : ((((co p k).toNat : Nat) : Int) != 0) = true := by rw [bne, eq_u8_zero]; simp [e]
        have E : Hid (noughtB p = false) := decide_eq_false fun h => e (h k hlt)
        clear e hs hp
        go_wp2
        go_ret
        exact ⟨by rw [E.out]; rfl, Below.refl _ _⟩
    · have hge : ¬ (k : Int) < (p.length : Int) := by omega
      have E : Hid (noughtB p = true) := decide_eq_true fun i hi => hs.out i (by omega)
      clear hs hp
      go_wp2
      go_ret
      exact ⟨by rw [E.out]; rfl, Below.refl _ _⟩

/-- a word as shards of one byte each -/
def colL (p : List UInt8) : List (List UInt8) := mkL p.length (fun i => [co p i])

set_option maxRecDepth 100000 in
set_option maxHeartbeats 2000000 in
theorem col_any {v : Value} {p : List UInt8} {w : World} (hp : Rd w v p) (hl : p.length ≤ 300) : Calls Try.prog 18 #[v] w fun e w' => ∃ v', e = .returned v' ∧ Rs w' v' (colL p) ∧ Below w.heap.size w w' := by
  obtain ⟨i0, hi, hz0, hz1, hz2⟩ := info_parts info_u8
  obtain ⟨i1, hj, hy0, hy1, hy2⟩ := info_parts info_shard
  obtain ⟨a, c, rfl⟩ := hp.form
  go_enter Try.func18, Try.ntmps18
  go_wp2
  go_loopw [3, 4] (fun o i wr => ∃ k : Nat, k ≤ p.length ∧ i = .int .i64 k ∧ Os wr w.heap.size 22 5 o (mkL k (fun i => [co p i])) ∧ Below w.heap.size w wr) (fun _ i _ => p.length - (intOf i).toNat)
  case atStart => exact ⟨0, by omega, rfl, Os.nil _ _ _ _, Below.refl _ _⟩
  case round =>
    obtain ⟨k, hk, rfl, hO, hB⟩ := hrel
    have hsz := hB.size
    have HL : Hid ((mkL k (fun i => [co p i])).length = k) := mkL_length _ _
    obtain ⟨av, cv, ev⟩ := hO.form
    rw [HL.out] at ev
    subst ev
    by_cases hlt : k < p.length
    · obtain ⟨b, off, rfl, hb, c1⟩ := (hp.below hB).byte hlt
      have hlt' : (k : Int) < (p.length : Int) := by omega
      obtain ⟨x, hx⟩ : ∃ x, Hid (x = co p k) := ⟨_, rfl⟩
      have HT : Hid (mkL (k + 1) (fun i => [co p i]) = mkL k (fun i => [co p i]) ++ [[x]]) := by show _ = _; rw [hx.out]; exact mkL_succ _ _
      rw [← hx.out] at c1
      have hA1 : Below wr.heap.size wr (wr.alloc (.cells #[.int .u8 (x.toNat : Nat)] 5)) := (Below.refl _ _).alloc (Nat.le_refl _) _
      have hx5 : OwnP (wr.alloc (.cells #[.int .u8 (x.toNat : Nat)] 5)) w.heap.size 5 (.slice (some ⟨wr.heap.size, 0, none⟩) 1 1) [x] :=
        ownsRow_base (World.ownsRow_lit wr #[.int .u8 (x.toNat : Nat)] 1 (Nat.le_refl _) (by unfold maxLen; omega) rfl) hsz
      clear hp
      go_wp2_with (at_builtin; go_loud (refine wpList_append_os rfl (.tmp 11) (.tmp 17) 36 rfl w.heap.size 22 i1 Try.underlying36 hj hy0 hy1 hy2 5 (.slice av k cv) (mkL k (fun i => [co p i])) rfl hO hA1 (.slice (some ⟨wr.heap.size, 0, none⟩) 1 1) [x] hx5 (by intro q hq; cases hq; exact Nat.le_refl _) _ 1 (show Value.slice (some ⟨wr.heap.size + 1, 0, none⟩) 1 1 = _ by simp) (by rw [HL.out]; omega) hsz ?_); intro v' w6 hv6 hb6 _ _)
      rw [← HT.out] at hv6
      have HB : Hid (Below w.heap.size w w6) := hB.trans hb6
      have HO : Hid (Os w6 w.heap.size 22 5 v' (mkL (k + 1) (fun i => [co p i]))) := hv6
      clear hB hb6 hv6 hO hx5 hA1 c1
      go_roundw
      case rel => exact ⟨k + 1, by omega, by go_num, HO.out, HB.out⟩
      case measure => simp [intOf]; omega
    · have e : k = p.length := by omega
      have hge : ¬ (k : Int) < (p.length : Int) := by omega
      have HR : Hid (Rs wr (.slice av k cv) (colL p)) := by
        show Rs _ _ _
        unfold colL
        rw [← e]; exact hO.rs
      clear hp e hO
      go_wp2
      go_ret
      exact ⟨_, rfl, HR.out, hB⟩

/-- shards of one byte each as a word -/
def lineL (L : List (List UInt8)) : List UInt8 := upto (fun i => co (ro L i) 0) L.length

set_option maxRecDepth 100000 in
set_option maxHeartbeats 2000000 in
theorem line_any {v : Value} {L : List (List UInt8)} {w : World} (hL : Rs w v L) (hl : L.length ≤ 300) (h1 : ∀ i, i < L.length → (ro L i).length = 1) : Calls Try.prog 19 #[v] w fun e w' => ∃ v', e = .returned v' ∧ Rd w' v' (lineL L) ∧ Below w.heap.size w w' := by
  obtain ⟨i0, hi, hz0, hz1, hz2⟩ := info_parts info_u8
  obtain ⟨a, c, rfl⟩ := hL.form
  have h1' : Hid _ := h1
  clear h1
  go_enter Try.func19, Try.ntmps19
  go_wp2
  go_loopw [3, 4] (fun o i wr => ∃ k : Nat, k ≤ L.length ∧ i = .int .i64 k ∧ wr.ownsRow w.heap.size 5 1 o k ((upto (fun i => co (ro L i) 0) k).map vb) ∧ Below w.heap.size w wr) (fun _ i _ => L.length - (intOf i).toNat)
  case atStart => exact ⟨0, by omega, rfl, World.ownsRow_nil _ _ _ _, Below.refl _ _⟩
  case round =>
    obtain ⟨k, hk, rfl, hown, hB⟩ := hrel
    have hsz := hB.size
    obtain ⟨av, cv, rfl⟩ := owns_form hown
    by_cases hlt : k < L.length
    · obtain ⟨b, off, xa, xc, rfl, hb, c1, r1⟩ := (hL.below hB).at hlt
      have hlt' : (k : Int) < (L.length : Int) := by omega
      have e1 := h1'.out k hlt
      obtain ⟨x, hx⟩ : ∃ x, Hid (x = co (ro L k) 0) := ⟨_, rfl⟩
      have e2 : ro L k = [x] := by
        refine co_ext (by rw [e1]; rfl) fun i hi => ?_
        rw [show i = 0 by omega, hx.out]; rfl
      rw [e2] at c1 r1
      have HR : Hid (Rd wr (.slice xa 1 xc) [x]) := r1
      have c1' : wr.cell? ⟨b, off + k, none⟩ = some (.slice xa 1 xc) := c1
      clear e1 e2 c1 r1 hL
      go_wp2_with (at_builtin; go_loud (refine wpList_append_rd2 _ rfl (.tmp 11) (.tmp 15) 22 rfl w.heap.size 5 i0 Try.underlying22 hi hz0 hz1 hz2 (.slice av k cv) k _ rfl hown _ [x] rfl HR.out (by simp; omega) hsz ?_); intro x' w4 hx4 hg4 _)
      have HN : Hid (w4.ownsRow w.heap.size 5 1 x' (k + 1) ((upto (fun i => co (ro L i) 0) (k + 1)).map vb)) := (by rw [upto_vb_succ, ← hx.out]; exact hx4 : w4.ownsRow w.heap.size 5 1 x' (k + 1) ((upto (fun i => co (ro L i) 0) (k + 1)).map vb))
      have HB : Hid (Below w.heap.size w w4) := hB.grown hg4 hsz (fun q hq => (World.ownsRow.lt hown q hq).1)
      clear hx4 hg4 hown hB c1' HR
      go_roundw
      case rel => exact ⟨k + 1, by omega, by go_num, HN.out, HB.out⟩
      case measure => simp [intOf]; omega
    · have e : k = L.length := by omega
      have hge : ¬ (k : Int) < (L.length : Int) := by omega
      have HR : Hid (Rd wr (.slice av k cv) (lineL L)) := by
        show Rd _ _ _
        unfold lineL
        rw [← e]
        exact Rd.owned (base := w.heap.size) (e := 5) (by rw [upto_length]; exact hown)
      clear e hown hL
      go_wp2
      go_ret
      exact ⟨_, rfl, HR.out, hB⟩

end Go.Proofs.Ytjgeipmfdmdmkaa.Gf

/-
  THE STATEMENTS' HEAD OF LAYER 8 BY CONTRACT: 'awake' answers true.
-/


namespace Go.Proofs.Ytjgeipmfdmdmkaa.Gf
set_option linter.unusedVariables false
set_option linter.unusedSimpArgs false
open Go.RowKit

theorem sy_aw1 : wtX 2 1 = 0 ∧ wtR 2 1 = [142, 244, 1] := by decide +kernel
theorem sy_aw2 : ofX 1 1 [5, 4] = 0 ∧ ofR 1 1 [5, 4] = [1] := by decide +kernel
theorem sy_aw3 : ofX 2 1 [1, 2, 123] = 0 ∧ ofR 2 1 [1, 2, 123] = [0] := by decide +kernel
theorem sy_aw4 : ofX 2 1 [] = 60 ∧ ofR 2 1 [] = [] := by decide +kernel
theorem same_t {va vb : Value} {p q : List UInt8} {w : World} (hp : Rd w va p) (hq : Rd w vb q) (h : p = q) : Calls Try.prog 15 #[va, vb] w fun e w' => e = .returned (.bool true) ∧ Below w.heap.size w w' :=
  (same_b hp hq).mono fun e w' ⟨h1, h2⟩ => ⟨by rw [h1, sameB_of h], h2⟩

set_option maxRecDepth 100000 in
set_option maxHeartbeats 4000000 in
theorem awake8_any (w : World) : Calls Try.prog 8 #[] w fun e w' => e = .returned (.bool true) ∧ Below w.heap.size w w' := by
  go_enter Try.func8, Try.ntmps8
  have B : Below w.heap.size w w := Below.refl _ _
  go_wp2_with fail
  refine (new_any _).mono ?_
  rintro e u1 ⟨rfl, F, hO⟩
  have b := hO.below
  clear hO
  have D : Below (World.heap w |>.size) w u1 := Below.next (by repeat (first | exact Below.refl _ _ | apply Below.drewN | apply Below.drew | apply Below.draws | apply below_lit)) b
  replace B := Below.next B D
  clear b D
  go_wp2_with fail
  refine (wts_any (k := 2) (m := 1) (F.below (by repeat (first | exact Below.refl _ _ | apply Below.drewN | apply Below.drew | apply Below.draws | apply below_lit)))).mono ?_
  rintro e u2 ⟨va, rfl, Ra, b⟩
  rw [sy_aw1.1]
  rw [sy_aw1.2] at Ra
  have D : Below (World.heap u1 |>.size) u1 u2 := Below.next (by repeat (first | exact Below.refl _ _ | apply Below.drewN | apply Below.drew | apply Below.draws | apply below_lit)) b
  replace F := F.below D
  replace B := Below.next B D
  clear b D
  obtain ⟨aa, ca, rfl⟩ := Ra.form
  go_wp2_with fail
  refine (sof_any (k := 1) (m := 1) (F.below (by repeat (first | exact Below.refl _ _ | apply Below.drewN | apply Below.drew | apply Below.draws | apply below_lit))) (rd_lit2 [5, 4] (by simp) rfl rfl (by decide))).mono ?_
  rintro e u3 ⟨vb, rfl, Rb, b⟩
  rw [sy_aw2.1]
  rw [sy_aw2.2] at Rb
  have D : Below (World.heap u2 |>.size) u2 u3 := Below.next (by repeat (first | exact Below.refl _ _ | apply Below.drewN | apply Below.drew | apply Below.draws | apply below_lit)) b
  replace F := F.below D
  replace Ra := Ra.below D
  replace B := Below.next B D
  clear b D
  obtain ⟨ab, cb, rfl⟩ := Rb.form
  go_wp2_with fail
  refine (sof_any (k := 2) (m := 1) (F.below (by repeat (first | exact Below.refl _ _ | apply Below.drewN | apply Below.drew | apply Below.draws | apply below_lit))) (rd_lit2 [1, 2, 123] (by simp) rfl rfl (by decide))).mono ?_
  rintro e u4 ⟨vc, rfl, Rc, b⟩
  rw [sy_aw3.1]
  rw [sy_aw3.2] at Rc
  have D : Below (World.heap u3 |>.size) u3 u4 := Below.next (by repeat (first | exact Below.refl _ _ | apply Below.drewN | apply Below.drew | apply Below.draws | apply below_lit)) b
  replace F := F.below D
  replace Ra := Ra.below D
  replace Rb := Rb.below D
  replace B := Below.next B D
  clear b D
  obtain ⟨ac, cc, rfl⟩ := Rc.form
  go_wp2_with fail
  refine (sof_any (k := 2) (m := 1) (F.below (by repeat (first | exact Below.refl _ _ | apply Below.drewN | apply Below.drew | apply Below.draws | apply below_lit))) (rd_nil _)).mono ?_
  rintro e u5 ⟨vd, rfl, Rd1, b⟩
  rw [sy_aw4.1]
  rw [sy_aw4.2] at Rd1
  obtain ⟨ad, cd, rfl⟩ := Rd1.form
  clear Rd1
  have D : Below (World.heap u4 |>.size) u4 u5 := Below.next (by repeat (first | exact Below.refl _ _ | apply Below.drewN | apply Below.drew | apply Below.draws | apply below_lit)) b
  replace F := F.below D
  replace Ra := Ra.below D
  replace Rb := Rb.below D
  replace Rc := Rc.below D
  replace B := Below.next B D
  clear b D
  go_wp2_with fail
  refine (same_t (Ra.below (by repeat (first | exact Below.refl _ _ | apply Below.drewN | apply Below.drew | apply Below.draws | apply below_lit))) (rd_lit2 [142, 244, 1] (by simp) rfl rfl (by decide)) rfl).mono ?_
  rintro e u6 ⟨rfl, b⟩
  have D : Below (World.heap u5 |>.size) u5 u6 := Below.next (by repeat (first | exact Below.refl _ _ | apply Below.drewN | apply Below.drew | apply Below.draws | apply below_lit)) b
  replace F := F.below D
  replace Ra := Ra.below D
  replace Rb := Rb.below D
  replace Rc := Rc.below D
  replace B := Below.next B D
  clear b D
  go_wp2_with fail
  refine (same_t (Rb.below (by repeat (first | exact Below.refl _ _ | apply Below.drewN | apply Below.drew | apply Below.draws | apply below_lit))) (rd_lit2 [1] (by simp) rfl rfl (by decide)) rfl).mono ?_
  rintro e u7 ⟨rfl, b⟩
  have D : Below (World.heap u6 |>.size) u6 u7 := Below.next (by repeat (first | exact Below.refl _ _ | apply Below.drewN | apply Below.drew | apply Below.draws | apply below_lit)) b
  replace F := F.below D
  replace Ra := Ra.below D
  replace Rb := Rb.below D
  replace Rc := Rc.below D
  replace B := Below.next B D
  clear b D
  go_wp2_with fail
  refine (same_t (Rc.below (by repeat (first | exact Below.refl _ _ | apply Below.drewN | apply Below.drew | apply Below.draws | apply below_lit))) (rd_lit2 [0] (by simp) rfl rfl (by decide)) rfl).mono ?_
  rintro e u8 ⟨rfl, b⟩
  have D : Below (World.heap u7 |>.size) u7 u8 := Below.next (by repeat (first | exact Below.refl _ _ | apply Below.drewN | apply Below.drew | apply Below.draws | apply below_lit)) b
  replace F := F.below D
  replace Ra := Ra.below D
  replace Rb := Rb.below D
  replace Rc := Rc.below D
  replace B := Below.next B D
  clear b D
  go_wp2
  go_ret
  exact ⟨rfl, Below.next B (by repeat (first | exact Below.refl _ _ | apply Below.drewN | apply Below.drew | apply Below.draws | apply below_lit))⟩

end Go.Proofs.Ytjgeipmfdmdmkaa.Gf

