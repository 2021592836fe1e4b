/- TEXTS JOINED: SeCB, SeCC, DkSame, DkLawN, DkLawM, DkLook, DkRa, DkRb, DkRm, DkOwnL, DkRc, DkRd, ArRef, ArAt. -/
import Derived.Test.YtddnfhfangfgeaaGreatTome7
import Derived.Test.YtddnfhfangfgeaaGreatTome9
import Derived.Test.YtddnfhfangfgeaaGreatTome3
import Derived.Lib.SliceRun
import Derived.Test.YtddnfhfangfgeaaGreatTome6
namespace Go.Proofs.YtddnfhfangfgeaaGreat.Gf
set_option linter.unusedVariables false
set_option linter.unusedSimpArgs false
open Go.RowKit
theorem i64_or_nat {a b : Nat} (ha : a < 9223372036854775808) (hb : b < 9223372036854775808) : bits .or .i64 (a : Int) (b : Int) = ((a ||| b : Nat) : Int) := by
  have h : a ||| b < 9223372036854775808 := Nat.or_lt_two_pow (n := 63) ha hb
  show IntKind.i64.wrap ((BitVec.ofInt 64 (a : Int) ||| BitVec.ofInt 64 (b : Int)).toNat : Nat) = _
  rw [BitVec.toNat_or, BitVec.ofInt_natCast, BitVec.ofInt_natCast, BitVec.toNat_ofNat, BitVec.toNat_ofNat, Nat.mod_eq_of_lt (by omega), Nat.mod_eq_of_lt (by omega), IntKind.wrap_i64]
  omega
theorem or_byte {a : Nat} {x : UInt8} : a * 256 ||| x.toNat = a * 256 + x.toNat := by
  have := Nat.two_pow_add_eq_or_of_lt (i := 8) (b := x.toNat) x.toNat_lt a
  rw [Nat.mul_comm a 256]
  exact this.symm
/-- the number of the first k of some bytes -/
def nuK (q : List UInt8) : Nat → Nat
  | 0 => 0
  | k + 1 => nuK q k * 256 + (co q k).toNat
theorem nuK_four (q : List UInt8) : nuK q 4 = nu q := by
  show (((0 * 256 + (co q 0).toNat) * 256 + (co q 1).toNat) * 256 + (co q 2).toNat) * 256 + (co q 3).toNat = nu q
  unfold nu
  omega
theorem nuK_lt (q : List UInt8) : ∀ k, nuK q k < 256 ^ k
  | 0 => by simp [nuK]
  | k + 1 => by
    have := nuK_lt q k
    have h := (co q k).toNat_lt
    rw [Nat.pow_succ]
    show nuK q k * 256 + (co q k).toNat < _
    omega
set_option maxRecDepth 100000 in
set_option maxHeartbeats 1000000 in
theorem snum_any {p : List UInt8} {w : World} {a : Option Addr} {c : Nat} (hp : Rd w (.slice a p.length c) p) (hl : 12 ≤ p.length) : Calls Tryz.prog 189 #[.slice a p.length c, .int .i64 4] w fun e w' => e = .returned (.int .i64 ((epS p : Nat) : Int)) ∧ w' = w := by
  obtain ⟨q, hq⟩ : ∃ q, Hid (q = (p.drop 4).take 4) := ⟨_, rfl⟩
  have HE : Hid (nuK q 4 = epS p) := by show _ = _; rw [nuK_four, hq.out]; rfl
  rw [← HE.out]
  clear HE
  rcases hp with ⟨a', c', rfl, _⟩ | ⟨b, o, c', hp0, e0, h1, h2, h3, hpc⟩
  · simp at hl
  simp at e0
  obtain ⟨rfl, rfl⟩ := e0
  have g1 : (8 : Int) ≤ (p.length : Int) := by omega
  have g2 : (4 : Int) ≤ (p.length : Int) := by omega
  have g3 : 8 ≤ c := by omega
  have g4 : (8 : Int) ≤ (c : Int) := by omega
  have g5 : ¬ c = 4 := by omega
  have cells : ∀ k, k < 4 → w.cell? ⟨b, o + 4 + k, none⟩ = some (.int .u8 (((co q k).toNat : Nat) : Int)) := by
    intro k hk
    have e := hpc (4 + k) (by omega)
    rw [← Nat.add_assoc] at e
    rw [e, hq.out, co_take hk, co_drop0]
  clear hpc hq
  go_enter Tryz.func189, Tryz.ntmps189
  go_wp2
  clear g1 g2 g3 g4 g5
  go_loop [5, 14] (fun x i => ∃ k : Nat, k ≤ 4 ∧ i = .int .i64 (k : Int) ∧ x = .int .i64 ((nuK q k : Nat) : Int)) (fun _ i => 4 - (intOf i).toNat)
  case atStart => exact ⟨0, by omega, rfl, rfl⟩
  case round =>
    obtain ⟨k, hk, rfl, rfl⟩ := hrel
    by_cases hlt : k < 4
    · have hlt' : (k : Int) < 4 := by omega
      have c1 := cells k hlt
      have hz := nuK_lt q k
      have h4 : 256 ^ k ≤ 256 ^ 3 := Nat.pow_le_pow_right (by decide) (by omega)
      have hz3 : nuK q k < 16777216 := Nat.lt_of_lt_of_le hz h4
      have HS : Hid (nuK q (k + 1) = nuK q k * 256 + (co q k).toNat) := rfl
      clear cells hz h4
      obtain ⟨z, ez⟩ : ∃ z, Hid (z = nuK q k) := ⟨_, rfl⟩
      rw [← ez.out] at hz3 HS ⊢
      have hb := (co q k).toNat_lt
      have Z1 : IntKind.i64.wrap ((z : Int) * 256) = ((z * 256 : Nat) : Int) := by rw [IntKind.wrap_i64]; omega
      have Z2 : IntKind.i64.wrap (((co q k).toNat : Nat) : Int) = (((co q k).toNat : Nat) : Int) := by rw [IntKind.wrap_i64]; omega
      have Z3 : bits .or .i64 ((z * 256 : Nat) : Int) (((co q k).toNat : Nat) : Int) = ((nuK q (k + 1) : Nat) : Int) := by
        rw [i64_or_nat (by omega) (by omega), or_byte, HS.out]
      obtain ⟨y, ey⟩ : ∃ y, Hid (y = z * 256) := ⟨_, rfl⟩
      rw [← ey.out] at Z1 Z3
      clear HS ez ey
      go_wp2
      go_round
      case rel => exact ⟨k + 1, by omega, by go_num, rfl⟩
      case measure => simp [intOf]; omega
    · have e : k = 4 := by omega
      subst e
      clear cells
      go_wp2
      go_ret
      exact ⟨rfl, rfl⟩
set_option maxRecDepth 100000 in
set_option maxHeartbeats 2000000 in
theorem sclone_any {p : List UInt8} {w : World} {a : Addr} {c : Nat} (hp : Rd w (.slice (some a) p.length c) p) (hl : p.length ≤ 100000) : Calls Tryz.prog 143 #[.slice (some a) p.length c] w fun e w' => ∃ v, e = .returned v ∧ Rd w' v p ∧ FarV w v ∧ Below w.heap.size w w' := by
  obtain ⟨i0, hi, hz0, hz1, hz2⟩ := info_parts info_u8
  have qT : ∀ (w : World) (a : Option Addr) (n c n' c' : Nat), (binOp .eql 36 (.slice a n c) (.slice none n' c')).run Tryz.prog w = .ok (.bool a.isNone) w := fun w a n c n' c' => Lib.run_eql_slice_nil w _ _ a n c n' c' Tryz.underlying36
  have B1 : Below w.heap.size w (w.alloc (.cells #[] 5)) := (Below.refl _ _).alloc (Nat.le_refl _) _
  have O1 : (w.alloc (.cells #[] 5)).ownsRow w.heap.size 5 1 (.slice (some ⟨w.heap.size, 0, none⟩) 0 0) 0 [] := own_new w _
  have hp1 := hp.below B1
  have hsz : w.heap.size ≤ (w.alloc (.cells #[] 5)).heap.size := B1.size
  go_enter Tryz.func143, Tryz.ntmps143
  go_wp2_with (at_builtin; go_loud (refine wpList_append_rd _ rfl (.tmp 5) (.tmp 6) 36 rfl w.heap.size 5 i0 Tryz.underlying36 hi hz0 hz1 hz2 (.slice (some ⟨w.heap.size, 0, none⟩) 0 0) 0 [] rfl O1 (.slice (some a) p.length c) p rfl hp1 (by omega) hsz ?_); intro v' w9 hv9 hg9)
  have HB : Hid (Below w.heap.size w w9) := B1.grown hg9 hsz (fun q hq => by cases hq; exact Nat.le_refl _)
  have HO : Hid (Rd w9 v' p ∧ FarV w v') := ⟨rd_one hv9, FarV.own hv9⟩
  clear hv9 hg9 B1 O1 hp1 hp qT
  go_wp2
  go_ret
  exact ⟨v', rfl, HO.out.1, HO.out.2, HB.out⟩
end Go.Proofs.YtddnfhfangfgeaaGreat.Gf

namespace Go.Proofs.YtddnfhfangfgeaaGreat.Gf
set_option linter.unusedVariables false
set_option linter.unusedSimpArgs false
open Go.RowKit
/-- what is left: bytes, an error -/
def MakesS (w : World) (X : Int) (R : List UInt8) (e : Ending) (w' : World) : Prop := ∃ v, e = .returned (.tuple #[v, .int .i64 X]) ∧ Rd w' v R ∧ Below w.heap.size w w'
theorem RowF.partS {w : World} {base e g L C : Nat} {f : Nat → UInt8} (h : RowF w base e g L C f) {c cap : Nat} (hc : 0 < c) (hl : c ≤ L) (hcap : c ≤ cap) (hm : cap ≤ maxLen) : Rd w (.slice (some ⟨g, 0, none⟩) c cap) (upto f c) := by
  refine Or.inr ⟨g, 0, cap, fun e => ?_, by rw [upto_length], by rw [upto_length]; exact hcap, hm, h.lt.2, fun i hi => ?_⟩
  · have := upto_length f c
    rw [e] at this
    simp at this
    omega
  · rw [upto_length] at hi
    rw [co_upto_lt hi, Nat.zero_add]
    exact h.cell (by omega)
/-- the first numbers are those of a list -/
def Pre (f : Nat → UInt8) (r : List UInt8) : Prop := ∀ t, t < r.length → f t = co r t
theorem Pre.nil (f : Nat → UInt8) : Pre f [] := fun t h => by simp at h
theorem Pre.put {f : Nat → UInt8} {r : List UInt8} (h : Pre f r) (q : List UInt8) {k n : Nat} (hk : k = r.length) (hn : n = q.length) : Pre (putAt f k n (co q)) (r ++ q) := by
  subst hk hn
  intro t ht
  rw [List.length_append] at ht
  by_cases h1 : t < r.length
  · rw [putAt_out (Or.inl h1), co_append_lt h1]
    exact h t h1
  · obtain ⟨j, rfl⟩ := Nat.exists_eq_add_of_le (show r.length ≤ t by omega)
    rw [putAt_in (by omega), co_append_ge (by omega), Nat.add_sub_cancel_left]
theorem Pre.upto {f : Nat → UInt8} {r : List UInt8} (h : Pre f r) {n : Nat} (hn : n = r.length) : upto f n = r := by
  subst hn
  refine co_ext (upto_length _ _) fun i hi => ?_
  rw [upto_length] at hi
  rw [co_upto_lt hi]
  exact h i hi
set_option maxRecDepth 100000 in
set_option maxHeartbeats 4000000 in
theorem spack_any {a e : Int} {v : Value} {p : List UInt8} {w : World} (hp : Rd w v p) : Calls Tryz.prog 85 #[.int .i64 a, .int .i64 e, v] w (MakesS w (paX a e p) (paR a e p)) := by
  obtain ⟨va, vc, rfl⟩ := hp.form
  have hmax := hp.len
  unfold maxLen at hmax
  by_cases ha : 0 ≤ a ∧ a ≤ 2147483647
  · have da : decide (0 ≤ a ∧ a ≤ 2147483647) = true := decide_eq_true ha
    by_cases he : 0 ≤ e ∧ e ≤ 2147483647
    · have de : decide (0 ≤ e ∧ e ≤ 2147483647) = true := decide_eq_true he
      by_cases hl : p.length ≤ 4096
      · rw [(pa_ok ⟨ha, he, hl⟩).1, (pa_ok ⟨ha, he, hl⟩).2]
        have hl' : ¬ (p.length : Int) > 4096 := by omega
        obtain ⟨i0, hi, hz0, hz1, hz2⟩ := info_parts info_u8
        obtain ⟨L, hL⟩ : ∃ L, Hid (L = 12 + p.length) := ⟨_, rfl⟩
        have g0 : (12 : Int) + (p.length : Int) = (L : Int) := by have := hL.out; omega
        have gw : IntKind.i64.wrap (L : Int) = (L : Int) := by rw [IntKind.wrap_i64]; have := hL.out; omega
        have hL5 : L ≤ 5000 := by have := hL.out; omega
        have hL4 : 12 ≤ L := by have := hL.out; omega
        go_enter Tryz.func85, Tryz.ntmps85
        go_wp2_with fail
        refine smay_any.mono ?_
        rintro e' w' ⟨rfl, rfl⟩
        rw [da]
        go_wp2_with fail
        refine smay_any.mono ?_
        rintro e' w' ⟨rfl, rfl⟩
        rw [de]
        clear da de
        obtain ⟨wo, hwo⟩ : ∃ wo, wo = w' := ⟨_, rfl⟩
        subst hwo
        obtain ⟨A, rfl⟩ : ∃ A : Nat, a = (A : Int) := ⟨a.toNat, by omega⟩
        obtain ⟨E, rfl⟩ : ∃ E : Nat, e = (E : Int) := ⟨e.toNat, by omega⟩
        rw [Int.toNat_natCast, Int.toNat_natCast]
        have wA : IntKind.u32.wrap (A : Int) = (A : Int) := by rw [IntKind.wrap_u32]; omega
        have wE : IntKind.u32.wrap (E : Int) = (E : Int) := by rw [IntKind.wrap_u32]; omega
        go_wp2_with (at_make; go_loud (refine wpList_make_full _ rfl (.tmp 26) (.tmp 26) 36 rfl wo.heap.size 5 i0 (.int .u8 0) 1 Tryz.underlying36 hi hz0 hz1 _ _ _ _ L rfl rfl (by omega) (by omega) (by rw [hz2]; omega) (by unfold maxLen; omega) (Nat.le_refl _) ?_); intro w1 hown1 hgrow1; have R1 := RowF.made hown1; have B1 : Below wo.heap.size wo w1 := (Below.refl _ _).grown hgrow1 (Nat.le_refl _) (fun k h => by cases h); clear hown1 hgrow1)
        obtain ⟨g, hg⟩ : ∃ g, g = wo.heap.size := ⟨_, rfl⟩
        obtain ⟨bb, hbb⟩ : ∃ bb, bb = w1.heap.size := ⟨_, rfl⟩
        obtain ⟨lb, hlb⟩ : ∃ lb, lb = w1.heap.size + 1 := ⟨_, rfl⟩
        have hlt := R1.lt.2
        obtain ⟨w2, hw2⟩ : ∃ w2, w2 = ((w1.alloc (.cells #[.slice (some ⟨wo.heap.size, 0, none⟩) L L] 36)).alloc (.cells #[.int .i64 0] 3)) := ⟨_, rfl⟩
        have D2 : Below w1.heap.size w1 w2 := by rw [hw2]; exact below_lit (below_lit (Below.refl _ _) _) _
        have R2 : RowF w2 wo.heap.size 5 wo.heap.size L L (fun _ => 0) := R1.later D2
        have s2 : w2.heap.size = w1.heap.size + 2 := by rw [hw2]; simp
        have c1 : w2.cell? ⟨lb, 0, none⟩ = some (.int .i64 ((0 : Nat) : Int)) := by rw [hw2, hlb]; go_simp
        have c2 : w2.cell? ⟨bb, 0, none⟩ = some (.slice (some ⟨g, 0, none⟩) L L) := by rw [hw2, hbb, hg]; go_simp
        have fz : w2.frozen? ⟨lb, 0, none⟩ = false := by rw [hw2, hlb]; go_simp
        have B2 : Below wo.heap.size wo w2 := Below.step B1 D2
        rw [← hw2, ← hlb, ← hbb, ← hg]
        rw [← hg] at R2
        have n1 : lb ≠ g := by omega
        have n2 : bb ≠ g := by omega
        have n3 : lb ≠ bb := by omega
        have l1 : lb < w2.heap.size := by omega
        have l2 : bb < w2.heap.size := by omega
        have AP : ApartL [lb, g] (.slice va p.length vc) := hp.apartL (by intro x hx; simp at hx; omega)
        have R2p := hp.below B2
        have GB : ∀ x, x ∈ [lb, g] → wo.heap.size ≤ x := by intro x hx; simp at hx; omega
        have PZ : Pre (fun _ => 0) [] := Pre.nil _
        clear hw2 s2 D2 R1 B1 hlt hg hbb hlb hp
        refine (slay_any (n := A) rfl c1 c2 fz R2 (by omega) hL5 l1 l2 n1 n2 n3).mono ?_
        rintro e' w3 ⟨rfl, d1, d2, dz, R3, T3⟩
        have P3 : Pre (putAt (fun _ => 0) 0 4 (co (fo A))) ([] ++ fo A) := PZ.put (fo A) rfl rfl
        have s3 := T3.size
        clear c1 c2 fz R2 PZ
        generalize putAt (fun _ => 0) 0 4 (co (fo A)) = f3 at *
        go_wp2_with fail
        refine (slay_any (n := E) rfl d1 d2 dz R3 (by omega) hL5 (by omega) (by omega) n1 n2 n3).mono ?_
        rintro e' w4 ⟨rfl, c1, c2, fz, R4, T4⟩
        have P4 : Pre (putAt f3 (0 + 4) 4 (co (fo E))) (([] ++ fo A) ++ fo E) := P3.put (fo E) rfl rfl
        replace T4 := T3.trans T4
        have s4 := T4.size
        clear d1 d2 dz R3 P3 T3 s3
        generalize putAt f3 (0 + 4) 4 (co (fo E)) = f4 at *
        rw [show 0 + 4 + 4 = 8 from rfl] at c1
        have RD := (R2p.turnL AP T4).drewN 1
        have RA : RowF w4.drew g 5 g L L f4 := R4.later (Below.refl _ _).drew
        obtain ⟨M, hM⟩ : ∃ M, Hid (M = 8 + p.length) := ⟨_, rfl⟩
        have g5 : (8 : Int) + (p.length : Int) = (M : Int) := by have := hM.out; omega
        have gw5 : IntKind.i64.wrap (M : Int) = (M : Int) := by rw [IntKind.wrap_i64]; have := hM.out; omega
        have hML : M + 4 = L := by have := hM.out; have := hL.out; omega
        have hM8 : 8 ≤ M := by have := hM.out; omega
        have P5 : Pre (putAt f4 8 p.length (co p)) (([] ++ fo A ++ fo E) ++ p) := P4.put p rfl rfl
        have HH : Hid (upto (putAt f4 8 p.length (co p)) M = hdS A E p) := by
          show _ = _
          rw [P5.upto (by rw [hM.out]; simp [fo_length]; omega)]
          unfold hdS
          simp
        have hdl : p.length ≤ L - 8 := by have := hM.out; omega
        have g6 : (8 : Int) ≤ (L : Int) := by omega
        have g7 : ¬ L = 8 := by omega
        have g8 : 8 < L := by omega
        have hpl : 8 + p.length ≤ L := by have := hM.out; omega
        have FIN : ∀ v3, Only g w4.drew v3 → RowF v3 g 5 g L L (putAt f4 8 p.length (co p)) → Hid ((v3.setCell ⟨lb, 0, none⟩ (.int .i64 (M : Int))).cell? ⟨lb, 0, none⟩ = some (.int .i64 (M : Int)) ∧ (v3.setCell ⟨lb, 0, none⟩ (.int .i64 (M : Int))).cell? ⟨bb, 0, none⟩ = some (.slice (some ⟨g, 0, none⟩) L L) ∧ (v3.setCell ⟨lb, 0, none⟩ (.int .i64 (M : Int))).frozen? ⟨lb, 0, none⟩ = false ∧ RowF (v3.setCell ⟨lb, 0, none⟩ (.int .i64 (M : Int))) g 5 g L L (putAt f4 8 p.length (co p)) ∧ TurnL [lb, g] w2 (v3.setCell ⟨lb, 0, none⟩ (.int .i64 (M : Int)))) := by
          intro v3 O3 R3
          have c1v := (O3.cell (p := ⟨lb, 0, none⟩) n1).trans c1
          have c2v := (O3.cell (p := ⟨bb, 0, none⟩) n2).trans c2
          have fzv := (O3.frozen (p := ⟨lb, 0, none⟩) n1).trans fz
          have OO := (Only.refl lb v3).setCell 0 (.int .i64 (M : Int))
          refine ⟨by simp [go_sem, c1v], (OO.cell (p := ⟨bb, 0, none⟩) n3.symm).trans c2v, by simp [go_sem, fzv], R3.only n1.symm OO, ((T4.drew).trans (O3.turnL (by simp))).trans (OO.turnL (by simp))⟩
        clear R2p AP R4 hM P4 hL
        go_wp2
        -- REGION
        refine wp_region_held_drew (S := (fun wx => wx.cell? ⟨bb, 0, none⟩ = some (.slice (some ⟨g, 0, none⟩) L L))) (by kernel_rfl) ?_ (fun hHeld => ?_)
        · exact c2
        refine wpAnyH_take (i := 1) (v := ?_) rfl (by kernel_rfl) (by kernel_rfl) (by kernel_rfl) (fun _ _ _ h => h) (Or.inl ⟨by rfl, ?_⟩) (by assumption) ?_
        rotate_left
        · intro w hSw; (try dsimp only at hSw); go_simp; try with_reducible rfl
        try simp only [List.getElem_toArray, List.getElem_cons_succ, List.getElem_cons_zero, Act.put, List.setIfInBounds_toArray, List.set_cons_zero, List.set_cons_succ]
        refine wpAnyH_take (i := 4) (v := ?_) rfl (by kernel_rfl) (by kernel_rfl) (by kernel_rfl) (fun _ _ _ h => h) (Or.inl ⟨by rfl, ?_⟩) (by assumption) ?_
        rotate_left
        · intro w hSw; (try dsimp only at hSw); go_simp; try with_reducible rfl
        try simp only [List.getElem_toArray, List.getElem_cons_succ, List.getElem_cons_zero, Act.put, List.setIfInBounds_toArray, List.set_cons_zero, List.set_cons_succ]
        refine wpAnyH_ready (rs := [0, 2]) (by kernel_rfl) (by simp) ?_
        refine AllReadyH.cons rfl (fun K hK => ?_) (AllReadyH.cons rfl (fun K hK => ?_) AllReadyH.nil)
        · go_simp
          refine hK.out _ _ ?_ (fun hHeld => ?_)
          · assumption
          clear hK K
          try simp only [List.getElem_toArray, List.getElem_cons_succ, List.getElem_cons_zero, Act.put, List.setIfInBounds_toArray, List.set_cons_zero, List.set_cons_succ]
          refine wpAnyH_ready (rs := [2]) (by kernel_rfl) (by simp) ?_
          refine AllReadyH.cons rfl (fun K hK => ?_) AllReadyH.nil
          go_simp
          refine hK.out _ _ ?_ (fun hHeld => ?_)
          · assumption
          clear hK K
          try simp only [List.getElem_toArray, List.getElem_cons_succ, List.getElem_cons_zero, Act.put, List.setIfInBounds_toArray, List.set_cons_zero, List.set_cons_succ]
          refine wpAnyH_take (i := 3) (v := ?_) rfl (by kernel_rfl) (by kernel_rfl) (by kernel_rfl) (fun _ _ _ h => h) (Or.inl ⟨by rfl, ?_⟩) (by assumption) ?_
          rotate_left
          · intro w hSw; (try dsimp only at hSw); go_simp; try with_reducible rfl
          try simp only [List.getElem_toArray, List.getElem_cons_succ, List.getElem_cons_zero, Act.put, List.setIfInBounds_toArray, List.set_cons_zero, List.set_cons_succ]
          refine wpAnyH_ready (rs := [5]) (by kernel_rfl) (by simp) ?_
          refine AllReadyH.cons rfl (fun K hK => ?_) AllReadyH.nil
          refine step_copy_rd rfl (.tmp 40) (.tmp 41) 36 36 rfl 5 Tryz.underlying36 info1_u8s rfl rfl RD rfl hdl RA (by omega) ?_
          intro v3 O3 R3
          have c1v := (O3.cell (p := ⟨lb, 0, none⟩) n1).trans c1
          have c2v := (O3.cell (p := ⟨bb, 0, none⟩) n2).trans c2
          have fzv := (O3.frozen (p := ⟨lb, 0, none⟩) n1).trans fz
          have FW := FIN v3 O3 R3
          clear FIN RD RA
          refine hK.out _ _ ?_ (fun hHeld => ?_)
          · exact c2v
          clear hK K
          try simp only [List.getElem_toArray, List.getElem_cons_succ, List.getElem_cons_zero, Act.put, List.setIfInBounds_toArray, List.set_cons_zero, List.set_cons_succ]
          refine wpAnyH_take (i := 6) (v := ?_) rfl (by kernel_rfl) (by kernel_rfl) (by kernel_rfl) (fun _ _ _ h => h) (Or.inl ⟨by rfl, ?_⟩) (by assumption) ?_
          rotate_left
          · intro w hSw; (try dsimp only at hSw); go_simp; try with_reducible rfl
          try simp only [List.getElem_toArray, List.getElem_cons_succ, List.getElem_cons_zero, Act.put, List.setIfInBounds_toArray, List.set_cons_zero, List.set_cons_succ]
          refine wpAnyH_ready (rs := [7]) (by kernel_rfl) (by simp) ?_
          refine AllReadyH.cons rfl (fun K hK => ?_) AllReadyH.nil
          go_simp
          refine hK.out _ _ ?_ (fun hHeld => ?_)
          · exact (((Only.refl lb v3).setCell 0 _).cell (p := ⟨bb, 0, none⟩) n3.symm).trans c2v
          clear hK K
          try simp only [List.getElem_toArray, List.getElem_cons_succ, List.getElem_cons_zero, Act.put, List.setIfInBounds_toArray, List.set_cons_zero, List.set_cons_succ]
          refine wpAnyH_done (by kernel_rfl) ?_ _
          try simp only [List.getElem_toArray, List.getElem_cons_succ, List.getElem_cons_zero, Act.put, List.setIfInBounds_toArray, List.set_cons_zero, List.set_cons_succ]
          clear c1v c2v fzv hHeld c1 c2 fz O3 R3
          obtain ⟨c1, c2, fz, R5, T5⟩ := FW.out
          clear FW
          generalize v3.setCell ⟨lb, 0, none⟩ (.int .i64 (M : Int)) = w5 at *
          generalize putAt f4 8 p.length (co p) = f5 at *
          have RS : Rd w5 (.slice (some ⟨g, 0, none⟩) M L) (hdS A E p) := by rw [← HH.out]; exact R5.partS (by omega) (by omega) (by omega) (by unfold maxLen; omega)
          have hsl := hdS_length A E p
          have hML' : (M : Int) ≤ (L : Int) := by omega
          have s5 := T5.size
          go_wp2_with fail
          refine (csum_any RS (by omega)).mono ?_
          rintro e' w6 ⟨rfl, b6⟩
          have R6 := R5.later b6
          have d1 := (b6.cell (p := ⟨lb, 0, none⟩) (show lb < w5.heap.size by omega)).trans c1
          have d2 := (b6.cell (p := ⟨bb, 0, none⟩) (show bb < w5.heap.size by omega)).trans c2
          have dz := (b6.frozen (p := ⟨lb, 0, none⟩) (show lb < w5.heap.size by omega)).trans fz
          have T6 : TurnL [lb, g] w2 w6 := T5.trans (Below.turnL b6 _)
          have s6 := T6.size
          clear RS R5 c1 c2 fz T5 b6 s5
          go_wp2_with fail
          refine (slay_any (n := more 0 (hdS A E p)) rfl d1 d2 dz R6 (by omega) hL5 (by omega) (by omega) n1 n2 n3).mono ?_
          rintro e' w7 ⟨rfl, c1, c2, fz, R7, T7⟩
          replace T7 := T6.trans T7
          have HR : Hid (Rd w7 (.slice (some ⟨g, 0, none⟩) L L) (pkS A E p)) := by
            have e1 : upto (putAt f5 M 4 (co (fo (more 0 (hdS A E p))))) L = pkS A E p := by
              have q1 := P5.put (fo (more 0 (hdS A E p))) (k := M) (n := 4) (by simp [fo_length]; omega) rfl
              rw [q1.upto (by simp [fo_length]; omega)]
              unfold pkS hdS
              simp
            rw [← e1]
            exact R7.rd
          have HB : Hid (Below wo.heap.size wo w7) := B2.trans (T7.below GB B2.size)
          clear d1 d2 dz R6 T6 c1 fz R7 T7 P5 HH
          go_wp2
          go_ret2
          exact ⟨_, rfl, HR.out, HB.out⟩
        · go_simp
          refine hK.out _ _ ?_ (fun hHeld => ?_)
          · assumption
          clear hK K
          try simp only [List.getElem_toArray, List.getElem_cons_succ, List.getElem_cons_zero, Act.put, List.setIfInBounds_toArray, List.set_cons_zero, List.set_cons_succ]
          refine wpAnyH_take (i := 3) (v := ?_) rfl (by kernel_rfl) (by kernel_rfl) (by kernel_rfl) (fun _ _ _ h => h) (Or.inl ⟨by rfl, ?_⟩) (by assumption) ?_
          rotate_left
          · intro w hSw; (try dsimp only at hSw); go_simp; try with_reducible rfl
          try simp only [List.getElem_toArray, List.getElem_cons_succ, List.getElem_cons_zero, Act.put, List.setIfInBounds_toArray, List.set_cons_zero, List.set_cons_succ]
          refine wpAnyH_ready (rs := [0, 5]) (by kernel_rfl) (by simp) ?_
          refine AllReadyH.cons rfl (fun K hK => ?_) (AllReadyH.cons rfl (fun K hK => ?_) AllReadyH.nil)
          · go_simp
            refine hK.out _ _ ?_ (fun hHeld => ?_)
            · assumption
            clear hK K
            try simp only [List.getElem_toArray, List.getElem_cons_succ, List.getElem_cons_zero, Act.put, List.setIfInBounds_toArray, List.set_cons_zero, List.set_cons_succ]
            refine wpAnyH_ready (rs := [5]) (by kernel_rfl) (by simp) ?_
            refine AllReadyH.cons rfl (fun K hK => ?_) AllReadyH.nil
            refine step_copy_rd rfl (.tmp 40) (.tmp 41) 36 36 rfl 5 Tryz.underlying36 info1_u8s rfl rfl RD rfl hdl RA (by omega) ?_
            intro v3 O3 R3
            have c1v := (O3.cell (p := ⟨lb, 0, none⟩) n1).trans c1
            have c2v := (O3.cell (p := ⟨bb, 0, none⟩) n2).trans c2
            have fzv := (O3.frozen (p := ⟨lb, 0, none⟩) n1).trans fz
            have FW := FIN v3 O3 R3
            clear FIN RD RA
            refine hK.out _ _ ?_ (fun hHeld => ?_)
            · exact c2v
            clear hK K
            try simp only [List.getElem_toArray, List.getElem_cons_succ, List.getElem_cons_zero, Act.put, List.setIfInBounds_toArray, List.set_cons_zero, List.set_cons_succ]
            refine wpAnyH_take (i := 6) (v := ?_) rfl (by kernel_rfl) (by kernel_rfl) (by kernel_rfl) (fun _ _ _ h => h) (Or.inl ⟨by rfl, ?_⟩) (by assumption) ?_
            rotate_left
            · intro w hSw; (try dsimp only at hSw); go_simp; try with_reducible rfl
            try simp only [List.getElem_toArray, List.getElem_cons_succ, List.getElem_cons_zero, Act.put, List.setIfInBounds_toArray, List.set_cons_zero, List.set_cons_succ]
            refine wpAnyH_ready (rs := [7]) (by kernel_rfl) (by simp) ?_
            refine AllReadyH.cons rfl (fun K hK => ?_) AllReadyH.nil
            go_simp
            refine hK.out _ _ ?_ (fun hHeld => ?_)
            · exact (((Only.refl lb v3).setCell 0 _).cell (p := ⟨bb, 0, none⟩) n3.symm).trans c2v
            clear hK K
            try simp only [List.getElem_toArray, List.getElem_cons_succ, List.getElem_cons_zero, Act.put, List.setIfInBounds_toArray, List.set_cons_zero, List.set_cons_succ]
            refine wpAnyH_done (by kernel_rfl) ?_ _
            try simp only [List.getElem_toArray, List.getElem_cons_succ, List.getElem_cons_zero, Act.put, List.setIfInBounds_toArray, List.set_cons_zero, List.set_cons_succ]
            clear c1v c2v fzv hHeld c1 c2 fz O3 R3
            obtain ⟨c1, c2, fz, R5, T5⟩ := FW.out
            clear FW
            generalize v3.setCell ⟨lb, 0, none⟩ (.int .i64 (M : Int)) = w5 at *
            generalize putAt f4 8 p.length (co p) = f5 at *
            have RS : Rd w5 (.slice (some ⟨g, 0, none⟩) M L) (hdS A E p) := by rw [← HH.out]; exact R5.partS (by omega) (by omega) (by omega) (by unfold maxLen; omega)
            have hsl := hdS_length A E p
            have hML' : (M : Int) ≤ (L : Int) := by omega
            have s5 := T5.size
            go_wp2_with fail
            refine (csum_any RS (by omega)).mono ?_
            rintro e' w6 ⟨rfl, b6⟩
            have R6 := R5.later b6
            have d1 := (b6.cell (p := ⟨lb, 0, none⟩) (show lb < w5.heap.size by omega)).trans c1
            have d2 := (b6.cell (p := ⟨bb, 0, none⟩) (show bb < w5.heap.size by omega)).trans c2
            have dz := (b6.frozen (p := ⟨lb, 0, none⟩) (show lb < w5.heap.size by omega)).trans fz
            have T6 : TurnL [lb, g] w2 w6 := T5.trans (Below.turnL b6 _)
            have s6 := T6.size
            clear RS R5 c1 c2 fz T5 b6 s5
            go_wp2_with fail
            refine (slay_any (n := more 0 (hdS A E p)) rfl d1 d2 dz R6 (by omega) hL5 (by omega) (by omega) n1 n2 n3).mono ?_
            rintro e' w7 ⟨rfl, c1, c2, fz, R7, T7⟩
            replace T7 := T6.trans T7
            have HR : Hid (Rd w7 (.slice (some ⟨g, 0, none⟩) L L) (pkS A E p)) := by
              have e1 : upto (putAt f5 M 4 (co (fo (more 0 (hdS A E p))))) L = pkS A E p := by
                have q1 := P5.put (fo (more 0 (hdS A E p))) (k := M) (n := 4) (by simp [fo_length]; omega) rfl
                rw [q1.upto (by simp [fo_length]; omega)]
                unfold pkS hdS
                simp
              rw [← e1]
              exact R7.rd
            have HB : Hid (Below wo.heap.size wo w7) := B2.trans (T7.below GB B2.size)
            clear d1 d2 dz R6 T6 c1 fz R7 T7 P5 HH
            go_wp2
            go_ret2
            exact ⟨_, rfl, HR.out, HB.out⟩
          · refine step_copy_rd rfl (.tmp 40) (.tmp 41) 36 36 rfl 5 Tryz.underlying36 info1_u8s rfl rfl RD rfl hdl RA (by omega) ?_
            intro v3 O3 R3
            have c1v := (O3.cell (p := ⟨lb, 0, none⟩) n1).trans c1
            have c2v := (O3.cell (p := ⟨bb, 0, none⟩) n2).trans c2
            have fzv := (O3.frozen (p := ⟨lb, 0, none⟩) n1).trans fz
            have FW := FIN v3 O3 R3
            clear FIN RD RA
            refine hK.out _ _ ?_ (fun hHeld => ?_)
            · exact c2v
            clear hK K
            try simp only [List.getElem_toArray, List.getElem_cons_succ, List.getElem_cons_zero, Act.put, List.setIfInBounds_toArray, List.set_cons_zero, List.set_cons_succ]
            refine wpAnyH_ready (rs := [0]) (by kernel_rfl) (by simp) ?_
            refine AllReadyH.cons rfl (fun K hK => ?_) AllReadyH.nil
            go_simp
            refine hK.out _ _ ?_ (fun hHeld => ?_)
            · assumption
            clear hK K
            try simp only [List.getElem_toArray, List.getElem_cons_succ, List.getElem_cons_zero, Act.put, List.setIfInBounds_toArray, List.set_cons_zero, List.set_cons_succ]
            refine wpAnyH_take (i := 6) (v := ?_) rfl (by kernel_rfl) (by kernel_rfl) (by kernel_rfl) (fun _ _ _ h => h) (Or.inl ⟨by rfl, ?_⟩) (by assumption) ?_
            rotate_left
            · intro w hSw; (try dsimp only at hSw); go_simp; try with_reducible rfl
            try simp only [List.getElem_toArray, List.getElem_cons_succ, List.getElem_cons_zero, Act.put, List.setIfInBounds_toArray, List.set_cons_zero, List.set_cons_succ]
            refine wpAnyH_ready (rs := [7]) (by kernel_rfl) (by simp) ?_
            refine AllReadyH.cons rfl (fun K hK => ?_) AllReadyH.nil
            go_simp
            refine hK.out _ _ ?_ (fun hHeld => ?_)
            · exact (((Only.refl lb v3).setCell 0 _).cell (p := ⟨bb, 0, none⟩) n3.symm).trans c2v
            clear hK K
            try simp only [List.getElem_toArray, List.getElem_cons_succ, List.getElem_cons_zero, Act.put, List.setIfInBounds_toArray, List.set_cons_zero, List.set_cons_succ]
            refine wpAnyH_done (by kernel_rfl) ?_ _
            try simp only [List.getElem_toArray, List.getElem_cons_succ, List.getElem_cons_zero, Act.put, List.setIfInBounds_toArray, List.set_cons_zero, List.set_cons_succ]
            clear c1v c2v fzv hHeld c1 c2 fz O3 R3
            obtain ⟨c1, c2, fz, R5, T5⟩ := FW.out
            clear FW
            generalize v3.setCell ⟨lb, 0, none⟩ (.int .i64 (M : Int)) = w5 at *
            generalize putAt f4 8 p.length (co p) = f5 at *
            have RS : Rd w5 (.slice (some ⟨g, 0, none⟩) M L) (hdS A E p) := by rw [← HH.out]; exact R5.partS (by omega) (by omega) (by omega) (by unfold maxLen; omega)
            have hsl := hdS_length A E p
            have hML' : (M : Int) ≤ (L : Int) := by omega
            have s5 := T5.size
            go_wp2_with fail
            refine (csum_any RS (by omega)).mono ?_
            rintro e' w6 ⟨rfl, b6⟩
            have R6 := R5.later b6
            have d1 := (b6.cell (p := ⟨lb, 0, none⟩) (show lb < w5.heap.size by omega)).trans c1
            have d2 := (b6.cell (p := ⟨bb, 0, none⟩) (show bb < w5.heap.size by omega)).trans c2
            have dz := (b6.frozen (p := ⟨lb, 0, none⟩) (show lb < w5.heap.size by omega)).trans fz
            have T6 : TurnL [lb, g] w2 w6 := T5.trans (Below.turnL b6 _)
            have s6 := T6.size
            clear RS R5 c1 c2 fz T5 b6 s5
            go_wp2_with fail
            refine (slay_any (n := more 0 (hdS A E p)) rfl d1 d2 dz R6 (by omega) hL5 (by omega) (by omega) n1 n2 n3).mono ?_
            rintro e' w7 ⟨rfl, c1, c2, fz, R7, T7⟩
            replace T7 := T6.trans T7
            have HR : Hid (Rd w7 (.slice (some ⟨g, 0, none⟩) L L) (pkS A E p)) := by
              have e1 : upto (putAt f5 M 4 (co (fo (more 0 (hdS A E p))))) L = pkS A E p := by
                have q1 := P5.put (fo (more 0 (hdS A E p))) (k := M) (n := 4) (by simp [fo_length]; omega) rfl
                rw [q1.upto (by simp [fo_length]; omega)]
                unfold pkS hdS
                simp
              rw [← e1]
              exact R7.rd
            have HB : Hid (Below wo.heap.size wo w7) := B2.trans (T7.below GB B2.size)
            clear d1 d2 dz R6 T6 c1 fz R7 T7 P5 HH
            go_wp2
            go_ret2
            exact ⟨_, rfl, HR.out, HB.out⟩
  -- REGION END
      · rw [(pa_not (fun h => hl h.2.2)).1, (pa_not (fun h => hl h.2.2)).2]
        have hl' : (p.length : Int) > 4096 := by omega
        go_enter Tryz.func85, Tryz.ntmps85
        go_wp2_with fail
        refine smay_any.mono ?_
        rintro e' w' ⟨rfl, rfl⟩
        rw [da]
        go_wp2_with fail
        refine smay_any.mono ?_
        rintro e' w' ⟨rfl, rfl⟩
        rw [de]
        go_wp2
        go_ret2
        exact ⟨_, rfl, rd_nil0, Below.refl _ _⟩
    · have de : decide (0 ≤ e ∧ e ≤ 2147483647) = false := decide_eq_false he
      rw [(pa_not (fun h => he h.2.1)).1, (pa_not (fun h => he h.2.1)).2]
      go_enter Tryz.func85, Tryz.ntmps85
      go_wp2_with fail
      refine smay_any.mono ?_
      rintro e' w' ⟨rfl, rfl⟩
      rw [da]
      go_wp2_with fail
      refine smay_any.mono ?_
      rintro e' w' ⟨rfl, rfl⟩
      rw [de]
      go_wp2
      go_ret2
      exact ⟨_, rfl, rd_nil0, Below.refl _ _⟩
  · have da : decide (0 ≤ a ∧ a ≤ 2147483647) = false := decide_eq_false ha
    rw [(pa_not (fun h => ha h.1)).1, (pa_not (fun h => ha h.1)).2]
    go_enter Tryz.func85, Tryz.ntmps85
    go_wp2_with fail
    refine smay_any.mono ?_
    rintro e' w' ⟨rfl, rfl⟩
    rw [da]
    go_wp2
    go_ret2
    exact ⟨_, rfl, rd_nil0, Below.refl _ _⟩
end Go.Proofs.YtddnfhfangfgeaaGreat.Gf

namespace Go.Proofs.YtddnfhfangfgeaaGreat.Gf
set_option linter.unusedVariables false
set_option linter.unusedSimpArgs false
open Go.RowKit
instance : Inhabited TH := ⟨(0, [], undef)⟩
structure HeldAt (w : World) (b off : Nat) (t : TH) : Prop where
  c0 : w.cell? ⟨b, off, none⟩ = some (.int .i64 t.1)
  c1 : w.cell? ⟨b, off + 1, none⟩ = some t.2.2
  rd : Rd w t.2.2 t.2.1
def RdT (w : World) (v : Value) (T : List TH) : Prop :=
  (∃ a c, T = [] ∧ v = .slice a 0 c) ∨ (∃ b off c, T ≠ [] ∧ v = .slice (some ⟨b, off, none⟩) T.length c ∧ T.length ≤ 100000 ∧ b < w.heap.size ∧ ∀ i, i < T.length → HeldAt w b (off + i * 2) (T.getD i default))
theorem RdT.below {w w' : World} {v : Value} {T : List TH} (h : RdT w v T) (hb : Below w.heap.size w w') : RdT w' v T := by
  rcases h with h | ⟨b, off, c, h1, h2, h3, h4, h5⟩
  · exact Or.inl h
  · refine Or.inr ⟨b, off, c, h1, h2, h3, Nat.lt_of_lt_of_le h4 hb.size, fun i hi => ?_⟩
    have h6 := h5 i hi
    exact ⟨(hb.cell (p := ⟨b, off + i * 2, none⟩) h4).trans h6.c0, (hb.cell (p := ⟨b, off + i * 2 + 1, none⟩) h4).trans h6.c1, h6.rd.below hb⟩
theorem RdT.form {w : World} {v : Value} {T : List TH} (h : RdT w v T) : ∃ a c, v = .slice a T.length c := by
  rcases h with ⟨a, c, rfl, rfl⟩ | ⟨b, off, c, _, rfl, _⟩
  · exact ⟨a, c, rfl⟩
  · exact ⟨_, c, rfl⟩
theorem RdT.len {w : World} {v : Value} {T : List TH} (h : RdT w v T) : T.length ≤ 100000 := by
  rcases h with ⟨a, c, rfl, rfl⟩ | ⟨b, off, c, _, rfl, h, _⟩
  · exact Nat.zero_le _
  · exact h
theorem RdT.at {w : World} {a : Option Addr} {c : Nat} {T : List TH} (h : RdT w (.slice a T.length c) T) {k : Nat} (hk : k < T.length) : ∃ b off, a = some ⟨b, off, none⟩ ∧ HeldAt w b (off + k * 2) (T.getD k default) := by
  rcases h with ⟨_, _, h1, _⟩ | ⟨b, off, c, h1, h2, h3, h4, h5⟩
  · rw [h1] at hk; simp at hk
  · simp at h2
    exact ⟨b, off, h2.1, h5 k hk⟩
theorem RdT.drewN {w : World} {v : Value} {T : List TH} (h : RdT w v T) (n : Nat) : RdT (w.drewN n) v T := h.below ((Below.refl _ _).drewN n)
/-- one of one's own -/
theorem cellsT_at (T : List TH) {i : Nat} (hi : i < T.length) : (cellsT T)[i * 2]? = some (.int .i64 (T.getD i default).1) ∧ (cellsT T)[i * 2 + 1]? = some (T.getD i default).2.2 := by
  induction T generalizing i with
  | nil => simp at hi
  | cons t T ih =>
    cases i with
    | zero => exact ⟨rfl, rfl⟩
    | succ i =>
      have h := ih (i := i) (by simpa using hi)
      have e : cellsT (t :: T) = .int .i64 t.1 :: t.2.2 :: cellsT T := by unfold cellsT; simp
      rw [e, show (i + 1) * 2 = i * 2 + 1 + 1 by omega]
      simp only [List.getElem?_cons_succ]
      exact h
theorem OwnT.rd {w : World} {base : Nat} {v : Value} {T : List TH} (h : OwnT w base v T) (hl : T.length ≤ 100000) : RdT w v T := by
  by_cases h0 : T = []
  · subst h0
    obtain ⟨a, c, e⟩ := owns_slice h.row
    exact Or.inl ⟨a, c, rfl, e⟩
  · obtain ⟨_, ⟨_, h1⟩ | ⟨g, cap, cur, hv, hg, hh, hc, hm, hs, ht⟩⟩ := h.row
    · exact absurd (List.length_eq_zero_iff.1 h1) h0
    · refine Or.inr ⟨g, 0, cap, h0, hv, hl, (Array.getElem?_eq_some_iff.1 hh).1, fun i hi => ?_⟩
      have ce : ∀ j, j < T.length * 2 → w.cell? ⟨g, j, none⟩ = (cellsT T)[j]? := by
        intro j hj
        rw [← ht, List.getElem?_take_of_lt hj]
        unfold World.cell?
        rw [hh]
        simp
      obtain ⟨e0, e1⟩ := cellsT_at T hi
      have hm : T.getD i default ∈ T := by
        rw [show T.getD i default = T[i] by simp [List.getD, hi]]
        exact List.getElem_mem hi
      refine ⟨?_, ?_, Rd.owned (h.each _ hm)⟩
      · rw [Nat.zero_add, ce _ (by omega), e0]
      · rw [Nat.zero_add, ce _ (by omega), e1]
def RdH (w : World) (v : Value) (L : List (Int × List UInt8)) : Prop := ∃ T, bareT T = L ∧ RdT w v T
theorem RdH.below {w w' : World} {v : Value} {L : List (Int × List UInt8)} (h : RdH w v L) (hb : Below w.heap.size w w') : RdH w' v L := by
  obtain ⟨T, h1, h2⟩ := h
  exact ⟨T, h1, h2.below hb⟩
theorem bareT_length (T : List TH) : (bareT T).length = T.length := by simp [bareT]
/-- a list that was told, apart from the disk -/
structure ToldT (w : World) (G : Nat → Prop) (v : Value) (T : List TH) : Prop where
  rd : RdT w v T
  ap : ApartG G v
  each : ∀ t ∈ T, ApartG G t.2.2
theorem ToldT.below {w w' : World} {G : Nat → Prop} {v : Value} {T : List TH} (h : ToldT w G v T) (hb : Below w.heap.size w w') : ToldT w' G v T := ⟨h.rd.below hb, h.ap, h.each⟩
theorem getD_mem12 {T : List TH} {i : Nat} (hi : i < T.length) : T.getD i default ∈ T := by
  rw [show T.getD i default = T[i] by simp [List.getD, hi]]
  exact List.getElem_mem hi
theorem ToldT.grew {w w' : World} {G G' : Nat → Prop} {v : Value} {T : List TH} (h : ToldT w G v T) (g : Grew G w G' w') : ToldT w' G' v T := by
  rcases h.rd with ⟨a, c, h1, h2⟩ | ⟨b, off, c, h1, h2, h3, h4, h5⟩
  · refine ⟨Or.inl ⟨a, c, h1, h2⟩, ?_, fun t ht => by rw [h1] at ht; cases ht⟩
    rw [h2]
    exact ApartG.nil _ _ _
  · have hb : ¬ G b := by
      rcases h.ap _ _ _ h2 with e | e
      · exact absurd (List.length_eq_zero_iff.1 e) h1
      · exact e
    refine ⟨Or.inr ⟨b, off, c, h1, h2, h3, Nat.lt_of_lt_of_le h4 g.turn.size, fun i hi => ?_⟩, ?_, fun t ht => ?_⟩
    · have h6 := h5 i hi
      exact ⟨(g.turn.cell (p := ⟨b, off + i * 2, none⟩) h4 hb).trans h6.c0, (g.turn.cell (p := ⟨b, off + i * 2 + 1, none⟩) h4 hb).trans h6.c1, h6.rd.grew (h.each _ (getD_mem12 hi)) g⟩
    · intro x n c' e
      rw [h2] at e
      simp at e
      obtain ⟨rfl, _, _⟩ := e
      exact Or.inr (g.off h4 hb)
    · obtain ⟨i, hi, e⟩ := List.getElem_of_mem ht
      have h6 := (h5 i hi).rd
      rw [show T.getD i default = T[i] by simp [List.getD, hi], e] at h6
      exact (h.each t ht).grew h6 g
theorem ToldT.own {w w' : World} {db : Nat} {G : Nat → Prop} {d : DkS} {v : Value} {T : List TH} (h : DiskAt w db G d) (ho : OwnT w' w.heap.size v T) (hl : T.length ≤ 100000) : ToldT w' G v T := by
  refine ⟨ho.rd hl, ?_, fun t ht => ApartG.own (ho.each t ht) h.lt⟩
  intro x n c e
  right
  intro hg
  have h1 := row_at ho.row (g := x.block) (by rw [e]; rfl)
  have h2 := h.lt _ hg
  omega
def ToldH (w : World) (G : Nat → Prop) (v : Value) (L : List (Int × List UInt8)) : Prop := ∃ T, bareT T = L ∧ ToldT w G v T
theorem ToldH.below {w w' : World} {G : Nat → Prop} {v : Value} {L : List (Int × List UInt8)} (h : ToldH w G v L) (hb : Below w.heap.size w w') : ToldH w' G v L := by
  obtain ⟨T, h1, h2⟩ := h
  exact ⟨T, h1, h2.below hb⟩
theorem ToldH.grew {w w' : World} {G G' : Nat → Prop} {v : Value} {L : List (Int × List UInt8)} (h : ToldH w G v L) (g : Grew G w G' w') : ToldH w' G' v L := by
  obtain ⟨T, h1, h2⟩ := h
  exact ⟨T, h1, h2.grew g⟩
theorem ToldH.own {w w' : World} {db : Nat} {G : Nat → Prop} {d : DkS} {v : Value} {L : List (Int × List UInt8)} (h : DiskAt w db G d) (ho : OwnH w' w.heap.size v L) (hl : L.length ≤ 100000) : ToldH w' G v L := by
  obtain ⟨T, h1, h2⟩ := ho
  exact ⟨T, h1, ToldT.own h h2 (by rw [← h1, bareT_length] at hl; exact hl)⟩
theorem ToldH.rd {w : World} {G : Nat → Prop} {v : Value} {L : List (Int × List UInt8)} (h : ToldH w G v L) : RdH w v L := by
  obtain ⟨T, h1, h2⟩ := h
  exact ⟨T, h1, h2.rd⟩
theorem bareT_eq {T U : List TH} (hl : T.length = U.length) : bareT T = bareT U ↔ ∀ i, i < T.length → (T.getD i default).1 = (U.getD i default).1 ∧ (T.getD i default).2.1 = (U.getD i default).2.1 := by
  constructor
  · intro h i hi
    have h1 := congrArg (fun l => l[i]?) h
    simp only [bareT, List.getElem?_map] at h1
    rw [List.getElem?_eq_getElem hi, List.getElem?_eq_getElem (by omega)] at h1
    simp at h1
    simp [List.getD, hi, show i < U.length by omega, h1]
  · intro h
    refine List.ext_getElem (by simp [bareT, hl]) fun i h1 h2 => ?_
    simp only [bareT_length] at h1 h2
    have h3 := h i h1
    simp [List.getD, h1, h2] at h3
    simp [bareT, h3]
set_option maxRecDepth 100000 in
set_option maxHeartbeats 1000000 in
theorem same12_any {w : World} {va vb : Value} {L M : List (Int × List UInt8)} (hL : RdH w va L) (hM : RdH w vb M) : Calls Tryz.prog 28 #[va, vb] w fun e w' => e = .returned (.bool (decide (L = M))) ∧ ∃ n, w' = w.drewN n := by
  obtain ⟨T, rfl, hT⟩ := hL
  obtain ⟨U, rfl, hU⟩ := hM
  have lt := hT.len
  have lu := hU.len
  obtain ⟨aa, ca, rfl⟩ := hT.form
  obtain ⟨ab, cb, rfl⟩ := hU.form
  by_cases hl : T.length = U.length
  · have q1 : ((T.length : Int) != (U.length : Int)) = false := by rw [hl]; simp
    have q1' : ((T.length : Int) == (U.length : Int)) = true := by rw [hl]; simp
    obtain ⟨X, hX⟩ : ∃ X, Hid (X = decide (bareT T = bareT U)) := ⟨_, rfl⟩
    rw [← hX.out]
    have hl' : Hid (T.length = U.length) := hl
    clear hl
    go_enter Tryz.func28, Tryz.ntmps28
    go_wp2
    go_loopw [5] (fun i wr => ∃ k : Nat, k ≤ T.length ∧ i = .int .i64 (k : Int) ∧ Hid (∀ j, j < k → (T.getD j default).1 = (U.getD j default).1 ∧ (T.getD j default).2.1 = (U.getD j default).2.1) ∧ ∃ m, Hid (wr = w.drewN m)) (fun i _ => T.length - (intOf i).toNat)
    case atStart => exact ⟨0, Nat.zero_le _, rfl, fun j hj => by omega, 0, rfl⟩
    case round =>
      obtain ⟨k, hk, rfl, hs, m, hd⟩ := hrel
      have hT' : RdT wr (.slice aa T.length ca) T := by rw [hd.out]; exact hT.drewN _
      have hU' : RdT wr (.slice ab U.length cb) U := by rw [hd.out]; exact hU.drewN _
      clear hT hU
      by_cases hlt : k < T.length
      · have hltU : k < U.length := by have := hl'.out; omega
        have hlt' : (k : Int) < (T.length : Int) := by omega
        have hlu' : (k : Int) < (U.length : Int) := by omega
        have g1 : IntKind.i64.wrap ((k : Int) + 1) = ((k + 1 : Nat) : Int) := by rw [IntKind.wrap_i64]; omega
        obtain ⟨b, off, rfl, c0, c1, r1⟩ := hT'.at hlt
        obtain ⟨b', off', rfl, d0, d1, r2⟩ := hU'.at hltU
        have NE : Hid (¬ ((T.getD k default).1 = (U.getD k default).1 ∧ (T.getD k default).2.1 = (U.getD k default).2.1) → X = false) := fun h => by
          rw [hX.out]
          exact decide_eq_false (fun e => h ((bareT_eq hl'.out).1 e k hlt))
        have EQ : Hid ((T.getD k default).1 = (U.getD k default).1 ∧ (T.getD k default).2.1 = (U.getD k default).2.1 → ∀ j, j < k + 1 → (T.getD j default).1 = (U.getD j default).1 ∧ (T.getD j default).2.1 = (U.getD j default).2.1) := fun h j hj => by
          by_cases e2 : j = k
          · rw [e2]; exact h
          · exact hs.out j (by omega)
        obtain ⟨t, ht⟩ : ∃ t, t = T.getD k default := ⟨_, rfl⟩
        obtain ⟨u, hu⟩ : ∃ u, u = U.getD k default := ⟨_, rfl⟩
        rw [← ht] at c0 c1 r1
        rw [← hu] at d0 d1 r2
        rw [← ht, ← hu] at NE EQ
        obtain ⟨t1, t2, t3⟩ := t
        obtain ⟨u1, u2, u3⟩ := u
        simp only at c0 c1 r1 d0 d1 r2
        obtain ⟨ta, tc, rfl⟩ := r1.form
        obtain ⟨ua, uc, rfl⟩ := r2.form
        clear ht hu hs hT' hU' hX
        by_cases e1 : t2 = u2
        · have hn : sameB t2 u2 = true := sameB_of e1
          by_cases e2 : t1 = u1
          · have E := EQ.out ⟨e2, e1⟩
            have HS : Hid (∀ j, j < k + 1 → (T.getD j default).1 = (U.getD j default).1 ∧ (T.getD j default).2.1 = (U.getD j default).2.1) := E
            have z1 : (t1 != u1) = false := by rw [e2]; simp
            have z2 : (t1 == u1) = true := by rw [e2]; simp
            clear E EQ NE e1 e2
            go_wp2
            go_quiet ((go_at_call 25; go_loud (exact Calls.quiet_of (same_any (r1.drewN _) (r2.drewN _)))))
            go_wp2
            go_quiet (fail)
            go_wp2
            go_roundw
            case rel => exact ⟨k + 1, by omega, by go_num, HS, _, by show _ = _; first | rw [hd.out, World.drewN_drewN, World.drewN_drewN] | rw [hd.out, World.drewN_drewN] | rw [World.drewN_drewN, hd.out, World.drewN_drewN]⟩
            case measure => simp [intOf]; omega
          · have E := NE.out (fun h => e2 h.1)
            have HE : Hid (X = false) := E
            have z1 : (t1 != u1) = true := by simp [e2]
            have z2 : (t1 == u1) = false := by simp [e2]
            clear E EQ NE e1 e2
            go_wp2
            go_quiet ((go_at_call 25; go_loud (exact Calls.quiet_of (same_any (r1.drewN _) (r2.drewN _)))))
            go_wp2
            go_quiet (fail)
            go_wp2
            go_ret
            exact ⟨by rw [HE.out]; rfl, _, by show _ = _; first | rw [hd.out, World.drewN_drewN, World.drewN_drewN] | rw [hd.out, World.drewN_drewN] | rw [World.drewN_drewN, hd.out, World.drewN_drewN]⟩
        · have hn : sameB t2 u2 = false := decide_eq_false e1
          have E := NE.out (fun h => e1 h.2)
          have HE : Hid (X = false) := E
          clear E EQ NE e1
          go_wp2
          go_quiet ((go_at_call 25; go_loud (exact Calls.quiet_of (same_any (r1.drewN _) (r2.drewN _)))))
          go_wp2
          go_quiet (fail)
          go_wp2
          go_ret
          exact ⟨by rw [HE.out]; rfl, _, by show _ = _; first | rw [hd.out, World.drewN_drewN, World.drewN_drewN] | rw [hd.out, World.drewN_drewN] | rw [World.drewN_drewN, hd.out, World.drewN_drewN]⟩
      · have HE : Hid (X = true) := by
          show X = true
          rw [hX.out]
          exact decide_eq_true ((bareT_eq hl'.out).2 fun i hi => hs.out i (by omega))
        have hge : ¬ (k : Int) < (T.length : Int) := by omega
        clear hs hT' hU' hX
        go_wp2
        go_ret
        exact ⟨by rw [HE.out]; rfl, _, hd.out⟩
  · have q1 : ((T.length : Int) != (U.length : Int)) = true := by simp; omega
    have q1' : ((T.length : Int) == (U.length : Int)) = false := by simp; omega
    have e : decide (bareT T = bareT U) = false := decide_eq_false (fun h => hl (by have := congrArg List.length h; simpa [bareT_length] using this))
    rw [e]
    clear e hT hU
    go_enter Tryz.func28, Tryz.ntmps28
    go_wp2
    go_ret
    exact ⟨rfl, 0, rfl⟩
end Go.Proofs.YtddnfhfangfgeaaGreat.Gf



namespace Go.Proofs.YtddnfhfangfgeaaGreat.Gf
set_option linter.unusedVariables false
set_option linter.unusedSimpArgs false
open Go.RowKit
section
variable {w : World} {db : Nat} {G : Nat → Prop} {d : DkS}
theorem same12_is {va vb : Value} {L M : List (Int × List UInt8)} (hL : RdH w va L) (hM : RdH w vb M) {x : Bool} (hx : decide (L = M) = x) : Calls Tryz.prog 28 #[va, vb] w fun e w' => e = .returned (.bool x) ∧ ∃ n, w' = w.drewN n := by
  rw [← hx]; exact same12_any hL hM
theorem ToldH.none {v : Value} (h : ToldH w G v []) : ∃ a c, v = .slice a 0 c := by
  obtain ⟨T, h1, h2⟩ := h
  have : T = [] := by cases T with
    | nil => rfl
    | cons t T => cases h1
  subst this
  exact h2.rd.form
end
end Go.Proofs.YtddnfhfangfgeaaGreat.Gf



namespace Go.Proofs.YtddnfhfangfgeaaGreat.Gf
set_option linter.unusedVariables false
set_option linter.unusedSimpArgs false
open Go.RowKit
theorem Rd.one {w : World} {v : Value} {p : List UInt8} (h : Rd w v p) : v.oneCell' = true := by
  obtain ⟨a, c, rfl⟩ := h.form
  rfl
theorem RdT.each {w : World} {v : Value} {T : List TH} (h : RdT w v T) : ∀ t ∈ T, Rd w t.2.2 t.2.1 := by
  intro t ht
  rcases h with ⟨a, c, rfl, _⟩ | ⟨b, off, c, h1, h2, h3, h4, h5⟩
  · cases ht
  · obtain ⟨i, hi, e⟩ := List.getElem_of_mem ht
    have h6 := (h5 i hi).rd
    rw [show T.getD i default = T[i] by simp [List.getD, hi], e] at h6
    exact h6
/-- parts of a list -/
theorem RdT.take {w : World} {b off c n : Nat} {T : List TH} (h : RdT w (.slice (some ⟨b, off, none⟩) T.length c) T) {k c' : Nat} (hk : k ≤ T.length) (hn : n = k) : RdT w (.slice (some ⟨b, off, none⟩) n c') (T.take k) := by
  subst hn
  have hl : (T.take n).length = n := by rw [List.length_take]; omega
  by_cases h0 : n = 0
  · subst h0
    exact Or.inl ⟨_, c', by simp, rfl⟩
  · rcases h with ⟨_, _, h1, _⟩ | ⟨b', off', c2, h1, h2, h3, h4, h5⟩
    · rw [h1] at hk; simp at hk; omega
    · simp at h2
      obtain ⟨⟨rfl, rfl⟩, _⟩ := h2
      refine Or.inr ⟨b, off, c', fun e => by rw [e] at hl; simp at hl; omega, by rw [hl], by omega, h4, fun i hi => ?_⟩
      rw [hl] at hi
      have e : (T.take n).getD i default = T.getD i default := by simp [List.getD, List.getElem?_take_of_lt hi]
      rw [e]
      exact h5 i (by omega)
theorem RdT.drop {w : World} {b off c n : Nat} {T : List TH} (h : RdT w (.slice (some ⟨b, off, none⟩) T.length c) T) {k c' : Nat} (hk : k ≤ T.length) (hn : n = T.length - k) : RdT w (.slice (some ⟨b, off + k * 2, none⟩) n c') (T.drop k) := by
  subst hn
  by_cases h0 : k = T.length
  · subst h0
    exact Or.inl ⟨some ⟨b, off + T.length * 2, none⟩, c', by simp, by rw [Nat.sub_self]⟩
  rcases h with ⟨_, _, h1, _⟩ | ⟨b', off', c2, h1, h2, h3, h4, h5⟩
  · rw [h1] at hk h0; simp at hk; simp at h0; omega
  · simp at h2
    obtain ⟨⟨rfl, rfl⟩, _⟩ := h2
    refine Or.inr ⟨b, off + k * 2, c', fun e => by have := congrArg List.length e; simp at this; omega, by rw [List.length_drop], by rw [List.length_drop]; omega, h4, fun i hi => ?_⟩
    rw [List.length_drop] at hi
    have e : (T.drop k).getD i default = T.getD (k + i) default := by simp [List.getD]
    rw [e, show off + k * 2 + i * 2 = off + (k + i) * 2 by omega]
    exact h5 (k + i) (by omega)
end Go.Proofs.YtddnfhfangfgeaaGreat.Gf

namespace Go.Proofs.YtddnfhfangfgeaaGreat.Gf
set_option linter.unusedVariables false
set_option linter.unusedSimpArgs false
open Go.RowKit
/-- a list that lies off a row which has grown -/
theorem RdT.grown {w w' : World} {v : Value} {T : List TH} {g : Nat} (h : RdT w v T) (hg : w.grownBy w' (some g)) (ha : ApartG (fun k => k = g) v) (he : ∀ t ∈ T, ApartG (fun k => k = g) t.2.2) : RdT w' v T :=
  (ToldT.grew (G := fun k => k = g) (G' := fun k => k = g) ⟨h, ha, he⟩ ⟨⟨hg.os, hg.tape, hg.output, hg.size, fun k hk hn => hg.block k hk (fun e => hn (by cases e; rfl))⟩, fun k hk => Or.inl hk⟩).rd
end Go.Proofs.YtddnfhfangfgeaaGreat.Gf



namespace Go.Proofs.YtddnfhfangfgeaaGreat.Gf
set_option linter.unusedVariables false
set_option linter.unusedSimpArgs false
open Go.RowKit
section
variable {w : World} {N db : Nat} {G : Nat → Prop} {d : DkS}
theorem setC_block (w : World) (g j : Nat) (u : Value) {k : Nat} (h : k ≠ g) : (w.setCell ⟨g, j, none⟩ u).heap[k]? = w.heap[k]? := Below.heap_setCell w ⟨g, j, none⟩ u k h
/-- the disk, behind a byte that was written elsewhere -/
theorem DkB.off (h : DkB w N db G d) {g : Nat} (hg : ¬ G g) (j : Nat) (u : Value) : DkB (w.setCell ⟨g, j, none⟩ u) N db G d :=
  ⟨h.at_.keep (fun k hk => setC_block w g j u (fun e => hg (by rw [← e]; exact hk))) (by simp), h.low, by simpa using h.size⟩
end
end Go.Proofs.YtddnfhfangfgeaaGreat.Gf





namespace Go.Proofs.YtddnfhfangfgeaaGreat.Gf
set_option linter.unusedVariables false
set_option linter.unusedSimpArgs false
open Go.RowKit
section
variable {w w' : World} {rb db : Nat} {H H' K K' G : Nat → Prop} {d : DkS}
/-- a disk of the program's, behind what was done to blocks that are not its own -/
theorem DiskAt.apart (h : DiskAt w db G d) (g : Grew K w K' w') (hn : ∀ k, K k → ¬ G k) : DiskAt w' db G d :=
  h.keep (fun k hk => g.turn.block k (h.lt k hk) (fun e => hn k e hk)) g.turn.size
theorem Grew.wide {K2 K2' : Nat → Prop} (g : Grew K w K' w') (h : ∀ k, K k → K2 k) (h2 : ∀ k, K2' k → K2 k ∨ w.heap.size ≤ k) : Grew K2 w K2' w' :=
  ⟨⟨g.turn.os, g.turn.tape, g.turn.output, g.turn.size, fun k hk hn => g.turn.block k hk (fun e => hn (h k e))⟩, h2⟩
end
end Go.Proofs.YtddnfhfangfgeaaGreat.Gf

namespace Go.Proofs.YtddnfhfangfgeaaGreat.Gf
set_option linter.unusedVariables false
set_option linter.unusedSimpArgs false
open Go.RowKit
/-- what is left, as the program keeps it -/
def leC (l : Int) : Int := if 0 < l then l else 0
structure ArM (w : World) (ab mb : Nat) (db : Nat → Nat) (GD : Nat → Nat → Prop) (GA : Nat → Prop) (a : ArS) : Prop where
  c0 : w.cell? ⟨ab, 0, none⟩ = some (.slice (some ⟨mb, 0, none⟩) a.D.length a.D.length)
  c1 : w.cell? ⟨ab, 1, none⟩ = some (.int .i64 (leC a.left))
  c2 : w.cell? ⟨ab, 2, none⟩ = some (.bool a.off)
  f1 : w.frozen? ⟨ab, 1, none⟩ = false
  f2 : w.frozen? ⟨ab, 2, none⟩ = false
  m0 : ∀ i, i < a.D.length → w.cell? ⟨mb, i * 2, none⟩ = some (.pointer (some ⟨db i, 0, none⟩))
  m1 : ∀ i, i < a.D.length → w.cell? ⟨mb, i * 2 + 1, none⟩ = some (.int .i64 (a.B.getD i 0))
  fm : ∀ i, i < a.D.length → w.frozen? ⟨mb, i * 2 + 1, none⟩ = false
  dk : ∀ i, i < a.D.length → DiskAt w (db i) (GD i) (a.D.getD i default)
  sep : ∀ i j, i < a.D.length → j < a.D.length → i ≠ j → ∀ k, GD i k → ¬ GD j k
  sa : ∀ i, i < a.D.length → ¬ GD i ab ∧ ¬ GD i mb
  ne : ab ≠ mb
  ga : GA ab
  gm : GA mb
  gd : ∀ i, i < a.D.length → ∀ k, GD i k → GA k
  lt : ∀ k, GA k → k < w.heap.size
  d1 : 1 ≤ a.D.length
  d2 : a.D.length ≤ 32
  b : a.B.length = a.D.length
  wl : (Lit.int .i64 a.left).wf = true
def ArIn (w : World) (ab mb : Nat) (db : Nat → Nat) (GD : Nat → Nat → Prop) (GA : Nat → Prop) (a : ArS) : Prop := ArM w ab mb db GD GA a ∧ a.Ok
def ArAt (w : World) (ab : Nat) (GA : Nat → Prop) (a : ArS) : Prop := ∃ mb db GD, ArIn w ab mb db GD GA a
/-- what a call on an array leaves -/
def LeavesA (w : World) (ab : Nat) (GA : Nat → Prop) (a' : ArS) (x : Value) (e : Ending) (w' : World) : Prop := e = .returned x ∧ ∃ GA', ArAt w' ab GA' a' ∧ Grew GA w GA' w'
section
variable {w w' : World} {ab mb : Nat} {db : Nat → Nat} {GD : Nat → Nat → Prop} {GA : Nat → Prop} {a : ArS}
theorem ArM.keep (h : ArM w ab mb db GD GA a) (hk : ∀ k, GA k → w'.heap[k]? = w.heap[k]?) (hs : w.heap.size ≤ w'.heap.size) : ArM w' ab mb db GD GA a where
  c0 := (World.cell?_of_block (w := w) (hk ab h.ga)).trans h.c0
  c1 := (World.cell?_of_block (w := w) (hk ab h.ga)).trans h.c1
  c2 := (World.cell?_of_block (w := w) (hk ab h.ga)).trans h.c2
  f1 := (World.frozen?_of_block (w := w) (hk ab h.ga)).trans h.f1
  f2 := (World.frozen?_of_block (w := w) (hk ab h.ga)).trans h.f2
  m0 := fun i hi => (World.cell?_of_block (w := w) (hk mb h.gm)).trans (h.m0 i hi)
  m1 := fun i hi => (World.cell?_of_block (w := w) (hk mb h.gm)).trans (h.m1 i hi)
  fm := fun i hi => (World.frozen?_of_block (w := w) (hk mb h.gm)).trans (h.fm i hi)
  dk := fun i hi => (h.dk i hi).keep (fun k hk2 => hk k (h.gd i hi k hk2)) hs
  sep := h.sep
  sa := h.sa
  ne := h.ne
  ga := h.ga
  gm := h.gm
  gd := h.gd
  lt := fun k hk2 => Nat.lt_of_lt_of_le (h.lt k hk2) hs
  d1 := h.d1
  d2 := h.d2
  b := h.b
  wl := h.wl
theorem ArM.below (h : ArM w ab mb db GD GA a) (hb : Below w.heap.size w w') : ArM w' ab mb db GD GA a := h.keep (fun k hk => hb.block k (h.lt k hk)) hb.size
theorem ArIn.below (h : ArIn w ab mb db GD GA a) (hb : Below w.heap.size w w') : ArIn w' ab mb db GD GA a := ⟨h.1.below hb, h.2⟩
theorem ArAt.below (h : ArAt w ab GA a) (hb : Below w.heap.size w w') : ArAt w' ab GA a := by
  obtain ⟨mb, db, GD, h⟩ := h
  exact ⟨mb, db, GD, h.below hb⟩
theorem ArAt.keep (h : ArAt w ab GA a) (hk : ∀ k, GA k → w'.heap[k]? = w.heap[k]?) (hs : w.heap.size ≤ w'.heap.size) : ArAt w' ab GA a := by
  obtain ⟨mb, db, GD, h1, h2⟩ := h
  exact ⟨mb, db, GD, h1.keep hk hs, h2⟩
theorem ArAt.lt (h : ArAt w ab GA a) : ∀ k, GA k → k < w.heap.size := by
  obtain ⟨mb, db, GD, h, _⟩ := h
  exact h.lt
theorem ArAt.ok (h : ArAt w ab GA a) : a.Ok := by
  obtain ⟨mb, db, GD, _, h⟩ := h
  exact h
theorem getD_set {α : Type} {l : List α} {i j : Nat} {x d : α} (hi : i < l.length) : (l.set i x).getD j d = if j = i then x else l.getD j d := by
  by_cases e : j = i
  · subst e
    simp [List.getD, hi]
  · simp only [List.getD, List.getElem?_set, if_neg (fun h => e (h.symm) : ¬ i = j), if_neg e]
/-- a disk of the array was changed -/
theorem ArM.disk (h : ArM w ab mb db GD GA a) {i : Nat} (hi : i < a.D.length) {G' : Nat → Prop} {d' : DkS} (hD : DiskAt w' (db i) G' d') (g : Grew (GD i) w G' w') :
    ArM w' ab mb db (fun j => if j = i then G' else GD j) (fun k => GA k ∨ G' k) { a with D := a.D.set i d' } ∧ Grew GA w (fun k => GA k ∨ G' k) w' := by
  have na : ¬ GD i ab := (h.sa i hi).1
  have nm : ¬ GD i mb := (h.sa i hi).2
  have la := h.lt _ h.ga
  have lm := h.lt _ h.gm
  have hl : (a.D.set i d').length = a.D.length := by simp
  have hS : ∀ k, G' k → GD i k ∨ w.heap.size ≤ k := g.grow
  refine ⟨⟨?_, ?_, ?_, ?_, ?_, ?_, ?_, ?_, ?_, ?_, ?_, h.ne, Or.inl h.ga, Or.inl h.gm, ?_, ?_, ?_, ?_, ?_, h.wl⟩, ?_⟩
  · show _ = some (Value.slice _ (a.D.set i d').length (a.D.set i d').length)
    rw [hl]; exact (g.turn.cell (p := ⟨ab, 0, none⟩) la na).trans h.c0
  · exact (g.turn.cell (p := ⟨ab, 1, none⟩) la na).trans h.c1
  · exact (g.turn.cell (p := ⟨ab, 2, none⟩) la na).trans h.c2
  · exact (g.turn.frozen (p := ⟨ab, 1, none⟩) la na).trans h.f1
  · exact (g.turn.frozen (p := ⟨ab, 2, none⟩) la na).trans h.f2
  · intro j hj
    exact (g.turn.cell (p := ⟨mb, j * 2, none⟩) lm nm).trans (h.m0 j (hl ▸ hj))
  · intro j hj
    exact (g.turn.cell (p := ⟨mb, j * 2 + 1, none⟩) lm nm).trans (h.m1 j (hl ▸ hj))
  · intro j hj
    exact (g.turn.frozen (p := ⟨mb, j * 2 + 1, none⟩) lm nm).trans (h.fm j (hl ▸ hj))
  · intro j hj
    have hj2 : j < a.D.length := hl ▸ hj
    show DiskAt w' (db j) (if j = i then G' else GD j) ((a.D.set i d').getD j default)
    rw [getD_set hi]
    by_cases e : j = i
    · subst e
      rw [if_pos rfl, if_pos rfl]
      exact hD
    · rw [if_neg e, if_neg e]
      exact (h.dk j hj2).apart g (fun k hk hk2 => h.sep i j hi hj2 (fun e2 => e e2.symm) k hk hk2)
  · intro j l hj hl2 hne k hk hk2
    have hj2 : j < a.D.length := hl ▸ hj
    have hl3 : l < a.D.length := hl ▸ hl2
    replace hk : (if j = i then G' else GD j) k := hk
    replace hk2 : (if l = i then G' else GD l) k := hk2
    by_cases e : j = i
    · rw [if_pos e] at hk
      rw [if_neg (fun e2 => hne (e.trans e2.symm))] at hk2
      rcases hS k hk with h1 | h1
      · exact h.sep i l hi hl3 (fun e2 => hne (e.trans e2)) k h1 hk2
      · have := h.lt k (h.gd l hl3 k hk2); omega
    · rw [if_neg e] at hk
      by_cases e2 : l = i
      · rw [if_pos e2] at hk2
        rcases hS k hk2 with h1 | h1
        · exact h.sep j i hj2 hi e k hk h1
        · have := h.lt k (h.gd j hj2 k hk); omega
      · rw [if_neg e2] at hk2
        exact h.sep j l hj2 hl3 hne k hk hk2
  · intro j hj
    have hj2 : j < a.D.length := hl ▸ hj
    show ¬ (if j = i then G' else GD j) ab ∧ ¬ (if j = i then G' else GD j) mb
    by_cases e : j = i
    · rw [if_pos e]
      exact ⟨g.off la na, g.off lm nm⟩
    · rw [if_neg e]
      exact h.sa j hj2
  · intro j hj k hk
    have hj2 : j < a.D.length := hl ▸ hj
    replace hk : (if j = i then G' else GD j) k := hk
    by_cases e : j = i
    · rw [if_pos e] at hk; exact Or.inr hk
    · rw [if_neg e] at hk; exact Or.inl (h.gd j hj2 k hk)
  · intro k hk
    rcases hk with h1 | h1
    · exact Nat.lt_of_lt_of_le (h.lt k h1) g.turn.size
    · exact hD.lt k h1
  · show 1 ≤ (a.D.set i d').length
    rw [hl]; exact h.d1
  · show (a.D.set i d').length ≤ 32
    rw [hl]; exact h.d2
  · show a.B.length = (a.D.set i d').length
    rw [hl]; exact h.b
  · refine g.wide (fun k hk => h.gd i hi k hk) (fun k hk => ?_)
    rcases hk with h1 | h1
    · exact Or.inl h1
    · rcases g.grow k h1 with h2 | h2
      · exact Or.inl (h.gd i hi k h2)
      · exact Or.inr h2
/-- cells of the array's own: what stands in other blocks stands -/
theorem ArM.own (h : ArM w ab mb db GD GA a) {g j : Nat} {v : Value} (hg : g = ab ∨ g = mb) {i : Nat} (hi : i < a.D.length) : DiskAt (w.setCell ⟨g, j, none⟩ v) (db i) (GD i) (a.D.getD i default) :=
  (h.dk i hi).keep (fun k hk => Below.heap_setCell w ⟨g, j, none⟩ v k (fun e => by
    have e2 : k = g := e
    subst e2
    rcases hg with e3 | e3
    · rw [e3] at hk; exact (h.sa i hi).1 hk
    · rw [e3] at hk; exact (h.sa i hi).2 hk)) (by simp)
theorem ArM.setLeft (h : ArM w ab mb db GD GA a) {l : Int} (hl : (Lit.int .i64 l).wf = true) : ArM (w.setCell ⟨ab, 1, none⟩ (.int .i64 (leC l))) ab mb db GD GA { a with left := l } := by
  have c1 := h.c1
  have f1 := h.f1
  have hb : ∀ k, k ≠ ab → (w.setCell ⟨ab, 1, none⟩ (.int .i64 (leC l))).heap[k]? = w.heap[k]? := fun k hk => Below.heap_setCell w ⟨ab, 1, none⟩ _ k hk
  have hm := hb mb h.ne.symm
  refine ⟨?_, ?_, ?_, ?_, ?_, fun i hi => (World.cell?_of_block (w := w) hm).trans (h.m0 i hi), fun i hi => (World.cell?_of_block (w := w) hm).trans (h.m1 i hi), fun i hi => (World.frozen?_of_block (w := w) hm).trans (h.fm i hi), fun i hi => h.own (Or.inl rfl) hi, h.sep, h.sa, h.ne, h.ga, h.gm, h.gd, fun k hk => by simpa using h.lt k hk, h.d1, h.d2, h.b, hl⟩
  · rw [← h.c0]; simp [go_sem]
  · simp [go_sem, c1]
  · rw [← h.c2]; simp [go_sem]
  · simp [go_sem, f1]
  · rw [← h.f2]; simp [go_sem]
theorem ArM.setOff (h : ArM w ab mb db GD GA a) (x : Bool) : ArM (w.setCell ⟨ab, 2, none⟩ (.bool x)) ab mb db GD GA { a with off := x } := by
  have c2 := h.c2
  have f2 := h.f2
  have hb : ∀ k, k ≠ ab → (w.setCell ⟨ab, 2, none⟩ (.bool x)).heap[k]? = w.heap[k]? := fun k hk => Below.heap_setCell w ⟨ab, 2, none⟩ _ k hk
  have hm := hb mb h.ne.symm
  refine ⟨?_, ?_, ?_, ?_, ?_, fun i hi => (World.cell?_of_block (w := w) hm).trans (h.m0 i hi), fun i hi => (World.cell?_of_block (w := w) hm).trans (h.m1 i hi), fun i hi => (World.frozen?_of_block (w := w) hm).trans (h.fm i hi), fun i hi => h.own (Or.inl rfl) hi, h.sep, h.sa, h.ne, h.ga, h.gm, h.gd, fun k hk => by simpa using h.lt k hk, h.d1, h.d2, h.b, h.wl⟩
  · rw [← h.c0]; simp [go_sem]
  · rw [← h.c1]; simp [go_sem]
  · simp [go_sem, c2]
  · rw [← h.f1]; simp [go_sem]
  · simp [go_sem, f2]
theorem cell_set_ne (w : World) {g i j : Nat} (v : Value) (h : i ≠ j) : (w.setCell ⟨g, j, none⟩ v).cell? ⟨g, i, none⟩ = w.cell? ⟨g, i, none⟩ := by
  simp [go_sem, h]
theorem cell_set_eq {w : World} {g j : Nat} {u : Value} (v : Value) (h : w.cell? ⟨g, j, none⟩ = some u) : (w.setCell ⟨g, j, none⟩ v).cell? ⟨g, j, none⟩ = some v := by
  simp [go_sem, h]
theorem frozen_set (w : World) {g i j : Nat} (v : Value) : (w.setCell ⟨g, j, none⟩ v).frozen? ⟨g, i, none⟩ = w.frozen? ⟨g, i, none⟩ := by
  simp [go_sem]
/-- a birth more -/
theorem ArM.setBorn (h : ArM w ab mb db GD GA a) {i : Nat} (hi : i < a.D.length) (z : Int) : ArM (w.setCell ⟨mb, i * 2 + 1, none⟩ (.int .i64 z)) ab mb db GD GA { a with B := a.B.set i z } := by
  have hb : ∀ k, k ≠ mb → (w.setCell ⟨mb, i * 2 + 1, none⟩ (.int .i64 z)).heap[k]? = w.heap[k]? := fun k hk => Below.heap_setCell w ⟨mb, i * 2 + 1, none⟩ _ k hk
  have hm := hb ab h.ne
  have hB : i < a.B.length := by rw [h.b]; exact hi
  refine ⟨(World.cell?_of_block (w := w) hm).trans h.c0, (World.cell?_of_block (w := w) hm).trans h.c1, (World.cell?_of_block (w := w) hm).trans h.c2, (World.frozen?_of_block (w := w) hm).trans h.f1, (World.frozen?_of_block (w := w) hm).trans h.f2, fun j hj => ?_, fun j hj => ?_, fun j hj => ?_, fun i hi => h.own (Or.inr rfl) hi, h.sep, h.sa, h.ne, h.ga, h.gm, h.gd, fun k hk => by simpa using h.lt k hk, h.d1, h.d2, ?_, h.wl⟩
  · rw [cell_set_ne w _ (by omega)]; exact h.m0 j hj
  · show _ = some (Value.int .i64 ((a.B.set i z).getD j 0))
    rw [getD_set hB]
    by_cases e : j = i
    · subst e
      rw [if_pos rfl]
      exact cell_set_eq _ (h.m1 j hj)
    · rw [if_neg e, cell_set_ne w _ (by omega)]; exact h.m1 j hj
  · rw [frozen_set]; exact h.fm j hj
  · show (a.B.set i z).length = _
    simp; exact h.b
end
end Go.Proofs.YtddnfhfangfgeaaGreat.Gf

