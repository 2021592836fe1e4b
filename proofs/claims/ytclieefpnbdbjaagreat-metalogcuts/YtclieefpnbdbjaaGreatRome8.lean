/- TEXTS JOINED: FarV, SeCB, SeCC. -/
import Derived.Test.YtclieefpnbdbjaaGreatRome7
import Derived.Lib.SliceRun
import Derived.Test.YtclieefpnbdbjaaGreatRome5
namespace Go.Proofs.YtclieefpnbdbjaaGreat.Gf
set_option linter.unusedVariables false
set_option linter.unusedSimpArgs false
open Go.RowKit
def FarV (w : World) (v : Value) : Prop := ∀ x n c, v = .slice (some x) n c → n = 0 ∨ w.heap.size ≤ x.block
theorem FarV.own {w w' : World} {e n : Nat} {v : Value} {xs : List Value} (h : w'.ownsRow w.heap.size e 1 v n xs) : FarV w v := fun x n' c e2 => by
  obtain ⟨_, ⟨hv, hn⟩ | ⟨g, cap, cur, hv, hg, _⟩⟩ := h
  · rw [hv] at e2; cases e2
  · rw [hv] at e2
    simp at e2
    obtain ⟨rfl, _⟩ := e2
    exact Or.inr hg
theorem FarV.nil (w : World) (a : Option Addr) (c : Nat) : FarV w (.slice a 0 c) := fun x n c' e => by simp at e; exact Or.inl e.2.1.symm
theorem FarV.apart {w : World} {v : Value} {G : Nat → Prop} (h : FarV w v) (hG : ∀ k, G k → k < w.heap.size) : ApartG G v := fun x n c e => (h x n c e).imp id fun q hg => by have := hG _ hg; omega
end Go.Proofs.YtclieefpnbdbjaaGreat.Gf

namespace Go.Proofs.YtclieefpnbdbjaaGreat.Gf
set_option linter.unusedVariables false
set_option linter.unusedSimpArgs false
open Go.RowKit
theorem i64_or_nat {a b : Nat} (ha : a < 9223372036854775808) (hb : b < 9223372036854775808) : bits .or .i64 (a : Int) (b : Int) = ((a ||| b : Nat) : Int) := by
  have h : a ||| b < 9223372036854775808 := Nat.or_lt_two_pow (n := 63) ha hb
  show IntKind.i64.wrap ((BitVec.ofInt 64 (a : Int) ||| BitVec.ofInt 64 (b : Int)).toNat : Nat) = _
  rw [BitVec.toNat_or, BitVec.ofInt_natCast, BitVec.ofInt_natCast, BitVec.toNat_ofNat, BitVec.toNat_ofNat, Nat.mod_eq_of_lt (by omega), Nat.mod_eq_of_lt (by omega), IntKind.wrap_i64]
  omega
theorem or_byte {a : Nat} {x : UInt8} : a * 256 ||| x.toNat = a * 256 + x.toNat := by
  have := Nat.two_pow_add_eq_or_of_lt (i := 8) (b := x.toNat) x.toNat_lt a
  rw [Nat.mul_comm a 256]
  exact this.symm
/-- the number of the first k of some bytes -/
def nuK (q : List UInt8) : Nat → Nat
  | 0 => 0
  | k + 1 => nuK q k * 256 + (co q k).toNat
theorem nuK_four (q : List UInt8) : nuK q 4 = nu q := by
  show (((0 * 256 + (co q 0).toNat) * 256 + (co q 1).toNat) * 256 + (co q 2).toNat) * 256 + (co q 3).toNat = nu q
  unfold nu
  omega
theorem nuK_lt (q : List UInt8) : ∀ k, nuK q k < 256 ^ k
  | 0 => by simp [nuK]
  | k + 1 => by
    have := nuK_lt q k
    have h := (co q k).toNat_lt
    rw [Nat.pow_succ]
    show nuK q k * 256 + (co q k).toNat < _
    omega
set_option maxRecDepth 100000 in
set_option maxHeartbeats 1000000 in
theorem snum_any {p : List UInt8} {w : World} {a : Option Addr} {c : Nat} (hp : Rd w (.slice a p.length c) p) (hl : 12 ≤ p.length) : Calls Tryz.prog 199 #[.slice a p.length c, .int .i64 4] w fun e w' => e = .returned (.int .i64 ((epS p : Nat) : Int)) ∧ w' = w := by
  obtain ⟨q, hq⟩ : ∃ q, Hid (q = (p.drop 4).take 4) := ⟨_, rfl⟩
  have HE : Hid (nuK q 4 = epS p) := by show _ = _; rw [nuK_four, hq.out]; rfl
  rw [← HE.out]
  clear HE
  rcases hp with ⟨a', c', rfl, _⟩ | ⟨b, o, c', hp0, e0, h1, h2, h3, hpc⟩
  · simp at hl
  simp at e0
  obtain ⟨rfl, rfl⟩ := e0
  have g1 : (8 : Int) ≤ (p.length : Int) := by omega
  have g2 : (4 : Int) ≤ (p.length : Int) := by omega
  have g3 : 8 ≤ c := by omega
  have g4 : (8 : Int) ≤ (c : Int) := by omega
  have g5 : ¬ c = 4 := by omega
  have cells : ∀ k, k < 4 → w.cell? ⟨b, o + 4 + k, none⟩ = some (.int .u8 (((co q k).toNat : Nat) : Int)) := by
    intro k hk
    have e := hpc (4 + k) (by omega)
    rw [← Nat.add_assoc] at e
    rw [e, hq.out, co_take hk, co_drop0]
  clear hpc hq
  go_enter Tryz.func199, Tryz.ntmps199
  go_wp2
  clear g1 g2 g3 g4 g5
  go_loop [5, 14] (fun x i => ∃ k : Nat, k ≤ 4 ∧ i = .int .i64 (k : Int) ∧ x = .int .i64 ((nuK q k : Nat) : Int)) (fun _ i => 4 - (intOf i).toNat)
  case atStart => exact ⟨0, by omega, rfl, rfl⟩
  case round =>
    obtain ⟨k, hk, rfl, rfl⟩ := hrel
    by_cases hlt : k < 4
    · have hlt' : (k : Int) < 4 := by omega
      have c1 := cells k hlt
      have hz := nuK_lt q k
      have h4 : 256 ^ k ≤ 256 ^ 3 := Nat.pow_le_pow_right (by decide) (by omega)
      have hz3 : nuK q k < 16777216 := Nat.lt_of_lt_of_le hz h4
      have HS : Hid (nuK q (k + 1) = nuK q k * 256 + (co q k).toNat) := rfl
      clear cells hz h4
      obtain ⟨z, ez⟩ : ∃ z, Hid (z = nuK q k) := ⟨_, rfl⟩
      rw [← ez.out] at hz3 HS ⊢
      have hb := (co q k).toNat_lt
      have Z1 : IntKind.i64.wrap ((z : Int) * 256) = ((z * 256 : Nat) : Int) := by rw [IntKind.wrap_i64]; omega
      have Z2 : IntKind.i64.wrap (((co q k).toNat : Nat) : Int) = (((co q k).toNat : Nat) : Int) := by rw [IntKind.wrap_i64]; omega
      have Z3 : bits .or .i64 ((z * 256 : Nat) : Int) (((co q k).toNat : Nat) : Int) = ((nuK q (k + 1) : Nat) : Int) := by
        rw [i64_or_nat (by omega) (by omega), or_byte, HS.out]
      obtain ⟨y, ey⟩ : ∃ y, Hid (y = z * 256) := ⟨_, rfl⟩
      rw [← ey.out] at Z1 Z3
      clear HS ez ey
      go_wp2
      go_round
      case rel => exact ⟨k + 1, by omega, by go_num, rfl⟩
      case measure => simp [intOf]; omega
    · have e : k = 4 := by omega
      subst e
      clear cells
      go_wp2
      go_ret
      exact ⟨rfl, rfl⟩
set_option maxRecDepth 100000 in
set_option maxHeartbeats 2000000 in
theorem sclone_any {p : List UInt8} {w : World} {a : Addr} {c : Nat} (hp : Rd w (.slice (some a) p.length c) p) (hl : p.length ≤ 100000) : Calls Tryz.prog 151 #[.slice (some a) p.length c] w fun e w' => ∃ v, e = .returned v ∧ Rd w' v p ∧ FarV w v ∧ Below w.heap.size w w' := by
  obtain ⟨i0, hi, hz0, hz1, hz2⟩ := info_parts info_u8
  have qT : ∀ (w : World) (a : Option Addr) (n c n' c' : Nat), (binOp .eql 42 (.slice a n c) (.slice none n' c')).run Tryz.prog w = .ok (.bool a.isNone) w := fun w a n c n' c' => Lib.run_eql_slice_nil w _ _ a n c n' c' Tryz.underlying42
  have B1 : Below w.heap.size w (w.alloc (.cells #[] 5)) := (Below.refl _ _).alloc (Nat.le_refl _) _
  have O1 : (w.alloc (.cells #[] 5)).ownsRow w.heap.size 5 1 (.slice (some ⟨w.heap.size, 0, none⟩) 0 0) 0 [] := own_new w _
  have hp1 := hp.below B1
  have hsz : w.heap.size ≤ (w.alloc (.cells #[] 5)).heap.size := B1.size
  go_enter Tryz.func151, Tryz.ntmps151
  go_wp2_with (at_builtin; go_loud (refine wpList_append_rd _ rfl (.tmp 5) (.tmp 6) 42 rfl w.heap.size 5 i0 Tryz.underlying42 hi hz0 hz1 hz2 (.slice (some ⟨w.heap.size, 0, none⟩) 0 0) 0 [] rfl O1 (.slice (some a) p.length c) p rfl hp1 (by omega) hsz ?_); intro v' w9 hv9 hg9)
  have HB : Hid (Below w.heap.size w w9) := B1.grown hg9 hsz (fun q hq => by cases hq; exact Nat.le_refl _)
  have HO : Hid (Rd w9 v' p ∧ FarV w v') := ⟨rd_one hv9, FarV.own hv9⟩
  clear hv9 hg9 B1 O1 hp1 hp qT
  go_wp2
  go_ret
  exact ⟨v', rfl, HO.out.1, HO.out.2, HB.out⟩
end Go.Proofs.YtclieefpnbdbjaaGreat.Gf

namespace Go.Proofs.YtclieefpnbdbjaaGreat.Gf
set_option linter.unusedVariables false
set_option linter.unusedSimpArgs false
open Go.RowKit
/-- what is left: bytes, an error -/
def MakesS (w : World) (X : Int) (R : List UInt8) (e : Ending) (w' : World) : Prop := ∃ v, e = .returned (.tuple #[v, .int .i64 X]) ∧ Rd w' v R ∧ Below w.heap.size w w'
/-- .. the bytes in new memory -/
def MakesSF (w : World) (X : Int) (R : List UInt8) (e : Ending) (w' : World) : Prop := ∃ v, e = .returned (.tuple #[v, .int .i64 X]) ∧ Rd w' v R ∧ FarV w v ∧ Below w.heap.size w w'
theorem MakesSF.s {w w' : World} {X : Int} {R : List UInt8} {e : Ending} (h : MakesSF w X R e w') : MakesS w X R e w' := by
  obtain ⟨v, h1, h2, _, h4⟩ := h
  exact ⟨v, h1, h2, h4⟩
theorem RowF.partS {w : World} {base e g L C : Nat} {f : Nat → UInt8} (h : RowF w base e g L C f) {c cap : Nat} (hc : 0 < c) (hl : c ≤ L) (hcap : c ≤ cap) (hm : cap ≤ maxLen) : Rd w (.slice (some ⟨g, 0, none⟩) c cap) (upto f c) := by
  refine Or.inr ⟨g, 0, cap, fun e => ?_, by rw [upto_length], by rw [upto_length]; exact hcap, hm, h.lt.2, fun i hi => ?_⟩
  · have := upto_length f c
    rw [e] at this
    simp at this
    omega
  · rw [upto_length] at hi
    rw [co_upto_lt hi, Nat.zero_add]
    exact h.cell (by omega)
/-- the first numbers are those of a list -/
def Pre (f : Nat → UInt8) (r : List UInt8) : Prop := ∀ t, t < r.length → f t = co r t
theorem Pre.nil (f : Nat → UInt8) : Pre f [] := fun t h => by simp at h
theorem Pre.put {f : Nat → UInt8} {r : List UInt8} (h : Pre f r) (q : List UInt8) {k n : Nat} (hk : k = r.length) (hn : n = q.length) : Pre (putAt f k n (co q)) (r ++ q) := by
  subst hk hn
  intro t ht
  rw [List.length_append] at ht
  by_cases h1 : t < r.length
  · rw [putAt_out (Or.inl h1), co_append_lt h1]
    exact h t h1
  · obtain ⟨j, rfl⟩ := Nat.exists_eq_add_of_le (show r.length ≤ t by omega)
    rw [putAt_in (by omega), co_append_ge (by omega), Nat.add_sub_cancel_left]
theorem Pre.upto {f : Nat → UInt8} {r : List UInt8} (h : Pre f r) {n : Nat} (hn : n = r.length) : upto f n = r := by
  subst hn
  refine co_ext (upto_length _ _) fun i hi => ?_
  rw [upto_length] at hi
  rw [co_upto_lt hi]
  exact h i hi
set_option maxRecDepth 100000 in
set_option maxHeartbeats 4000000 in
theorem spack_far {a e : Int} {v : Value} {p : List UInt8} {w : World} (hp : Rd w v p) : Calls Tryz.prog 112 #[.int .i64 a, .int .i64 e, v] w (MakesSF w (paX a e p) (paR a e p)) := by
  obtain ⟨va, vc, rfl⟩ := hp.form
  have hmax := hp.len
  unfold maxLen at hmax
  by_cases ha : 0 ≤ a ∧ a ≤ 2147483647
  · have da : decide (0 ≤ a ∧ a ≤ 2147483647) = true := decide_eq_true ha
    by_cases he : 0 ≤ e ∧ e ≤ 2147483647
    · have de : decide (0 ≤ e ∧ e ≤ 2147483647) = true := decide_eq_true he
      by_cases hl : p.length ≤ 4096
      · rw [(pa_ok ⟨ha, he, hl⟩).1, (pa_ok ⟨ha, he, hl⟩).2]
        have hl' : ¬ (p.length : Int) > 4096 := by omega
        obtain ⟨i0, hi, hz0, hz1, hz2⟩ := info_parts info_u8
        obtain ⟨L, hL⟩ : ∃ L, Hid (L = 12 + p.length) := ⟨_, rfl⟩
        have g0 : (12 : Int) + (p.length : Int) = (L : Int) := by have := hL.out; omega
        have gw : IntKind.i64.wrap (L : Int) = (L : Int) := by rw [IntKind.wrap_i64]; have := hL.out; omega
        have hL5 : L ≤ 5000 := by have := hL.out; omega
        have hL4 : 12 ≤ L := by have := hL.out; omega
        go_enter Tryz.func112, Tryz.ntmps112
        go_wp2_with fail
        refine smay_any.mono ?_
        rintro e' w' ⟨rfl, rfl⟩
        rw [da]
        go_wp2_with fail
        refine smay_any.mono ?_
        rintro e' w' ⟨rfl, rfl⟩
        rw [de]
        clear da de
        obtain ⟨wo, hwo⟩ : ∃ wo, wo = w' := ⟨_, rfl⟩
        subst hwo
        obtain ⟨A, rfl⟩ : ∃ A : Nat, a = (A : Int) := ⟨a.toNat, by omega⟩
        obtain ⟨E, rfl⟩ : ∃ E : Nat, e = (E : Int) := ⟨e.toNat, by omega⟩
        rw [Int.toNat_natCast, Int.toNat_natCast]
        have wA : IntKind.u32.wrap (A : Int) = (A : Int) := by rw [IntKind.wrap_u32]; omega
        have wE : IntKind.u32.wrap (E : Int) = (E : Int) := by rw [IntKind.wrap_u32]; omega
        go_wp2_with (at_make; go_loud (refine wpList_make_full _ rfl (.tmp 26) (.tmp 26) 42 rfl wo.heap.size 5 i0 (.int .u8 0) 1 Tryz.underlying42 hi hz0 hz1 _ _ _ _ L rfl rfl (by omega) (by omega) (by rw [hz2]; omega) (by unfold maxLen; omega) (Nat.le_refl _) ?_); intro w1 hown1 hgrow1; have R1 := RowF.made hown1; have B1 : Below wo.heap.size wo w1 := (Below.refl _ _).grown hgrow1 (Nat.le_refl _) (fun k h => by cases h); clear hown1 hgrow1)
        obtain ⟨g, hg⟩ : ∃ g, g = wo.heap.size := ⟨_, rfl⟩
        obtain ⟨bb, hbb⟩ : ∃ bb, bb = w1.heap.size := ⟨_, rfl⟩
        obtain ⟨lb, hlb⟩ : ∃ lb, lb = w1.heap.size + 1 := ⟨_, rfl⟩
        have hlt := R1.lt.2
        obtain ⟨w2, hw2⟩ : ∃ w2, w2 = ((w1.alloc (.cells #[.slice (some ⟨wo.heap.size, 0, none⟩) L L] 42)).alloc (.cells #[.int .i64 0] 3)) := ⟨_, rfl⟩
        have D2 : Below w1.heap.size w1 w2 := by rw [hw2]; exact below_lit (below_lit (Below.refl _ _) _) _
        have R2 : RowF w2 wo.heap.size 5 wo.heap.size L L (fun _ => 0) := R1.later D2
        have s2 : w2.heap.size = w1.heap.size + 2 := by rw [hw2]; simp
        have c1 : w2.cell? ⟨lb, 0, none⟩ = some (.int .i64 ((0 : Nat) : Int)) := by rw [hw2, hlb]; go_simp
        have c2 : w2.cell? ⟨bb, 0, none⟩ = some (.slice (some ⟨g, 0, none⟩) L L) := by rw [hw2, hbb, hg]; go_simp
        have fz : w2.frozen? ⟨lb, 0, none⟩ = false := by rw [hw2, hlb]; go_simp
        have B2 : Below wo.heap.size wo w2 := Below.step B1 D2
        rw [← hw2, ← hlb, ← hbb, ← hg]
        rw [← hg] at R2
        have n1 : lb ≠ g := by omega
        have n2 : bb ≠ g := by omega
        have n3 : lb ≠ bb := by omega
        have l1 : lb < w2.heap.size := by omega
        have l2 : bb < w2.heap.size := by omega
        have AP : ApartL [lb, g] (.slice va p.length vc) := hp.apartL (by intro x hx; simp at hx; omega)
        have R2p := hp.below B2
        have GB : ∀ x, x ∈ [lb, g] → wo.heap.size ≤ x := by intro x hx; simp at hx; omega
        have PZ : Pre (fun _ => 0) [] := Pre.nil _
        clear hw2 s2 D2 R1 B1 hlt hg hbb hlb hp
        refine (slay_any (n := A) rfl c1 c2 fz R2 (by omega) hL5 l1 l2 n1 n2 n3).mono ?_
        rintro e' w3 ⟨rfl, d1, d2, dz, R3, T3⟩
        have P3 : Pre (putAt (fun _ => 0) 0 4 (co (fo A))) ([] ++ fo A) := PZ.put (fo A) rfl rfl
        have s3 := T3.size
        clear c1 c2 fz R2 PZ
        generalize putAt (fun _ => 0) 0 4 (co (fo A)) = f3 at *
        go_wp2_with fail
        refine (slay_any (n := E) rfl d1 d2 dz R3 (by omega) hL5 (by omega) (by omega) n1 n2 n3).mono ?_
        rintro e' w4 ⟨rfl, c1, c2, fz, R4, T4⟩
        have P4 : Pre (putAt f3 (0 + 4) 4 (co (fo E))) (([] ++ fo A) ++ fo E) := P3.put (fo E) rfl rfl
        replace T4 := T3.trans T4
        have s4 := T4.size
        clear d1 d2 dz R3 P3 T3 s3
        generalize putAt f3 (0 + 4) 4 (co (fo E)) = f4 at *
        rw [show 0 + 4 + 4 = 8 from rfl] at c1
        have RD := (R2p.turnL AP T4).drewN 1
        have RA : RowF w4.drew g 5 g L L f4 := R4.later (Below.refl _ _).drew
        obtain ⟨M, hM⟩ : ∃ M, Hid (M = 8 + p.length) := ⟨_, rfl⟩
        have g5 : (8 : Int) + (p.length : Int) = (M : Int) := by have := hM.out; omega
        have gw5 : IntKind.i64.wrap (M : Int) = (M : Int) := by rw [IntKind.wrap_i64]; have := hM.out; omega
        have hML : M + 4 = L := by have := hM.out; have := hL.out; omega
        have hM8 : 8 ≤ M := by have := hM.out; omega
        have P5 : Pre (putAt f4 8 p.length (co p)) (([] ++ fo A ++ fo E) ++ p) := P4.put p rfl rfl
        have HH : Hid (upto (putAt f4 8 p.length (co p)) M = hdS A E p) := by
          show _ = _
          rw [P5.upto (by rw [hM.out]; simp [fo_length]; omega)]
          unfold hdS
          simp
        have hdl : p.length ≤ L - 8 := by have := hM.out; omega
        have g6 : (8 : Int) ≤ (L : Int) := by omega
        have g7 : ¬ L = 8 := by omega
        have g8 : 8 < L := by omega
        have hpl : 8 + p.length ≤ L := by have := hM.out; omega
        have FIN : ∀ v3, Only g w4.drew v3 → RowF v3 g 5 g L L (putAt f4 8 p.length (co p)) → Hid ((v3.setCell ⟨lb, 0, none⟩ (.int .i64 (M : Int))).cell? ⟨lb, 0, none⟩ = some (.int .i64 (M : Int)) ∧ (v3.setCell ⟨lb, 0, none⟩ (.int .i64 (M : Int))).cell? ⟨bb, 0, none⟩ = some (.slice (some ⟨g, 0, none⟩) L L) ∧ (v3.setCell ⟨lb, 0, none⟩ (.int .i64 (M : Int))).frozen? ⟨lb, 0, none⟩ = false ∧ RowF (v3.setCell ⟨lb, 0, none⟩ (.int .i64 (M : Int))) g 5 g L L (putAt f4 8 p.length (co p)) ∧ TurnL [lb, g] w2 (v3.setCell ⟨lb, 0, none⟩ (.int .i64 (M : Int)))) := by
          intro v3 O3 R3
          have c1v := (O3.cell (p := ⟨lb, 0, none⟩) n1).trans c1
          have c2v := (O3.cell (p := ⟨bb, 0, none⟩) n2).trans c2
          have fzv := (O3.frozen (p := ⟨lb, 0, none⟩) n1).trans fz
          have OO := (Only.refl lb v3).setCell 0 (.int .i64 (M : Int))
          refine ⟨by simp [go_sem, c1v], (OO.cell (p := ⟨bb, 0, none⟩) n3.symm).trans c2v, by simp [go_sem, fzv], R3.only n1.symm OO, ((T4.drew).trans (O3.turnL (by simp))).trans (OO.turnL (by simp))⟩
        clear R2p AP R4 hM P4 hL
        go_wp2
        -- REGION
        refine wp_region_held_drew (S := (fun wx => wx.cell? ⟨bb, 0, none⟩ = some (.slice (some ⟨g, 0, none⟩) L L))) (by kernel_rfl) ?_ (fun hHeld => ?_)
        · exact c2
        refine tkH 1 ?_
        refine tkH 4 ?_
        refine rmH 0 2 (fun K hK => ?_) fun K hK => ?_
        · go_simp
          refine koH hK (by assumption) fun hHeld => ?_
          clear hK K
          refine rnH 2 fun K hK => ?_
          go_simp
          refine koH hK (by assumption) fun hHeld => ?_
          clear hK K
          refine tkH 3 ?_
          refine rnH 5 fun K hK => ?_
          refine step_copy_rd rfl (.tmp 40) (.tmp 41) 42 42 rfl 5 Tryz.underlying42 info1_u8s rfl rfl RD rfl hdl RA (by omega) ?_
          intro v3 O3 R3
          have c1v := (O3.cell (p := ⟨lb, 0, none⟩) n1).trans c1
          have c2v := (O3.cell (p := ⟨bb, 0, none⟩) n2).trans c2
          have fzv := (O3.frozen (p := ⟨lb, 0, none⟩) n1).trans fz
          have FW := FIN v3 O3 R3
          clear FIN RD RA
          refine koH hK c2v fun hHeld => ?_
          clear hK K
          refine tkH 6 ?_
          refine rnH 7 fun K hK => ?_
          go_simp
          refine koH hK ((((Only.refl lb v3).setCell 0 _).cell (p := ⟨bb, 0, none⟩) n3.symm).trans c2v) fun hHeld => ?_
          clear hK K
          refine wpAnyH_done (by kernel_rfl) ?_ _
          try simp only [List.getElem_toArray, List.getElem_cons_succ, List.getElem_cons_zero, Act.put, List.setIfInBounds_toArray, List.set_cons_zero, List.set_cons_succ]
          clear c1v c2v fzv hHeld c1 c2 fz O3 R3
          obtain ⟨c1, c2, fz, R5, T5⟩ := FW.out
          clear FW
          generalize v3.setCell ⟨lb, 0, none⟩ (.int .i64 (M : Int)) = w5 at *
          generalize putAt f4 8 p.length (co p) = f5 at *
          have RS : Rd w5 (.slice (some ⟨g, 0, none⟩) M L) (hdS A E p) := by rw [← HH.out]; exact R5.partS (by omega) (by omega) (by omega) (by unfold maxLen; omega)
          have hsl := hdS_length A E p
          have hML' : (M : Int) ≤ (L : Int) := by omega
          have s5 := T5.size
          go_wp2_with fail
          refine (csum_any RS (by omega)).mono ?_
          rintro e' w6 ⟨rfl, b6⟩
          have R6 := R5.later b6
          have d1 := (b6.cell (p := ⟨lb, 0, none⟩) (show lb < w5.heap.size by omega)).trans c1
          have d2 := (b6.cell (p := ⟨bb, 0, none⟩) (show bb < w5.heap.size by omega)).trans c2
          have dz := (b6.frozen (p := ⟨lb, 0, none⟩) (show lb < w5.heap.size by omega)).trans fz
          have T6 : TurnL [lb, g] w2 w6 := T5.trans (Below.turnL b6 _)
          have s6 := T6.size
          clear RS R5 c1 c2 fz T5 b6 s5
          go_wp2_with fail
          refine (slay_any (n := more 0 (hdS A E p)) rfl d1 d2 dz R6 (by omega) hL5 (by omega) (by omega) n1 n2 n3).mono ?_
          rintro e' w7 ⟨rfl, c1, c2, fz, R7, T7⟩
          replace T7 := T6.trans T7
          have HR : Hid (Rd w7 (.slice (some ⟨g, 0, none⟩) L L) (pkS A E p)) := by
            have e1 : upto (putAt f5 M 4 (co (fo (more 0 (hdS A E p))))) L = pkS A E p := by
              have q1 := P5.put (fo (more 0 (hdS A E p))) (k := M) (n := 4) (by simp [fo_length]; omega) rfl
              rw [q1.upto (by simp [fo_length]; omega)]
              unfold pkS hdS
              simp
            rw [← e1]
            exact R7.rd
          have HB : Hid (Below wo.heap.size wo w7) := B2.trans (T7.below GB B2.size)
          have HF : Hid (FarV wo (.slice (some ⟨g, 0, none⟩) L L)) := fun x n c e => by simp at e; rw [← e.1]; exact Or.inr (GB g (by simp))
          clear d1 d2 dz R6 T6 c1 fz R7 T7 P5 HH
          go_wp2
          go_ret2
          exact ⟨_, rfl, HR.out, HF.out, HB.out⟩
        · go_simp
          refine koH hK (by assumption) fun hHeld => ?_
          clear hK K
          refine tkH 3 ?_
          refine rmH 0 5 (fun K hK => ?_) fun K hK => ?_
          · go_simp
            refine koH hK (by assumption) fun hHeld => ?_
            clear hK K
            refine rnH 5 fun K hK => ?_
            refine step_copy_rd rfl (.tmp 40) (.tmp 41) 42 42 rfl 5 Tryz.underlying42 info1_u8s rfl rfl RD rfl hdl RA (by omega) ?_
            intro v3 O3 R3
            have c1v := (O3.cell (p := ⟨lb, 0, none⟩) n1).trans c1
            have c2v := (O3.cell (p := ⟨bb, 0, none⟩) n2).trans c2
            have fzv := (O3.frozen (p := ⟨lb, 0, none⟩) n1).trans fz
            have FW := FIN v3 O3 R3
            clear FIN RD RA
            refine koH hK c2v fun hHeld => ?_
            clear hK K
            refine tkH 6 ?_
            refine rnH 7 fun K hK => ?_
            go_simp
            refine koH hK ((((Only.refl lb v3).setCell 0 _).cell (p := ⟨bb, 0, none⟩) n3.symm).trans c2v) fun hHeld => ?_
            clear hK K
            refine wpAnyH_done (by kernel_rfl) ?_ _
            try simp only [List.getElem_toArray, List.getElem_cons_succ, List.getElem_cons_zero, Act.put, List.setIfInBounds_toArray, List.set_cons_zero, List.set_cons_succ]
            clear c1v c2v fzv hHeld c1 c2 fz O3 R3
            obtain ⟨c1, c2, fz, R5, T5⟩ := FW.out
            clear FW
            generalize v3.setCell ⟨lb, 0, none⟩ (.int .i64 (M : Int)) = w5 at *
            generalize putAt f4 8 p.length (co p) = f5 at *
            have RS : Rd w5 (.slice (some ⟨g, 0, none⟩) M L) (hdS A E p) := by rw [← HH.out]; exact R5.partS (by omega) (by omega) (by omega) (by unfold maxLen; omega)
            have hsl := hdS_length A E p
            have hML' : (M : Int) ≤ (L : Int) := by omega
            have s5 := T5.size
            go_wp2_with fail
            refine (csum_any RS (by omega)).mono ?_
            rintro e' w6 ⟨rfl, b6⟩
            have R6 := R5.later b6
            have d1 := (b6.cell (p := ⟨lb, 0, none⟩) (show lb < w5.heap.size by omega)).trans c1
            have d2 := (b6.cell (p := ⟨bb, 0, none⟩) (show bb < w5.heap.size by omega)).trans c2
            have dz := (b6.frozen (p := ⟨lb, 0, none⟩) (show lb < w5.heap.size by omega)).trans fz
            have T6 : TurnL [lb, g] w2 w6 := T5.trans (Below.turnL b6 _)
            have s6 := T6.size
            clear RS R5 c1 c2 fz T5 b6 s5
            go_wp2_with fail
            refine (slay_any (n := more 0 (hdS A E p)) rfl d1 d2 dz R6 (by omega) hL5 (by omega) (by omega) n1 n2 n3).mono ?_
            rintro e' w7 ⟨rfl, c1, c2, fz, R7, T7⟩
            replace T7 := T6.trans T7
            have HR : Hid (Rd w7 (.slice (some ⟨g, 0, none⟩) L L) (pkS A E p)) := by
              have e1 : upto (putAt f5 M 4 (co (fo (more 0 (hdS A E p))))) L = pkS A E p := by
                have q1 := P5.put (fo (more 0 (hdS A E p))) (k := M) (n := 4) (by simp [fo_length]; omega) rfl
                rw [q1.upto (by simp [fo_length]; omega)]
                unfold pkS hdS
                simp
              rw [← e1]
              exact R7.rd
            have HB : Hid (Below wo.heap.size wo w7) := B2.trans (T7.below GB B2.size)
            have HF : Hid (FarV wo (.slice (some ⟨g, 0, none⟩) L L)) := fun x n c e => by simp at e; rw [← e.1]; exact Or.inr (GB g (by simp))
            clear d1 d2 dz R6 T6 c1 fz R7 T7 P5 HH
            go_wp2
            go_ret2
            exact ⟨_, rfl, HR.out, HF.out, HB.out⟩
          · refine step_copy_rd rfl (.tmp 40) (.tmp 41) 42 42 rfl 5 Tryz.underlying42 info1_u8s rfl rfl RD rfl hdl RA (by omega) ?_
            intro v3 O3 R3
            have c1v := (O3.cell (p := ⟨lb, 0, none⟩) n1).trans c1
            have c2v := (O3.cell (p := ⟨bb, 0, none⟩) n2).trans c2
            have fzv := (O3.frozen (p := ⟨lb, 0, none⟩) n1).trans fz
            have FW := FIN v3 O3 R3
            clear FIN RD RA
            refine koH hK c2v fun hHeld => ?_
            clear hK K
            refine rnH 0 fun K hK => ?_
            go_simp
            refine koH hK (by assumption) fun hHeld => ?_
            clear hK K
            refine tkH 6 ?_
            refine rnH 7 fun K hK => ?_
            go_simp
            refine koH hK ((((Only.refl lb v3).setCell 0 _).cell (p := ⟨bb, 0, none⟩) n3.symm).trans c2v) fun hHeld => ?_
            clear hK K
            refine wpAnyH_done (by kernel_rfl) ?_ _
            try simp only [List.getElem_toArray, List.getElem_cons_succ, List.getElem_cons_zero, Act.put, List.setIfInBounds_toArray, List.set_cons_zero, List.set_cons_succ]
            clear c1v c2v fzv hHeld c1 c2 fz O3 R3
            obtain ⟨c1, c2, fz, R5, T5⟩ := FW.out
            clear FW
            generalize v3.setCell ⟨lb, 0, none⟩ (.int .i64 (M : Int)) = w5 at *
            generalize putAt f4 8 p.length (co p) = f5 at *
            have RS : Rd w5 (.slice (some ⟨g, 0, none⟩) M L) (hdS A E p) := by rw [← HH.out]; exact R5.partS (by omega) (by omega) (by omega) (by unfold maxLen; omega)
            have hsl := hdS_length A E p
            have hML' : (M : Int) ≤ (L : Int) := by omega
            have s5 := T5.size
            go_wp2_with fail
            refine (csum_any RS (by omega)).mono ?_
            rintro e' w6 ⟨rfl, b6⟩
            have R6 := R5.later b6
            have d1 := (b6.cell (p := ⟨lb, 0, none⟩) (show lb < w5.heap.size by omega)).trans c1
            have d2 := (b6.cell (p := ⟨bb, 0, none⟩) (show bb < w5.heap.size by omega)).trans c2
            have dz := (b6.frozen (p := ⟨lb, 0, none⟩) (show lb < w5.heap.size by omega)).trans fz
            have T6 : TurnL [lb, g] w2 w6 := T5.trans (Below.turnL b6 _)
            have s6 := T6.size
            clear RS R5 c1 c2 fz T5 b6 s5
            go_wp2_with fail
            refine (slay_any (n := more 0 (hdS A E p)) rfl d1 d2 dz R6 (by omega) hL5 (by omega) (by omega) n1 n2 n3).mono ?_
            rintro e' w7 ⟨rfl, c1, c2, fz, R7, T7⟩
            replace T7 := T6.trans T7
            have HR : Hid (Rd w7 (.slice (some ⟨g, 0, none⟩) L L) (pkS A E p)) := by
              have e1 : upto (putAt f5 M 4 (co (fo (more 0 (hdS A E p))))) L = pkS A E p := by
                have q1 := P5.put (fo (more 0 (hdS A E p))) (k := M) (n := 4) (by simp [fo_length]; omega) rfl
                rw [q1.upto (by simp [fo_length]; omega)]
                unfold pkS hdS
                simp
              rw [← e1]
              exact R7.rd
            have HB : Hid (Below wo.heap.size wo w7) := B2.trans (T7.below GB B2.size)
            have HF : Hid (FarV wo (.slice (some ⟨g, 0, none⟩) L L)) := fun x n c e => by simp at e; rw [← e.1]; exact Or.inr (GB g (by simp))
            clear d1 d2 dz R6 T6 c1 fz R7 T7 P5 HH
            go_wp2
            go_ret2
            exact ⟨_, rfl, HR.out, HF.out, HB.out⟩
  -- REGION END
      · rw [(pa_not (fun h => hl h.2.2)).1, (pa_not (fun h => hl h.2.2)).2]
        have hl' : (p.length : Int) > 4096 := by omega
        go_enter Tryz.func112, Tryz.ntmps112
        go_wp2_with fail
        refine smay_any.mono ?_
        rintro e' w' ⟨rfl, rfl⟩
        rw [da]
        go_wp2_with fail
        refine smay_any.mono ?_
        rintro e' w' ⟨rfl, rfl⟩
        rw [de]
        go_wp2
        go_ret2
        exact ⟨_, rfl, rd_nil0, FarV.nil _ _ _, Below.refl _ _⟩
    · have de : decide (0 ≤ e ∧ e ≤ 2147483647) = false := decide_eq_false he
      rw [(pa_not (fun h => he h.2.1)).1, (pa_not (fun h => he h.2.1)).2]
      go_enter Tryz.func112, Tryz.ntmps112
      go_wp2_with fail
      refine smay_any.mono ?_
      rintro e' w' ⟨rfl, rfl⟩
      rw [da]
      go_wp2_with fail
      refine smay_any.mono ?_
      rintro e' w' ⟨rfl, rfl⟩
      rw [de]
      go_wp2
      go_ret2
      exact ⟨_, rfl, rd_nil0, FarV.nil _ _ _, Below.refl _ _⟩
  · have da : decide (0 ≤ a ∧ a ≤ 2147483647) = false := decide_eq_false ha
    rw [(pa_not (fun h => ha h.1)).1, (pa_not (fun h => ha h.1)).2]
    go_enter Tryz.func112, Tryz.ntmps112
    go_wp2_with fail
    refine smay_any.mono ?_
    rintro e' w' ⟨rfl, rfl⟩
    rw [da]
    go_wp2
    go_ret2
    exact ⟨_, rfl, rd_nil0, FarV.nil _ _ _, Below.refl _ _⟩
theorem spack_any {a e : Int} {v : Value} {p : List UInt8} {w : World} (hp : Rd w v p) : Calls Tryz.prog 112 #[.int .i64 a, .int .i64 e, v] w (MakesS w (paX a e p) (paR a e p)) := (spack_far hp).mono fun _ _ h => h.s
end Go.Proofs.YtclieefpnbdbjaaGreat.Gf
