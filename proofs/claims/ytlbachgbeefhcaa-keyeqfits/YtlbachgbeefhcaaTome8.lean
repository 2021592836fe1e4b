/- TEXTS JOINED: GfQuiet, PoCodeB. -/
import Derived.Test.YtlbachgbeefhcaaTome4
import Derived.Test.YtlbachgbeefhcaaTome1
import Derived.BigQuiet
/-
  A PRODUCT OF BYTES BY CONTRACT.
-/

namespace Go.Proofs.Ytlbachgbeefhcaa.Gf
set_option linter.unusedVariables false
set_option linter.unusedSimpArgs false
open Go.RowKit

theorem fmu_quiet {b : Nat} {w : World} (hF : FieldAt w b) (a c : UInt8) {x y : Int} (hx : x = ((a.toNat : Nat) : Int)) (hy : y = ((c.toNat : Nat) : Int)) :
    Calls Try.prog 33 #[.pointer (some ⟨b, 0, none⟩), .int .u8 x, .int .u8 y] w fun e w' => e = .returned (.int .u8 ((mu a c).toNat : Nat)) ∧ ∃ n, w' = w.drewN n := by
  rw [mu_toNat]
  exact mul_at hF a.toNat c.toNat hx hy (u8_lt a) (u8_lt c)

end Go.Proofs.Ytlbachgbeefhcaa.Gf

/-
  THE PROGRAM's 'Deriv' AND 'Eval' BY CONTRACT.
-/



namespace Go.Proofs.Ytlbachgbeefhcaa.Gf
set_option linter.unusedVariables false
set_option linter.unusedSimpArgs false
open Go.RowKit

theorem pder_even {f : Nat → UInt8} {k : Nat} (h : k % 2 = 0) : der f k = f (k + 1) := by unfold der od; rw [if_pos (by omega)]
theorem pder_odd {f : Nat → UInt8} {k : Nat} (h : k % 2 = 1) : der f k = 0 := by unfold der od; rw [if_neg (by omega)]
/-- the first k numbers of a derivative -/
def dk (f : Nat → UInt8) (k t : Nat) : UInt8 := if t < k then der f t else 0
theorem dk_zero (f : Nat → UInt8) (t : Nat) : dk f 0 t = 0 := if_neg (by omega)
theorem dk_even {f : Nat → UInt8} {k : Nat} (h : k % 2 = 0) (t : Nat) : dk f (k + 1) t = if t = k then f (k + 1) else dk f k t := by
  unfold dk
  by_cases e : t = k
  · subst e; rw [if_pos (by omega), if_pos rfl, pder_even h]
  · rw [if_neg e]
    by_cases h2 : t < k
    · rw [if_pos h2, if_pos (by omega)]
    · rw [if_neg h2, if_neg (by omega)]
theorem dk_odd {f : Nat → UInt8} {k : Nat} (h : k % 2 = 1) : dk f (k + 1) = dk f k := by
  funext t
  unfold dk
  by_cases e : t = k
  · subst e; rw [if_pos (by omega), if_neg (by omega), pder_odd h]
  · by_cases h2 : t < k
    · rw [if_pos h2, if_pos (by omega)]
    · rw [if_neg h2, if_neg (by omega)]

set_option maxRecDepth 100000 in
set_option maxHeartbeats 1000000 in
theorem pderiv_nil (a : Option Addr) (c : Nat) (w : World) :
    Calls Try.prog 19 #[.slice a 0 c] w fun e w' => e = .returned (.slice none 0 0) ∧ w' = w := by
  go_enter Try.func19, Try.ntmps19
  go_wp2
  go_ret
  exact ⟨rfl, rfl⟩

set_option maxRecDepth 100000 in
set_option maxHeartbeats 1000000 in
theorem pderiv_main (b off c : Nat) (p : List UInt8) (w : World) (hp0 : p ≠ []) (hl : p.length ≤ 1000000) (hb : b < w.heap.size)
    (hpc : ∀ i, i < p.length → w.cell? ⟨b, off + i, none⟩ = some (.int .u8 ((co p i).toNat : Nat))) :
    Calls Try.prog 19 #[.slice (some ⟨b, off, none⟩) p.length c] w (Makes w (derP p)) := by
  obtain ⟨i0, hi, hz0, hz1, hz2⟩ := info_parts info_u8
  obtain ⟨n, hn⟩ : ∃ n, p.length = n + 1 := ⟨p.length - 1, by have := List.length_pos_iff.2 hp0; omega⟩
  have HN : Hid (norm (upto (der (co p)) n) = derP p) := norm_upto (by have := (co_fin p).der; rw [hn] at this; exact this) (fin_der p)
  have HU : Hid ((upto (der (co p)) n).length = n) := upto_length _ _
  rw [hn] at hpc hl
  simp only [hn]
  clear hp0 hn
  have hnz : (((n : Int) + 1) == 0) = false := by simp; omega
  go_enter Try.func19, Try.ntmps19
  go_wp2_with (at_make; go_loud (refine wpList_make_full _ rfl (.tmp 10) (.tmp 10) 23 rfl w.heap.size 5 i0 (.int .u8 0) 1 Try.underlying23 hi hz0 hz1 _ _ _ _ n rfl rfl (by omega) (by omega) (by rw [hz2]; omega) (by unfold maxLen; omega) (Nat.le_refl _) ?_); intro w1 hown1 hgrow1)
  have R1 := RowF.made hown1
  have B1 : Below w.heap.size w w1 := (Below.refl _ _).grown hgrow1 (Nat.le_refl _) (fun k h => by cases h)
  clear hown1 hgrow1
  go_loopw [14] (fun i wr => ∃ k : Nat, k ≤ n ∧ i = .int .i64 k ∧ RowF wr w.heap.size 5 w.heap.size n n (dk (co p) k) ∧ Below w.heap.size w wr) (fun i _ => n - (intOf i).toNat)
  case atStart => exact ⟨0, by omega, rfl, R1.congr (fun t _ => (dk_zero _ t).symm), B1⟩
  case round =>
    obtain ⟨k, hk, rfl, hR, hB⟩ := hrel
    clear R1 B1
    by_cases hlt : k < n
    · by_cases hev : k % 2 = 0
      · have c1 : wr.cell? ⟨b, off + (k + 1), none⟩ = some (.int .u8 (((co p (k + 1)).toNat : Nat) : Int)) := (hB.cell (p := ⟨b, off + (k + 1), none⟩) hb).trans (hpc (k + 1) (by omega))
        have c2 := hR.cell hlt
        have f1 := hR.unfrozen k
        have N1 : Hid _ := hR.store hlt (co p (k + 1)) (dk_even hev)
        have N2 : Hid _ := hB.setCell (p := ⟨w.heap.size, k, none⟩) (Nat.le_refl _) (.int .u8 (((co p (k + 1)).toNat : Nat) : Int))
        clear hpc hR hB
        go_wp2
        go_roundw
        case rel => exact ⟨k + 1, by omega, by go_num, N1.out, N2.out⟩
        case measure => simp [intOf]; omega
      · have hev2 : k % 2 = 1 := by omega
        have N1 : Hid (RowF wr w.heap.size 5 w.heap.size n n (dk (co p) (k + 1))) := by rw [dk_odd hev2]; exact hR
        clear hpc hR
        go_wp2
        go_roundw
        case rel => exact ⟨k + 1, by omega, by go_num, N1.out, hB⟩
        case measure => simp [intOf]; omega
    · have e : k = n := by omega
      subst e
      have hR2 : RowF wr w.heap.size 5 w.heap.size k k (der (co p)) := hR.congr (fun t ht => if_pos ht)
      have hRd := hR2.rd
      have hRN := hRd.part
      clear hR hR2 hpc
      go_wp2_with fail
      refine (top_any hRd (by rw [HU.out]; omega)).mono ?_
      rintro e w'' ⟨rfl, rfl⟩
      go_wp2
      go_ret
      rw [← HN.out]
      exact ⟨_, rfl, hRN, hB⟩

theorem pderiv_any {v : Value} {p : List UInt8} {w : World} (hp : Rd w v p) (hl : p.length ≤ 400000) :
    Calls Try.prog 19 #[v] w (Makes w (derP p)) := by
  rcases hp with ⟨a, c, rfl, rfl, hc, hn⟩ | ⟨b, off, c, hp0, rfl, h1, h2, h3, hpc⟩
  · refine (pderiv_nil a c w).mono ?_
    rintro e w' ⟨rfl, rfl⟩
    exact ⟨_, rfl, rd_nil_any, Below.refl _ _⟩
  · exact pderiv_main b off c p w hp0 (by omega) h3 hpc

/-- A value by Horner's rule: the last k numbers. -/
def hor (p : Nat → UInt8) (x : UInt8) (n k : Nat) : UInt8 := ev k (fun i => p (n - k + i)) x
theorem hor_step (p : Nat → UInt8) (x : UInt8) (n k : Nat) (h : k < n) : hor p x n (k + 1) = mu (hor p x n k) x ^^^ p (n - 1 - k) := by
  unfold hor ev
  rw [S_head, S_mu, x_comm]
  congr 1
  · refine S_congr fun i hi => ?_
    rw [pwr, mu_assoc]
    show mu (p (n - (k + 1) + (i + 1))) _ = mu (p (n - k + i)) _
    rw [show n - (k + 1) + (i + 1) = n - k + i by omega]
  · rw [pwr, mu_one]
    show p (n - (k + 1) + 0) = _
    rw [show n - (k + 1) + 0 = n - 1 - k by omega]
theorem hor_all (p : List UInt8) (x : UInt8) : hor (co p) x p.length p.length = evP p x := by
  unfold hor evP ev
  refine S_congr fun i _ => ?_
  show mu (co p (p.length - p.length + i)) _ = _
  rw [Nat.sub_self, Nat.zero_add]

set_option maxRecDepth 100000 in
set_option maxHeartbeats 1000000 in
theorem peval_nil {v : Value} {p : List UInt8} {w : World} (hp : Rd w v p) (x : UInt8) {y : Int} (hy : y = ((x.toNat : Nat) : Int)) (hl : p.length ≤ 400000) :
    Calls Try.prog 21 #[.pointer none, v, .int .u8 y] w fun e w' => e = .returned (.int .u8 0) ∧ Below w.heap.size w w' := by
  clear hp
  go_enter Try.func21, Try.ntmps21
  go_wp2
  go_ret
  exact ⟨rfl, Below.refl _ _⟩

set_option maxRecDepth 100000 in
set_option maxHeartbeats 1000000 in
theorem peval_quiet {b : Nat} {v : Value} {p : List UInt8} {w : World} (hF : FieldAt w b) (hp : Rd w v p) (x : UInt8) {y : Int} (hy : y = ((x.toNat : Nat) : Int)) (hl : p.length ≤ 400000) :
    Calls Try.prog 21 #[.pointer (some ⟨b, 0, none⟩), v, .int .u8 y] w fun e w' => e = .returned (.int .u8 ((evP p x).toNat : Nat)) ∧ ∃ n, w' = w.drewN n := by
  subst hy
  rcases hp with ⟨a, c, rfl, rfl, hc, hn⟩ | ⟨bb, off, c, hp0, rfl, h1, h2, h3, hpc⟩
  · have e : evP [] x = 0 := rfl
    have E : Hid _ := e
    clear e
    go_enter Try.func21, Try.ntmps21
    go_wp2
    go_loop [7, 13] (fun o i => o = .int .u8 0 ∧ i = .int .i64 0) (fun _ _ => 0)
    case atStart => exact ⟨rfl, rfl⟩
    case round =>
      obtain ⟨rfl, rfl⟩ := hrel
      go_wp2
      go_ret
      exact ⟨by rw [E.out]; rfl, 0, rfl⟩
  · have HE : Hid _ := hor_all p x
    clear hp0
    go_enter Try.func21, Try.ntmps21
    go_wp2
    go_loopw [7, 13] (fun o i wr => ∃ k : Nat, k ≤ p.length ∧ i = .int .i64 k ∧ o = .int .u8 ((hor (co p) x p.length k).toNat : Nat) ∧ ∃ d, Hid (wr = w.drewN d)) (fun _ i _ => p.length - (intOf i).toNat)
    case atStart => exact ⟨0, by omega, rfl, rfl, 0, rfl⟩
    case round =>
      obtain ⟨k, hk, rfl, rfl, d, hd⟩ := hrel
      by_cases hlt : k < p.length
      · have c1 : wr.cell? ⟨bb, off + (p.length - 1 - k), none⟩ = some (.int .u8 ((co p (p.length - 1 - k)).toNat : Nat)) := by rw [hd.out]; exact hpc (p.length - 1 - k) (by omega)
        obtain ⟨t, ht⟩ : ∃ t, t = p.length - 1 - k := ⟨_, rfl⟩
        have hx : bits .xor .u8 (((mu (hor (co p) x p.length k) x).toNat : Nat) : Int) (((co p t).toNat : Nat) : Int) = (((hor (co p) x p.length (k + 1)).toNat : Nat) : Int) := by
          rw [hor_step _ _ _ _ hlt, ← ht]; exact xor_u8 _ _
        have HX : Hid _ := hx
        rw [← ht] at c1
        clear hpc
        have g0 : (p.length : Int) - 1 - (k : Int) = (t : Int) := by omega
        have htl : t < p.length := by omega
        have gw1 : IntKind.i64.wrap ((p.length : Int) - 1) = (p.length : Int) - 1 := by rw [IntKind.wrap_i64]; omega
        have gw3 : IntKind.i64.wrap (t : Int) = (t : Int) := by rw [IntKind.wrap_i64]; omega
        have g1 : (t : Int) < (p.length : Int) := by omega
        clear ht
        have hFd : FieldAt wr b := by rw [hd.out]; exact hF.drewN d
        go_wp2
        go_quiet ((go_at_call 33; go_loud (exact Calls.quiet_of (fmu_quiet (hFd.drewN _) (hor (co p) x p.length k) x rfl rfl))))
        go_wp2
        go_roundw
        case rel => exact ⟨k + 1, by omega, by go_num, by first | exact congrArg _ HX.out | (rw [← HX.out, xor_u8]), _, by show _ = _; rw [hd.out, World.drewN_drewN]⟩
        case measure => simp [intOf]; omega
      · have e : k = p.length := by omega
        subst e
        clear hpc
        go_wp2
        go_ret
        exact ⟨by rw [← HE.out]; rfl, d, hd.out⟩

theorem peval_any {b : Nat} {v : Value} {p : List UInt8} {w : World} (hF : FieldAt w b) (hp : Rd w v p) (x : UInt8) {y : Int} (hy : y = ((x.toNat : Nat) : Int)) (hl : p.length ≤ 400000) :
    Calls Try.prog 21 #[.pointer (some ⟨b, 0, none⟩), v, .int .u8 y] w fun e w' => e = .returned (.int .u8 ((evP p x).toNat : Nat)) ∧ Below w.heap.size w w' :=
  (peval_quiet hF hp x hy hl).mono fun e w' ⟨h1, n, h2⟩ => ⟨h1, by rw [h2]; exact below_draws _ _⟩

end Go.Proofs.Ytlbachgbeefhcaa.Gf

