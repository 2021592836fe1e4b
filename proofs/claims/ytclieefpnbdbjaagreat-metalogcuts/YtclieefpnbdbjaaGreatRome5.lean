/- TEXTS JOINED: WdCnt, WdInts, SeMath, SeCA. -/
import Derived.Test.YtclieefpnbdbjaaGreatRome2
import Derived.Test.YtclieefpnbdbjaaGreatRome3
import Derived.Laws.BytesArg
namespace Go.Proofs.YtclieefpnbdbjaaGreat.Gf
set_option linter.unusedVariables false
set_option linter.unusedSimpArgs false
/-- how many of the first n are so -/
def cnt (p : Nat → Bool) : Nat → Nat
  | 0 => 0
  | n + 1 => cnt p n + (if p n then 1 else 0)
theorem cnt_le (p : Nat → Bool) (n : Nat) : cnt p n ≤ n := by
  induction n with
  | zero => exact Nat.le_refl _
  | succ n ih => rw [cnt]; split <;> omega
theorem cnt_full {p : Nat → Bool} : ∀ {n : Nat}, (∀ i, i < n → p i = true) → cnt p n = n
  | 0, _ => rfl
  | n + 1, h => by
    show cnt p n + (if p n then 1 else 0) = n + 1
    rw [cnt_full fun i hi => h i (by omega), h n (by omega)]
    rfl
theorem cnt_yes {p : Nat → Bool} {n : Nat} (h : p n = true) : cnt p (n + 1) = cnt p n + 1 := by rw [cnt, if_pos h]
theorem cnt_not {p : Nat → Bool} {n : Nat} (h : p n = false) : cnt p (n + 1) = cnt p n := by rw [cnt, if_neg (by rw [h]; decide)]; rfl
end Go.Proofs.YtclieefpnbdbjaaGreat.Gf

namespace Go.Proofs.YtclieefpnbdbjaaGreat.Gf
set_option linter.unusedVariables false
set_option linter.unusedSimpArgs false
open Go.RowKit
theorem ints_ext {xs ys : List Int} (hl : xs.length = ys.length) (h : ∀ i, i < xs.length → xs.getD i 0 = ys.getD i 0) : xs = ys := by
  refine List.ext_getElem hl fun i h1 h2 => ?_
  have := h i h1
  simpa [List.getD, h1, h2] using this
set_option maxRecDepth 100000 in
set_option maxHeartbeats 1000000 in
theorem rints_any {va vb : Value} {xs ys : List Int} {w : World} (ha : RdI w va xs) (hb : RdI w vb ys) (hl : xs.length ≤ 1000000) (hl2 : ys.length ≤ 1000000) :
    Calls Tryz.prog 48 #[va, vb] w fun e w' => e = .returned (.bool (decide (xs = ys))) ∧ Below w.heap.size w w' := by
  obtain ⟨a1, c1, rfl⟩ := ha.form
  obtain ⟨a2, c2, rfl⟩ := hb.form
  by_cases hlen : xs.length = ys.length
  · have hn : (((xs.length : Nat) : Int) != ((ys.length : Nat) : Int)) = false := by simp [hlen]
    have hlen' : Hid _ := hlen
    clear hlen
    go_enter Tryz.func48, Tryz.ntmps48
    go_wp2
    go_loopw [5] (fun i wr => ∃ k : Nat, k ≤ xs.length ∧ i = .int .i64 k ∧ Hid (∀ j, j < k → xs.getD j 0 = ys.getD j 0) ∧ Below w.heap.size w wr) (fun i _ => xs.length - (intOf i).toNat)
    case atStart => exact ⟨0, by omega, rfl, fun j hj => by omega, Below.refl _ _⟩
    case round =>
      obtain ⟨k, hk, rfl, hs, hB⟩ := hrel
      by_cases hlt : k < xs.length
      · obtain ⟨b1, o1, rfl, _, k1⟩ := (ha.below hB).at hlt
        obtain ⟨b2, o2, rfl, _, k2⟩ := (hb.below hB).at (show k < ys.length by have := hlen'.out; omega)
        have hlt1 : (k : Int) < (xs.length : Int) := by omega
        have hlt2 : (k : Int) < (ys.length : Int) := by have := hlen'.out; omega
        by_cases e : xs.getD k 0 = ys.getD k 0
        · have HS : Hid (∀ j, j < k + 1 → xs.getD j 0 = ys.getD j 0) := fun j hj => by
            by_cases e2 : j = k
            · rw [e2]; exact e
            · exact hs.out j (by omega)
          rw [e] at k1
          generalize ys.getD k 0 = y at k1 k2
          clear e hs ha hb
          go_wp2_with fail
          try go_quiet (fail)
          try go_wp2
          go_roundw
          case rel => exact ⟨k + 1, by omega, by go_num, HS, by first | exact hB | exact hB.drewN _⟩
          case measure => simp [intOf]; omega
        · have hne : (xs.getD k 0 != ys.getD k 0) = true := bne_iff_ne.2 e
          have E : Hid (decide (xs = ys) = false) := decide_eq_false fun q => e (by rw [q])
          generalize ys.getD k 0 = y at k2 hne
          generalize xs.getD k 0 = x at k1 hne
          clear e hs ha hb
          go_wp2_with fail
          try go_quiet (fail)
          try go_wp2
          go_ret
          exact ⟨by rw [E.out]; rfl, by first | exact hB | exact hB.drewN _⟩
      · have hge : ¬ (k : Int) < (xs.length : Int) := by omega
        have E : Hid (decide (xs = ys) = true) := decide_eq_true (ints_ext hlen'.out fun i hi => hs.out i (by omega))
        clear hs ha hb
        go_wp2
        go_ret
        exact ⟨by rw [E.out]; rfl, hB⟩
  · have hn : (((xs.length : Nat) : Int) != ((ys.length : Nat) : Int)) = true := by simp; omega
    have E : Hid (decide (xs = ys) = false) := decide_eq_false fun q => hlen (by rw [q])
    clear ha hb hlen
    go_enter Tryz.func48, Tryz.ntmps48
    go_wp2
    go_ret
    exact ⟨by rw [E.out]; rfl, Below.refl _ _⟩
end Go.Proofs.YtclieefpnbdbjaaGreat.Gf

namespace Go.Proofs.YtclieefpnbdbjaaGreat.Gf
set_option linter.unusedVariables false
set_option linter.unusedSimpArgs false
open Go.RowKit
/-- a number's four bytes -/
def fo (n : Nat) : List UInt8 := [UInt8.ofNat (n / 16777216), UInt8.ofNat (n / 65536), UInt8.ofNat (n / 256), UInt8.ofNat n]
/-- the number of four bytes -/
def nu (p : List UInt8) : Nat := (co p 0).toNat * 16777216 + (co p 1).toNat * 65536 + (co p 2).toNat * 256 + (co p 3).toNat
theorem fo_length (n : Nat) : (fo n).length = 4 := rfl
theorem nu_lt (p : List UInt8) : nu p < 4294967296 := by
  have h0 := (co p 0).toNat_lt
  have h1 := (co p 1).toNat_lt
  have h2 := (co p 2).toNat_lt
  have h3 := (co p 3).toNat_lt
  unfold nu
  omega
theorem nu_fo {n : Nat} (h : n < 4294967296) : nu (fo n) = n := by
  show (UInt8.ofNat (n / 16777216)).toNat * 16777216 + (UInt8.ofNat (n / 65536)).toNat * 65536 + (UInt8.ofNat (n / 256)).toNat * 256 + (UInt8.ofNat n).toNat = n
  simp only [UInt8.toNat_ofNat']
  omega
/-- what stands ahead of the check sum -/
def hdS (a e : Nat) (d : List UInt8) : List UInt8 := fo a ++ (fo e ++ d)
/-- a sector -/
def pkS (a e : Nat) (d : List UInt8) : List UInt8 := hdS a e d ++ fo (more 0 (hdS a e d))
theorem hdS_length (a e : Nat) (d : List UInt8) : (hdS a e d).length = d.length + 8 := by
  unfold hdS
  rw [List.length_append, List.length_append, fo_length, fo_length]
  omega
theorem pk_length (a e : Nat) (d : List UInt8) : (pkS a e d).length = d.length + 12 := by
  unfold pkS
  rw [List.length_append, hdS_length, fo_length]
/-- the epoch that stands in bytes, and the data -/
def epS (b : List UInt8) : Nat := nu ((b.drop 4).take 4)
def daS (b : List UInt8) : List UInt8 := (b.drop 8).take (b.length - 12)
theorem daS_length (b : List UInt8) : (daS b).length = b.length - 12 := by unfold daS; rw [List.length_take, List.length_drop]; omega
theorem epS_pk {a e : Nat} (d : List UInt8) (he : e < 4294967296) : epS (pkS a e d) = e := by
  unfold epS
  have : ((pkS a e d).drop 4).take 4 = fo e := rfl
  rw [this, nu_fo he]
theorem daS_pk (a e : Nat) (d : List UInt8) : daS (pkS a e d) = d := by
  unfold daS
  rw [pk_length, Nat.add_sub_cancel]
  have : (pkS a e d).drop 8 = d ++ fo (more 0 (hdS a e d)) := rfl
  rw [this]
  exact List.take_left' rfl
/-- numbers and data that may stand in a sector -/
def OkSe (a e : Int) (n : Nat) : Prop := (0 ≤ a ∧ a ≤ 2147483647) ∧ (0 ≤ e ∧ e ≤ 2147483647) ∧ n ≤ 4096
instance (a e : Int) (n : Nat) : Decidable (OkSe a e n) := inferInstanceAs (Decidable (_ ∧ _ ∧ _))
def paX (a e : Int) (d : List UInt8) : Int := if OkSe a e d.length then 0 else 1
def paR (a e : Int) (d : List UInt8) : List UInt8 := if OkSe a e d.length then pkS a.toNat e.toNat d else []
theorem pa_ok {a e : Int} {d : List UInt8} (h : OkSe a e d.length) : paX a e d = 0 ∧ paR a e d = pkS a.toNat e.toNat d := ⟨if_pos h, if_pos h⟩
theorem pa_not {a e : Int} {d : List UInt8} (h : ¬ OkSe a e d.length) : paX a e d = 1 ∧ paR a e d = [] := ⟨if_neg h, if_neg h⟩
/-- bytes that are a sector of a place -/
def OkUe (a : Int) (b : List UInt8) : Prop := 12 ≤ b.length ∧ OkSe a (epS b : Int) (daS b).length ∧ pkS a.toNat (epS b) (daS b) = b
instance (a : Int) (b : List UInt8) : Decidable (OkUe a b) := inferInstanceAs (Decidable (_ ∧ _ ∧ _))
def upX (a : Int) (b : List UInt8) : Int := if OkUe a b then 0 else 110
def upN (a : Int) (b : List UInt8) : Nat := if OkUe a b then epS b else 0
def upD (a : Int) (b : List UInt8) : List UInt8 := if OkUe a b then daS b else []
theorem up_ok {a : Int} {b : List UInt8} (h : OkUe a b) : upX a b = 0 ∧ upN a b = epS b ∧ upD a b = daS b := ⟨if_pos h, if_pos h, if_pos h⟩
theorem up_not {a : Int} {b : List UInt8} (h : ¬ OkUe a b) : upX a b = 110 ∧ upN a b = 0 ∧ upD a b = [] := ⟨if_neg h, if_neg h, if_neg h⟩
/-- what is packed is unpacked -/
theorem ok_pk {a e : Int} {d : List UInt8} (h : OkSe a e d.length) : OkUe a (pkS a.toNat e.toNat d) ∧ epS (pkS a.toNat e.toNat d) = e.toNat ∧ daS (pkS a.toNat e.toNat d) = d := by
  have h1 : epS (pkS a.toNat e.toNat d) = e.toNat := epS_pk d (by have := h.2.1; omega)
  have h2 := daS_pk a.toNat e.toNat d
  refine ⟨⟨by rw [pk_length]; omega, ?_, by rw [h1, h2]⟩, h1, h2⟩
  rw [h1, h2, show ((e.toNat : Nat) : Int) = e by have := h.2.1; omega]
  exact h
/-- what is unpacked is packed as it was -/
theorem ok_back {a : Int} {b : List UInt8} (h : OkUe a b) : OkSe a (epS b : Int) (daS b).length ∧ pkS a.toNat ((epS b : Nat) : Int).toNat (daS b) = b := by
  refine ⟨h.2.1, ?_⟩
  rw [Int.toNat_natCast]
  exact h.2.2
theorem co_drop0 (p : List UInt8) (n i : Nat) : co (p.drop n) i = co p (n + i) := by unfold co; rw [List.getElem?_drop]
end Go.Proofs.YtclieefpnbdbjaaGreat.Gf

namespace Go.Proofs.YtclieefpnbdbjaaGreat.Gf
set_option linter.unusedVariables false
set_option linter.unusedSimpArgs false
open Go.RowKit
theorem smay_any {n : Int} {w : World} : Calls Tryz.prog 152 #[.int .i64 n] w fun e w' => e = .returned (.bool (decide (0 ≤ n ∧ n ≤ 2147483647))) ∧ w' = w := by
  by_cases h0 : 0 ≤ n
  · have h0' : n ≥ 0 := h0
    by_cases h1 : n ≤ 2147483647
    · have E : decide (0 ≤ n ∧ n ≤ 2147483647) = true := decide_eq_true ⟨h0, h1⟩
      rw [E]
      clear E
      go_enter Tryz.func152, Tryz.ntmps152
      go_wp2
      go_ret
      exact ⟨rfl, rfl⟩
    · have E : decide (0 ≤ n ∧ n ≤ 2147483647) = false := decide_eq_false (by omega)
      rw [E]
      clear E
      go_enter Tryz.func152, Tryz.ntmps152
      go_wp2
      go_ret
      exact ⟨rfl, rfl⟩
  · have h0' : ¬ n ≥ 0 := h0
    have E : decide (0 ≤ n ∧ n ≤ 2147483647) = false := decide_eq_false (by omega)
    rw [E]
    clear E
    go_enter Tryz.func152, Tryz.ntmps152
    go_wp2
    go_ret
    exact ⟨rfl, rfl⟩
theorem info1_u8s : (Tryz.prog.info? 5).map (·.size) = some 1 := by
  obtain ⟨i0, hi, hz0, hz1, hz2⟩ := info_parts info_u8
  rw [hi]
  simp [hz1]
set_option maxRecDepth 100000 in
set_option maxHeartbeats 4000000 in
theorem slay_any {w : World} {lb bb g L k n base : Nat} {f : Nat → UInt8} {u : Int} (hu : u = (n : Int)) (c1 : w.cell? ⟨lb, 0, none⟩ = some (.int .i64 (k : Int))) (c2 : w.cell? ⟨bb, 0, none⟩ = some (.slice (some ⟨g, 0, none⟩) L L)) (fz : w.frozen? ⟨lb, 0, none⟩ = false) (hR : RowF w base 5 g L L f) (hk : k + 4 ≤ L) (hL : L ≤ 5000) (l1 : lb < w.heap.size) (l2 : bb < w.heap.size) (n1 : lb ≠ g) (n2 : bb ≠ g) (n3 : lb ≠ bb) :
    Calls Tryz.prog 153 #[.int .u32 u, .pointer (some ⟨lb, 0, none⟩), .pointer (some ⟨bb, 0, none⟩)] w fun e w' => e = .returned (.tuple #[]) ∧ w'.cell? ⟨lb, 0, none⟩ = some (.int .i64 ((k + 4 : Nat) : Int)) ∧ w'.cell? ⟨bb, 0, none⟩ = some (.slice (some ⟨g, 0, none⟩) L L) ∧ w'.frozen? ⟨lb, 0, none⟩ = false ∧ RowF w' base 5 g L L (putAt f k 4 (co (fo n))) ∧ TurnL [lb, g] w w' := by
  subst hu
  obtain ⟨x0, hx0⟩ : ∃ x, Hid (x = UInt8.ofNat (n / 16777216)) := ⟨_, rfl⟩
  obtain ⟨x1, hx1⟩ : ∃ x, Hid (x = UInt8.ofNat (n / 65536)) := ⟨_, rfl⟩
  obtain ⟨x2, hx2⟩ : ∃ x, Hid (x = UInt8.ofNat (n / 256)) := ⟨_, rfl⟩
  obtain ⟨x3, hx3⟩ : ∃ x, Hid (x = UInt8.ofNat n) := ⟨_, rfl⟩
  have q0 : IntKind.u8.wrap ((n : Int) / 16777216) = ((x0.toNat : Nat) : Int) := by rw [hx0.out]; exact wrap_u8 (n / 16777216)
  have q1 : IntKind.u8.wrap ((n : Int) / 65536) = ((x1.toNat : Nat) : Int) := by rw [hx1.out]; exact wrap_u8 (n / 65536)
  have q2 : IntKind.u8.wrap ((n : Int) / 256) = ((x2.toNat : Nat) : Int) := by rw [hx2.out]; exact wrap_u8 (n / 256)
  have q3 : IntKind.u8.wrap (n : Int) = ((x3.toNat : Nat) : Int) := by rw [hx3.out]; exact wrap_u8 n
  have hF : Hid (fo n = [x0, x1, x2, x3]) := by show _ = _; rw [hx0.out, hx1.out, hx2.out, hx3.out]; rfl
  rw [hF.out]
  clear hF hx0 hx1 hx2 hx3
  have RL : Rd (w.drew.alloc (.cells #[.int .u8 ((x0.toNat : Nat) : Int), .int .u8 ((x1.toNat : Nat) : Int), .int .u8 ((x2.toNat : Nat) : Int), .int .u8 ((x3.toNat : Nat) : Int)] 5)) (.slice (some ⟨w.heap.size, 0, none⟩) 4 4) [x0, x1, x2, x3] := rd_lit (w := w.drew) [x0, x1, x2, x3] rfl rfl (by decide)
  have hfl : [x0, x1, x2, x3].length = 4 := rfl
  have RA : RowF (w.drew.alloc (.cells #[.int .u8 ((x0.toNat : Nat) : Int), .int .u8 ((x1.toNat : Nat) : Int), .int .u8 ((x2.toNat : Nat) : Int), .int .u8 ((x3.toNat : Nat) : Int)] 5)) base 5 g L L f := hR.later (((Below.refl _ _).drew).alloc (Nat.le_refl _) _)
  have c1a : ∀ o, (w.drew.alloc o).cell? ⟨lb, 0, none⟩ = some (.int .i64 (k : Int)) := fun o => (World.cell?_alloc_past _ _ _ l1).trans c1
  have c2a : ∀ o, (w.drew.alloc o).cell? ⟨bb, 0, none⟩ = some (.slice (some ⟨g, 0, none⟩) L L) := fun o => (World.cell?_alloc_past _ _ _ l2).trans c2
  have fza : ∀ o, (w.drew.alloc o).frozen? ⟨lb, 0, none⟩ = false := fun o => (((Below.refl w.heap.size w).drew.alloc (Nat.le_refl _) o).frozen (p := ⟨lb, 0, none⟩) l1).trans fz
  have hdl : 4 ≤ L - k := by omega
  obtain ⟨m, hm⟩ : ∃ m, Hid (m = k + 4) := ⟨_, rfl⟩
  rw [← hm.out]
  have g0 : (k : Int) + 4 = (m : Int) := by have := hm.out; omega
  have gw : IntKind.i64.wrap (m : Int) = (m : Int) := by rw [IntKind.wrap_i64]; have := hm.out; omega
  clear hm
  have g1 : (k : Int) ≤ (L : Int) := by omega
  have g2 : ¬ L = k := by omega
  have g3 : k < L := by omega
  have FIN : ∀ v3, Only g (w.drew.alloc (.cells #[.int .u8 ((x0.toNat : Nat) : Int), .int .u8 ((x1.toNat : Nat) : Int), .int .u8 ((x2.toNat : Nat) : Int), .int .u8 ((x3.toNat : Nat) : Int)] 5)) v3 → RowF v3 base 5 g L L (putAt f k 4 (co [x0, x1, x2, x3])) → Hid ((v3.setCell ⟨lb, 0, none⟩ (.int .i64 (m : Int))).cell? ⟨lb, 0, none⟩ = some (.int .i64 (m : Int)) ∧ (v3.setCell ⟨lb, 0, none⟩ (.int .i64 (m : Int))).cell? ⟨bb, 0, none⟩ = some (.slice (some ⟨g, 0, none⟩) L L) ∧ (v3.setCell ⟨lb, 0, none⟩ (.int .i64 (m : Int))).frozen? ⟨lb, 0, none⟩ = false ∧ RowF (v3.setCell ⟨lb, 0, none⟩ (.int .i64 (m : Int))) base 5 g L L (putAt f k 4 (co [x0, x1, x2, x3])) ∧ TurnL [lb, g] w (v3.setCell ⟨lb, 0, none⟩ (.int .i64 (m : Int)))) := by
    intro v3 O3 R3
    have c1v := (O3.cell (p := ⟨lb, 0, none⟩) n1).trans (c1a _)
    have c2v := (O3.cell (p := ⟨bb, 0, none⟩) n2).trans (c2a _)
    have fzv := (O3.frozen (p := ⟨lb, 0, none⟩) n1).trans (fza _)
    have OO := (Only.refl lb v3).setCell 0 (.int .i64 (m : Int))
    have T1 : TurnL [lb, g] w (w.drew.alloc (.cells #[.int .u8 ((x0.toNat : Nat) : Int), .int .u8 ((x1.toNat : Nat) : Int), .int .u8 ((x2.toNat : Nat) : Int), .int .u8 ((x3.toNat : Nat) : Int)] 5)) := Below.turnL (((Below.refl _ _).drew).alloc (Nat.le_refl _) _) _
    refine ⟨by simp [go_sem, c1v], (OO.cell (p := ⟨bb, 0, none⟩) n3.symm).trans c2v, by simp [go_sem, fzv], R3.only n1.symm OO, (T1.trans (O3.turnL (by simp))).trans (OO.turnL (by simp))⟩
  clear hR
  go_enter Tryz.func153, Tryz.ntmps153
  go_wp2
  -- REGION
  refine wp_region_held_drew (S := (fun wx => wx.cell? ⟨bb, 0, none⟩ = some (.slice (some ⟨g, 0, none⟩) L L))) (by kernel_rfl) ?_ (fun hHeld => ?_)
  · exact c2
  refine tkH 1 ?_
  refine tkH 4 ?_
  refine tkH 5 ?_
  refine tkH 6 ?_
  refine tkH 7 ?_
  refine tkH 8 ?_
  refine tkH 9 ?_
  refine tkH 10 ?_
  refine tkH 11 ?_
  refine tkH 12 ?_
  refine tkH 13 ?_
  refine tkH 14 ?_
  refine rtH 0 2 15 (fun K hK => ?_) (fun K hK => ?_) fun K hK => ?_
  · go_simp
    refine koH hK (by assumption) fun hHeld => ?_
    clear hK K
    refine rmH 2 15 (fun K hK => ?_) fun K hK => ?_
    · go_simp
      refine koH hK (by assumption) fun hHeld => ?_
      clear hK K
      refine tkH 3 ?_
      refine rnH 15 fun K hK => ?_
      go_simp
      refine koH hK (c2a _) fun hHeld => ?_
      clear hK K
      refine rnH 16 fun K hK => ?_
      refine step_copy_rd rfl (.tmp 7) (.tmp 19) 42 42 rfl 5 Tryz.underlying42 info1_u8s rfl rfl RL hfl hdl RA (by omega) ?_
      intro v3 O3 R3
      have c1v := (O3.cell (p := ⟨lb, 0, none⟩) n1).trans (c1a (.cells #[.int .u8 ((x0.toNat : Nat) : Int), .int .u8 ((x1.toNat : Nat) : Int), .int .u8 ((x2.toNat : Nat) : Int), .int .u8 ((x3.toNat : Nat) : Int)] 5))
      have c2v := (O3.cell (p := ⟨bb, 0, none⟩) n2).trans (c2a (.cells #[.int .u8 ((x0.toNat : Nat) : Int), .int .u8 ((x1.toNat : Nat) : Int), .int .u8 ((x2.toNat : Nat) : Int), .int .u8 ((x3.toNat : Nat) : Int)] 5))
      have fzv := (O3.frozen (p := ⟨lb, 0, none⟩) n1).trans (fza (.cells #[.int .u8 ((x0.toNat : Nat) : Int), .int .u8 ((x1.toNat : Nat) : Int), .int .u8 ((x2.toNat : Nat) : Int), .int .u8 ((x3.toNat : Nat) : Int)] 5))
      have FW := FIN v3 O3 R3
      clear FIN RL RA
      refine koH hK c2v fun hHeld => ?_
      clear hK K
      refine tkH 17 ?_
      refine rnH 18 fun K hK => ?_
      go_simp
      refine koH hK ((((Only.refl lb v3).setCell 0 _).cell (p := ⟨bb, 0, none⟩) n3.symm).trans c2v) fun hHeld => ?_
      clear hK K
      refine wpAnyH_done (by kernel_rfl) ?_ _
      try simp only [List.getElem_toArray, List.getElem_cons_succ, List.getElem_cons_zero, Act.put, List.setIfInBounds_toArray, List.set_cons_zero, List.set_cons_succ]
      clear c1v c2v fzv hHeld
      go_wp2
      go_end0
      exact ⟨rfl, FW.out⟩
    · go_simp
      refine koH hK (c2a _) fun hHeld => ?_
      clear hK K
      refine rnH 2 fun K hK => ?_
      go_simp
      refine koH hK (by assumption) fun hHeld => ?_
      clear hK K
      refine tkH 3 ?_
      refine rnH 16 fun K hK => ?_
      refine step_copy_rd rfl (.tmp 7) (.tmp 19) 42 42 rfl 5 Tryz.underlying42 info1_u8s rfl rfl RL hfl hdl RA (by omega) ?_
      intro v3 O3 R3
      have c1v := (O3.cell (p := ⟨lb, 0, none⟩) n1).trans (c1a (.cells #[.int .u8 ((x0.toNat : Nat) : Int), .int .u8 ((x1.toNat : Nat) : Int), .int .u8 ((x2.toNat : Nat) : Int), .int .u8 ((x3.toNat : Nat) : Int)] 5))
      have c2v := (O3.cell (p := ⟨bb, 0, none⟩) n2).trans (c2a (.cells #[.int .u8 ((x0.toNat : Nat) : Int), .int .u8 ((x1.toNat : Nat) : Int), .int .u8 ((x2.toNat : Nat) : Int), .int .u8 ((x3.toNat : Nat) : Int)] 5))
      have fzv := (O3.frozen (p := ⟨lb, 0, none⟩) n1).trans (fza (.cells #[.int .u8 ((x0.toNat : Nat) : Int), .int .u8 ((x1.toNat : Nat) : Int), .int .u8 ((x2.toNat : Nat) : Int), .int .u8 ((x3.toNat : Nat) : Int)] 5))
      have FW := FIN v3 O3 R3
      clear FIN RL RA
      refine koH hK c2v fun hHeld => ?_
      clear hK K
      refine tkH 17 ?_
      refine rnH 18 fun K hK => ?_
      go_simp
      refine koH hK ((((Only.refl lb v3).setCell 0 _).cell (p := ⟨bb, 0, none⟩) n3.symm).trans c2v) fun hHeld => ?_
      clear hK K
      refine wpAnyH_done (by kernel_rfl) ?_ _
      try simp only [List.getElem_toArray, List.getElem_cons_succ, List.getElem_cons_zero, Act.put, List.setIfInBounds_toArray, List.set_cons_zero, List.set_cons_succ]
      clear c1v c2v fzv hHeld
      go_wp2
      go_end0
      exact ⟨rfl, FW.out⟩
  · go_simp
    refine koH hK (by assumption) fun hHeld => ?_
    clear hK K
    refine tkH 3 ?_
    refine rmH 0 15 (fun K hK => ?_) fun K hK => ?_
    · go_simp
      refine koH hK (by assumption) fun hHeld => ?_
      clear hK K
      refine rnH 15 fun K hK => ?_
      go_simp
      refine koH hK (c2a _) fun hHeld => ?_
      clear hK K
      refine rnH 16 fun K hK => ?_
      refine step_copy_rd rfl (.tmp 7) (.tmp 19) 42 42 rfl 5 Tryz.underlying42 info1_u8s rfl rfl RL hfl hdl RA (by omega) ?_
      intro v3 O3 R3
      have c1v := (O3.cell (p := ⟨lb, 0, none⟩) n1).trans (c1a (.cells #[.int .u8 ((x0.toNat : Nat) : Int), .int .u8 ((x1.toNat : Nat) : Int), .int .u8 ((x2.toNat : Nat) : Int), .int .u8 ((x3.toNat : Nat) : Int)] 5))
      have c2v := (O3.cell (p := ⟨bb, 0, none⟩) n2).trans (c2a (.cells #[.int .u8 ((x0.toNat : Nat) : Int), .int .u8 ((x1.toNat : Nat) : Int), .int .u8 ((x2.toNat : Nat) : Int), .int .u8 ((x3.toNat : Nat) : Int)] 5))
      have fzv := (O3.frozen (p := ⟨lb, 0, none⟩) n1).trans (fza (.cells #[.int .u8 ((x0.toNat : Nat) : Int), .int .u8 ((x1.toNat : Nat) : Int), .int .u8 ((x2.toNat : Nat) : Int), .int .u8 ((x3.toNat : Nat) : Int)] 5))
      have FW := FIN v3 O3 R3
      clear FIN RL RA
      refine koH hK c2v fun hHeld => ?_
      clear hK K
      refine tkH 17 ?_
      refine rnH 18 fun K hK => ?_
      go_simp
      refine koH hK ((((Only.refl lb v3).setCell 0 _).cell (p := ⟨bb, 0, none⟩) n3.symm).trans c2v) fun hHeld => ?_
      clear hK K
      refine wpAnyH_done (by kernel_rfl) ?_ _
      try simp only [List.getElem_toArray, List.getElem_cons_succ, List.getElem_cons_zero, Act.put, List.setIfInBounds_toArray, List.set_cons_zero, List.set_cons_succ]
      clear c1v c2v fzv hHeld
      go_wp2
      go_end0
      exact ⟨rfl, FW.out⟩
    · go_simp
      refine koH hK (c2a _) fun hHeld => ?_
      clear hK K
      refine rmH 0 16 (fun K hK => ?_) fun K hK => ?_
      · go_simp
        refine koH hK (by assumption) fun hHeld => ?_
        clear hK K
        refine rnH 16 fun K hK => ?_
        refine step_copy_rd rfl (.tmp 7) (.tmp 19) 42 42 rfl 5 Tryz.underlying42 info1_u8s rfl rfl RL hfl hdl RA (by omega) ?_
        intro v3 O3 R3
        have c1v := (O3.cell (p := ⟨lb, 0, none⟩) n1).trans (c1a (.cells #[.int .u8 ((x0.toNat : Nat) : Int), .int .u8 ((x1.toNat : Nat) : Int), .int .u8 ((x2.toNat : Nat) : Int), .int .u8 ((x3.toNat : Nat) : Int)] 5))
        have c2v := (O3.cell (p := ⟨bb, 0, none⟩) n2).trans (c2a (.cells #[.int .u8 ((x0.toNat : Nat) : Int), .int .u8 ((x1.toNat : Nat) : Int), .int .u8 ((x2.toNat : Nat) : Int), .int .u8 ((x3.toNat : Nat) : Int)] 5))
        have fzv := (O3.frozen (p := ⟨lb, 0, none⟩) n1).trans (fza (.cells #[.int .u8 ((x0.toNat : Nat) : Int), .int .u8 ((x1.toNat : Nat) : Int), .int .u8 ((x2.toNat : Nat) : Int), .int .u8 ((x3.toNat : Nat) : Int)] 5))
        have FW := FIN v3 O3 R3
        clear FIN RL RA
        refine koH hK c2v fun hHeld => ?_
        clear hK K
        refine tkH 17 ?_
        refine rnH 18 fun K hK => ?_
        go_simp
        refine koH hK ((((Only.refl lb v3).setCell 0 _).cell (p := ⟨bb, 0, none⟩) n3.symm).trans c2v) fun hHeld => ?_
        clear hK K
        refine wpAnyH_done (by kernel_rfl) ?_ _
        try simp only [List.getElem_toArray, List.getElem_cons_succ, List.getElem_cons_zero, Act.put, List.setIfInBounds_toArray, List.set_cons_zero, List.set_cons_succ]
        clear c1v c2v fzv hHeld
        go_wp2
        go_end0
        exact ⟨rfl, FW.out⟩
      · refine step_copy_rd rfl (.tmp 7) (.tmp 19) 42 42 rfl 5 Tryz.underlying42 info1_u8s rfl rfl RL hfl hdl RA (by omega) ?_
        intro v3 O3 R3
        have c1v := (O3.cell (p := ⟨lb, 0, none⟩) n1).trans (c1a (.cells #[.int .u8 ((x0.toNat : Nat) : Int), .int .u8 ((x1.toNat : Nat) : Int), .int .u8 ((x2.toNat : Nat) : Int), .int .u8 ((x3.toNat : Nat) : Int)] 5))
        have c2v := (O3.cell (p := ⟨bb, 0, none⟩) n2).trans (c2a (.cells #[.int .u8 ((x0.toNat : Nat) : Int), .int .u8 ((x1.toNat : Nat) : Int), .int .u8 ((x2.toNat : Nat) : Int), .int .u8 ((x3.toNat : Nat) : Int)] 5))
        have fzv := (O3.frozen (p := ⟨lb, 0, none⟩) n1).trans (fza (.cells #[.int .u8 ((x0.toNat : Nat) : Int), .int .u8 ((x1.toNat : Nat) : Int), .int .u8 ((x2.toNat : Nat) : Int), .int .u8 ((x3.toNat : Nat) : Int)] 5))
        have FW := FIN v3 O3 R3
        clear FIN RL RA
        refine koH hK c2v fun hHeld => ?_
        clear hK K
        refine rnH 0 fun K hK => ?_
        go_simp
        refine koH hK (by assumption) fun hHeld => ?_
        clear hK K
        refine tkH 17 ?_
        refine rnH 18 fun K hK => ?_
        go_simp
        refine koH hK ((((Only.refl lb v3).setCell 0 _).cell (p := ⟨bb, 0, none⟩) n3.symm).trans c2v) fun hHeld => ?_
        clear hK K
        refine wpAnyH_done (by kernel_rfl) ?_ _
        try simp only [List.getElem_toArray, List.getElem_cons_succ, List.getElem_cons_zero, Act.put, List.setIfInBounds_toArray, List.set_cons_zero, List.set_cons_succ]
        clear c1v c2v fzv hHeld
        go_wp2
        go_end0
        exact ⟨rfl, FW.out⟩
  · go_simp
    refine koH hK (c2a _) fun hHeld => ?_
    clear hK K
    refine rmH 0 2 (fun K hK => ?_) fun K hK => ?_
    · go_simp
      refine koH hK (by assumption) fun hHeld => ?_
      clear hK K
      refine rnH 2 fun K hK => ?_
      go_simp
      refine koH hK (by assumption) fun hHeld => ?_
      clear hK K
      refine tkH 3 ?_
      refine rnH 16 fun K hK => ?_
      refine step_copy_rd rfl (.tmp 7) (.tmp 19) 42 42 rfl 5 Tryz.underlying42 info1_u8s rfl rfl RL hfl hdl RA (by omega) ?_
      intro v3 O3 R3
      have c1v := (O3.cell (p := ⟨lb, 0, none⟩) n1).trans (c1a (.cells #[.int .u8 ((x0.toNat : Nat) : Int), .int .u8 ((x1.toNat : Nat) : Int), .int .u8 ((x2.toNat : Nat) : Int), .int .u8 ((x3.toNat : Nat) : Int)] 5))
      have c2v := (O3.cell (p := ⟨bb, 0, none⟩) n2).trans (c2a (.cells #[.int .u8 ((x0.toNat : Nat) : Int), .int .u8 ((x1.toNat : Nat) : Int), .int .u8 ((x2.toNat : Nat) : Int), .int .u8 ((x3.toNat : Nat) : Int)] 5))
      have fzv := (O3.frozen (p := ⟨lb, 0, none⟩) n1).trans (fza (.cells #[.int .u8 ((x0.toNat : Nat) : Int), .int .u8 ((x1.toNat : Nat) : Int), .int .u8 ((x2.toNat : Nat) : Int), .int .u8 ((x3.toNat : Nat) : Int)] 5))
      have FW := FIN v3 O3 R3
      clear FIN RL RA
      refine koH hK c2v fun hHeld => ?_
      clear hK K
      refine tkH 17 ?_
      refine rnH 18 fun K hK => ?_
      go_simp
      refine koH hK ((((Only.refl lb v3).setCell 0 _).cell (p := ⟨bb, 0, none⟩) n3.symm).trans c2v) fun hHeld => ?_
      clear hK K
      refine wpAnyH_done (by kernel_rfl) ?_ _
      try simp only [List.getElem_toArray, List.getElem_cons_succ, List.getElem_cons_zero, Act.put, List.setIfInBounds_toArray, List.set_cons_zero, List.set_cons_succ]
      clear c1v c2v fzv hHeld
      go_wp2
      go_end0
      exact ⟨rfl, FW.out⟩
    · go_simp
      refine koH hK (by assumption) fun hHeld => ?_
      clear hK K
      refine tkH 3 ?_
      refine rmH 0 16 (fun K hK => ?_) fun K hK => ?_
      · go_simp
        refine koH hK (by assumption) fun hHeld => ?_
        clear hK K
        refine rnH 16 fun K hK => ?_
        refine step_copy_rd rfl (.tmp 7) (.tmp 19) 42 42 rfl 5 Tryz.underlying42 info1_u8s rfl rfl RL hfl hdl RA (by omega) ?_
        intro v3 O3 R3
        have c1v := (O3.cell (p := ⟨lb, 0, none⟩) n1).trans (c1a (.cells #[.int .u8 ((x0.toNat : Nat) : Int), .int .u8 ((x1.toNat : Nat) : Int), .int .u8 ((x2.toNat : Nat) : Int), .int .u8 ((x3.toNat : Nat) : Int)] 5))
        have c2v := (O3.cell (p := ⟨bb, 0, none⟩) n2).trans (c2a (.cells #[.int .u8 ((x0.toNat : Nat) : Int), .int .u8 ((x1.toNat : Nat) : Int), .int .u8 ((x2.toNat : Nat) : Int), .int .u8 ((x3.toNat : Nat) : Int)] 5))
        have fzv := (O3.frozen (p := ⟨lb, 0, none⟩) n1).trans (fza (.cells #[.int .u8 ((x0.toNat : Nat) : Int), .int .u8 ((x1.toNat : Nat) : Int), .int .u8 ((x2.toNat : Nat) : Int), .int .u8 ((x3.toNat : Nat) : Int)] 5))
        have FW := FIN v3 O3 R3
        clear FIN RL RA
        refine koH hK c2v fun hHeld => ?_
        clear hK K
        refine tkH 17 ?_
        refine rnH 18 fun K hK => ?_
        go_simp
        refine koH hK ((((Only.refl lb v3).setCell 0 _).cell (p := ⟨bb, 0, none⟩) n3.symm).trans c2v) fun hHeld => ?_
        clear hK K
        refine wpAnyH_done (by kernel_rfl) ?_ _
        try simp only [List.getElem_toArray, List.getElem_cons_succ, List.getElem_cons_zero, Act.put, List.setIfInBounds_toArray, List.set_cons_zero, List.set_cons_succ]
        clear c1v c2v fzv hHeld
        go_wp2
        go_end0
        exact ⟨rfl, FW.out⟩
      · refine step_copy_rd rfl (.tmp 7) (.tmp 19) 42 42 rfl 5 Tryz.underlying42 info1_u8s rfl rfl RL hfl hdl RA (by omega) ?_
        intro v3 O3 R3
        have c1v := (O3.cell (p := ⟨lb, 0, none⟩) n1).trans (c1a (.cells #[.int .u8 ((x0.toNat : Nat) : Int), .int .u8 ((x1.toNat : Nat) : Int), .int .u8 ((x2.toNat : Nat) : Int), .int .u8 ((x3.toNat : Nat) : Int)] 5))
        have c2v := (O3.cell (p := ⟨bb, 0, none⟩) n2).trans (c2a (.cells #[.int .u8 ((x0.toNat : Nat) : Int), .int .u8 ((x1.toNat : Nat) : Int), .int .u8 ((x2.toNat : Nat) : Int), .int .u8 ((x3.toNat : Nat) : Int)] 5))
        have fzv := (O3.frozen (p := ⟨lb, 0, none⟩) n1).trans (fza (.cells #[.int .u8 ((x0.toNat : Nat) : Int), .int .u8 ((x1.toNat : Nat) : Int), .int .u8 ((x2.toNat : Nat) : Int), .int .u8 ((x3.toNat : Nat) : Int)] 5))
        have FW := FIN v3 O3 R3
        clear FIN RL RA
        refine koH hK c2v fun hHeld => ?_
        clear hK K
        refine rnH 0 fun K hK => ?_
        go_simp
        refine koH hK (by assumption) fun hHeld => ?_
        clear hK K
        refine tkH 17 ?_
        refine rnH 18 fun K hK => ?_
        go_simp
        refine koH hK ((((Only.refl lb v3).setCell 0 _).cell (p := ⟨bb, 0, none⟩) n3.symm).trans c2v) fun hHeld => ?_
        clear hK K
        refine wpAnyH_done (by kernel_rfl) ?_ _
        try simp only [List.getElem_toArray, List.getElem_cons_succ, List.getElem_cons_zero, Act.put, List.setIfInBounds_toArray, List.set_cons_zero, List.set_cons_succ]
        clear c1v c2v fzv hHeld
        go_wp2
        go_end0
        exact ⟨rfl, FW.out⟩
  -- REGION END
end Go.Proofs.YtclieefpnbdbjaaGreat.Gf
