/- TEXTS JOINED: KeRefB, BkInf, KeRefC, KeRefD. -/
import Derived.Test.YtlbachgbeefhcaaTome10
import Derived.Test.YtlbachgbeefhcaaTome3
/-
  THE DOCUMENT's ANSWER FOR LAYER 9 (package aumbryref09) BY CONTRACT: 'solved'.
-/

namespace Go.Proofs.Ytlbachgbeefhcaa.Gf
set_option linter.unusedVariables false
set_option linter.unusedSimpArgs false
open Go.RowKit

theorem sw9_self (l k : Nat) : sw l k k = l := by
  unfold sw
  by_cases e : k = l
  · rw [if_pos e]; exact e
  · rw [if_neg e, if_pos rfl]
theorem co_upto_lt9 {f : Nat → UInt8} {n i : Nat} (h : i < n) : co (upto f n) i = f i := co_map_range f h

set_option maxRecDepth 100000 in
set_option maxHeartbeats 1000000 in
/-- no equations -/
theorem rsolved_none (w : World) (t : Nat) (ht : t ≤ 1000) {x : Int} (hx : x = (t : Int)) : Calls Try.prog 44 #[.slice none 0 0, .int .i64 x] w fun e w' => w' = w ∧ e = .returned (.tuple #[.slice none 0 0, .bool (decide (t = 0))]) := by
  subst hx
  by_cases h0 : t = 0
  · subst h0
    go_enter Try.func44, Try.ntmps44
    go_wp2
    go_loop [6] (fun v => v = .int .i64 0) (fun _ => 0)
    case atStart => rfl
    case round =>
      subst hrel
      go_wp2
      go_loop [10] (fun v => v = .int .i64 0) (fun _ => 0)
      case atStart => rfl
      case round =>
        subst hrel
        go_wp2
        go_loop [11, 12] (fun o v => o = .slice none 0 0 ∧ v = .int .i64 0) (fun _ _ => 0)
        case atStart => exact ⟨rfl, rfl⟩
        case round =>
          obtain ⟨rfl, rfl⟩ := hrel
          go_wp2
          exact bodyPost_ret (v := .tuple #[.slice none 0 0, .bool true]) (by simp [results, Try.results44, go_sem]) rfl ⟨rfl, rfl⟩
  · have h1 : (0 : Int) < (t : Int) := by omega
    have e : decide (t = 0) = false := decide_eq_false h0
    rw [e]
    clear h0 e
    go_enter Try.func44, Try.ntmps44
    go_wp2
    go_loop [6] (fun v => v = .int .i64 0) (fun _ => 0)
    case atStart => rfl
    case round =>
      subst hrel
      go_wp2
      go_loop [7] (fun v => v = .int .i64 0) (fun _ => 0)
      case atStart => rfl
      case round =>
        subst hrel
        go_wp2
        exact bodyPost_ret (v := .tuple #[.slice none 0 0, .bool false]) (by simp [results, Try.results44, go_sem]) rfl ⟨rfl, rfl⟩

/-- what 'solved' leaves -/
def Solved9 (w : World) (G n t u : Nat) (W : Mx) (e : Ending) (w' : World) : Prop :=
  Turn G w w' ∧ ((∃ a c y, e = .returned (.tuple #[.slice a t c, .bool true]) ∧ UniqM n t W y ∧ OwnP w' w.heap.size u (.slice a t c) (upto y t)) ∨ (e = .returned (.tuple #[.slice none 0 0, .bool false]) ∧ ¬ ∃ y, UniqM n t W y))
theorem Solved9.no {w w' : World} {G n t u : Nat} {W : Mx} (h : Turn G w w') (h2 : ¬ ∃ y, UniqM n t W y) : Solved9 w G n t u W (.returned (.tuple #[.slice none 0 0, .bool false])) w' := ⟨h, Or.inr ⟨rfl, h2⟩⟩
theorem Solved9.yes {w w' : World} {G n t u c cv : Nat} {av : Option Addr} {W : Mx} {y : Nat → UInt8} (h : Turn G w w') (hc : c = t) (h2 : UniqM n t W y) (h3 : OwnP w' w.heap.size u (.slice av c cv) (upto y t)) : Solved9 w G n t u W (.returned (.tuple #[.slice av c cv, .bool true])) w' := by
  subst hc
  exact ⟨h, Or.inl ⟨av, cv, y, rfl, h2, h3⟩⟩

set_option maxRecDepth 100000 in
set_option maxHeartbeats 8000000 in
theorem rsolved_some {w : World} {base G n C t : Nat} {W : Mx} (HG0 : Grid w base 23 G n C (t + 1) W) (hn : n ≤ 900) (ht : t ≤ 900) {x : Int} (hx : x = (t : Int)) :
    Calls Try.prog 44 #[.slice (some ⟨G, 0, none⟩) n C, .int .i64 x] w (Solved9 w G n t 5 W) := by
  subst hx
  obtain ⟨i0, hi, hz0, hz1, hz2⟩ := info_parts info_u8
  obtain ⟨M, hM⟩ : ∃ M, Hid (M = t + 1) := ⟨_, rfl⟩
  have hM0 : t < M := by have := hM.out; omega
  have hM5 : M ≤ 901 := by have := hM.out; omega
  rw [← hM.out] at HG0
  have HGl := HG0.lt
  go_enter Try.func44, Try.ntmps44
  go_wp2
  go_loopw [6] (fun i wr => ∃ (k : Nat) (V : Mx), k ≤ t ∧ i = .int .i64 k ∧ Grid wr base 23 G n C M V ∧ Hid (GS n t W V k) ∧ Turn G w wr) (fun i _ => t - (intOf i).toNat)
  case atStart => exact ⟨0, W, by omega, rfl, HG0, GS.start n t W, Turn.refl _ _⟩
  case round =>
    obtain ⟨k, V, hk, rfl, HG, hgs, hT⟩ := hrel
    clear HG0
    obtain ⟨wo, hwo⟩ : ∃ wo, wo = wr := ⟨_, rfl⟩
    subst hwo
    by_cases hlt : k < t
    · have hlt' : (k : Int) < (t : Int) := by omega
      have hkM : k < M := by omega
      have hkM' : (k : Int) < (M : Int) := by omega
      go_wp2
      go_loop [7] (fun i => ∃ l : Nat, k ≤ l ∧ (l ≤ n ∨ l = k) ∧ i = .int .i64 l ∧ Hid (∀ i, k ≤ i → i < l → V i k = 0)) (fun i => n - (intOf i).toNat)
      case atStart => exact ⟨k, Nat.le_refl _, Or.inr rfl, rfl, (fun i h1 h2 => by omega : ∀ i, k ≤ i → i < k → V i k = 0)⟩
      case round =>
        obtain ⟨l, hkl, hl, rfl, hz⟩ := hrel
        by_cases hl2 : l < n
        · have hl2' : (l : Int) < (n : Int) := by omega
          have hl3 : ¬ (l : Int) ≥ (n : Int) := by omega
          have d1 : decide ((l : Int) < (n : Int)) = true := decide_eq_true hl2'
          obtain ⟨bl, ol, cl, g1, g2, g3, g4, g5⟩ := HG.at hl2 (by omega)
          have g6 := g5 k hkM
          by_cases hz0' : V l k = 0
          · have d0 : (((V l k).toNat : Int) == 0) = true := by rw [hz0']; rfl
            have HZ : Hid (∀ i, k ≤ i → i < l + 1 → V i k = 0) := fun i h1 h2 => by
              by_cases e : i = l
              · subst e; exact hz0'
              · exact hz.out i h1 (by omega)
            clear hz hz0' g5 g3
            go_wp2
            go_round
            case rel => exact ⟨l + 1, by omega, by omega, by go_num, HZ⟩
            case measure => simp [intOf]; omega
          · have d0 : (((V l k).toNat : Int) == 0) = false := by rw [eq_u8_zero]; exact decide_eq_false hz0'
            have hkn : k < n := by omega
            have hkn' : (k : Int) < (n : Int) := by omega
            obtain ⟨bk, ok, ck, q1, q2, q3, q4, _⟩ := HG.at hkn (by omega)
            have O1 : Only G wo (wo.setCell ⟨G, l, none⟩ (.slice (some ⟨bk, ok, none⟩) M ck)) := (Only.refl _ _).setCell _ _
            have G1 := HG.set (W' := fun i j => if i = l then V k j else V i j) hl2 (by rw [show (fun j => if l = l then V k j else V l j) = V k from funext fun j => if_pos rfl]; exact q3) (apart_block q4) (fun i j _ hi _ => (if_neg hi).symm)
            have G2 := G1.set (W' := fun i j => V (sw l k i) j) hkn (x := .slice (some ⟨bl, ol, none⟩) M cl) (by rw [show (fun j => V (sw l k k) j) = V l from by rw [sw9_self]]; exact g3.only (apart_block g4) O1) (apart_block g4) (fun i j _ hi _ => by
              show (if i = l then V k j else V i j) = V (sw l k i) j
              unfold sw
              by_cases e : i = l
              · rw [if_pos e, if_pos e]
              · rw [if_neg e, if_neg e, if_neg hi])
            obtain ⟨xx, cxx⟩ := cell?_setCell_some (w := wo) (p := ⟨G, l, none⟩) (x := .slice (some ⟨bk, ok, none⟩) M ck) (q := ⟨G, k, none⟩) (v := .slice (some ⟨bk, ok, none⟩) M ck) q1
            have H2 : Hid (Grid ((wo.setCell ⟨G, l, none⟩ (.slice (some ⟨bk, ok, none⟩) M ck)).setCell ⟨G, k, none⟩ (.slice (some ⟨bl, ol, none⟩) M cl)) base 23 G n C M (fun i j => V (sw l k i) j)) := G2
            have HB2 : Hid (Turn G w ((wo.setCell ⟨G, l, none⟩ (.slice (some ⟨bk, ok, none⟩) M ck)).setCell ⟨G, k, none⟩ (.slice (some ⟨bl, ol, none⟩) M cl))) := hT.trans (((Only.refl G wo).setCell l _).setCell k _).turn
            have HJ : Hid (GT n t W (fun i j => V (sw l k i) j) k 0) := (⟨hgs.out.swap hkl hl2, hkn, by rw [sw9_self]; exact hz0', fun i hi => by omega⟩ : GT n t W (fun i j => V (sw l k i) j) k 0)
            clear G1 G2 O1 hgs hz hz0' g5 g3 q3 HG hT
            go_wp2
            obtain ⟨F, hF⟩ : ∃ F : Mx, Hid (F = fun i j => V (sw l k i) j) := ⟨_, rfl⟩
            have H3 := H2.out
            have HB3 := HB2.out
            rw [← hF.out] at H3 HJ
            clear H2 HB2 g1 g2 g4 g6 q1 q2 q4 cxx
            generalize (wo.setCell ⟨G, l, none⟩ (.slice (some ⟨bk, ok, none⟩) M ck)).setCell ⟨G, k, none⟩ (.slice (some ⟨bl, ol, none⟩) M cl) = w5 at *
            go_loopw [9] (fun i w6 => ∃ (j : Nat) (F' : Mx), j ≤ n ∧ i = .int .i64 j ∧ Grid w6 base 23 G n C M F' ∧ Hid (GT n t W F' k j) ∧ Turn G w w6) (fun i _ => n - (intOf i).toNat)
            case atStart => exact ⟨0, F, by omega, rfl, H3, HJ, HB3⟩
            case round =>
              clear H3 HB3 HJ hF
              obtain ⟨j, F', hj, rfl, H4, HJ, HB4⟩ := hrel
              by_cases hj2 : j < n
              · have hj2' : (j : Int) < (n : Int) := by omega
                by_cases hjk : j = k
                · subst hjk
                  have hne : ((j : Int) != (j : Int)) = false := by simp
                  have HJ2 : Hid (GT n t W F' j (j + 1)) := HJ.out.skip
                  clear HJ
                  go_wp2
                  go_roundw
                  case rel => exact ⟨j + 1, F', by omega, by go_num, H4, HJ2, HB4⟩
                  case measure => simp [intOf]; omega
                · have hne : ((j : Int) != (k : Int)) = true := by simp; omega
                  obtain ⟨bj, oj, cj, r1, r2, r3, r4, _⟩ := H4.at hj2 (by omega)
                  obtain ⟨bp, op, cp, p1, p2, p3, p4, _⟩ := H4.at hkn (by omega)
                  have H4' : Hid (Grid wr base 23 G n C M F') := H4
                  have hGl := H4.lt
                  have HJ2 : Hid (GT n t W (fun i s => if i = j then clr9 (F' j) (F' k) k s else F' i s) k (j + 1)) := HJ.out.take hlt hj2 hjk
                  clear H4 HJ
                  have hcl : ∀ w8, Below wr.heap.size wr w8 → Calls Try.prog 47 #[.slice (some ⟨bj, oj, none⟩) M cj, .slice (some ⟨bp, op, none⟩) M cp, .int .i64 (k : Int)] w8 fun e w' => ∃ a c, e = .returned (.slice a M c) ∧ Rd w' (.slice a M c) (upto (clr9 (F' j) (F' k) k) M) ∧ Apart G (.slice a M c) ∧ w'.cell? ⟨G, j, none⟩ = some (.slice (some ⟨bj, oj, none⟩) M cj) ∧ w'.frozen? ⟨G, j, none⟩ = false ∧ Below wr.heap.size wr w' := by
                    intro w8 hb8
                    refine (rtaken_any rfl (r3.below hb8) (p3.below hb8) (by rw [upto_length, upto_length]) (by rw [upto_length]; omega) (by rw [upto_length]; exact hkM)).mono ?_
                    rintro e w' ⟨v, rfl, hv, hb⟩
                    rw [upto_length] at hv
                    obtain ⟨a, c, ev⟩ := owns_form hv
                    rw [upto_length] at ev
                    subst ev
                    have hb' := Below.next hb8 hb
                    have e1 : upto (clr9 (co (upto (F' j) M)) (co (upto (F' k) M)) k) M = upto (clr9 (F' j) (F' k) k) M := upto_congr fun s hs => by
                      unfold clr9
                      rw [co_upto_lt9 hs, co_upto_lt9 hs, co_upto_lt9 hkM, co_upto_lt9 hkM]
                    refine ⟨a, c, rfl, by rw [← e1]; exact Rd.owned hv, fun y m' c' ey => ?_, (hb'.cell (p := ⟨G, j, none⟩) hGl.2).trans r1, (hb'.frozen (p := ⟨G, j, none⟩) hGl.2).trans r2, hb'⟩
                    right
                    intro eG
                    have := (OwnP.lt hv (k := G) (by rw [ey]; show some y.block = some G; rw [eG])).1
                    have := hb8.size
                    omega
                  clear r3 p3
                  go_wp2
                  go_region_with ((go_at_call 47; refine (hcl _ (by first | assumption | exact (Below.refl _ _).drew)).mono ?_; rintro e v5 ⟨an, cn, rfl, hrn, han, cn1, fn1, bn⟩))
                  all_goals
                    have HN : Hid (Grid (v5.setCell ⟨G, j, none⟩ (.slice an M cn)) base 23 G n C M (fun i s => if i = j then clr9 (F' j) (F' k) k s else F' i s)) := (H4'.out.later bn).set hj2 (by rw [show (fun s => if j = j then clr9 (F' j) (F' k) k s else F' j s) = clr9 (F' j) (F' k) k from funext fun s => if_pos rfl]; exact hrn) han (fun i s _ hi _ => (if_neg hi).symm)
                    have HBN : Hid (Turn G w (v5.setCell ⟨G, j, none⟩ (.slice an M cn))) := (HB4.trans (Below.turn bn G)).trans ((Only.refl G v5).setCell j _).turn
                    clear hcl hrn han cn1 fn1 bn H4' HB4
                    go_wp2
                    go_roundw
                    case rel => exact ⟨j + 1, _, by omega, by go_num, HN.out, HJ2, HBN.out⟩
                    case measure => simp [intOf]; omega
              · have hge : ¬ (j : Int) < (n : Int) := by omega
                have HJ2 : Hid (GS n t W F' (k + 1)) := HJ.out.done (by omega)
                clear HJ
                go_wp2
                go_roundw
                case rel => exact ⟨k + 1, F', by omega, by go_num, H4, HJ2, HB4⟩
                case measure => simp [intOf]; omega
        · have hge : ¬ (l : Int) < (n : Int) := by omega
          have hge2 : (l : Int) ≥ (n : Int) := by omega
          have d1 : decide ((l : Int) < (n : Int)) = false := decide_eq_false hge
          have HS : Hid (¬ ∃ y, UniqM n t W y) := hgs.out.none hlt (fun i h1 h2 => hz.out i h1 (by omega))
          clear hz hgs HG
          go_wp2
          exact bodyPost_ret (v := .tuple #[.slice none 0 0, .bool false]) (by simp [results, Try.results44, go_sem]) rfl (Solved9.no hT HS.out)
    · have hge : ¬ (k : Int) < (t : Int) := by omega
      have ek : k = t := by omega
      have hgt : Hid (GS n t W V t) := by
        have h9 := hgs.out
        rw [ek] at h9
        exact h9
      have htn : t ≤ n := by
        rcases Nat.eq_zero_or_pos t with e0 | e0
        · omega
        · have := (hgt.out.piv (t - 1) (by omega)).1; omega
      have htM' : (t : Int) < (M : Int) := by omega
      clear hgs ek
      go_wp2
      go_loop [10] (fun i => ∃ l : Nat, t ≤ l ∧ l ≤ n ∧ i = .int .i64 l ∧ Hid (∀ i, t ≤ i → i < l → V i t = 0)) (fun i => n - (intOf i).toNat)
      case atStart => exact ⟨t, Nat.le_refl _, htn, rfl, (fun i h1 h2 => by omega : ∀ i, t ≤ i → i < t → V i t = 0)⟩
      case round =>
        obtain ⟨l, htl, hl, rfl, hz⟩ := hrel
        by_cases hl2 : l < n
        · have hl2' : (l : Int) < (n : Int) := by omega
          obtain ⟨bl, ol, cl, g1, g2, g3, g4, g5⟩ := HG.at hl2 (by omega)
          have g6 := g5 t hM0
          by_cases hz0' : V l t = 0
          · have d0 : (((V l t).toNat : Int) != 0) = false := by rw [hz0']; rfl
            have HZ : Hid (∀ i, t ≤ i → i < l + 1 → V i t = 0) := fun i h1 h2 => by
              by_cases e : i = l
              · subst e; exact hz0'
              · exact hz.out i h1 (by omega)
            clear hz hz0' g5 g3
            go_wp2
            go_round
            case rel => exact ⟨l + 1, by omega, by omega, by go_num, HZ⟩
            case measure => simp [intOf]; omega
          · have d0 : (((V l t).toNat : Int) != 0) = true := by rw [bne, eq_u8_zero]; simp [hz0']
            have HS : Hid (¬ ∃ y, UniqM n t W y) := hgt.out.bad htl hl2 hz0'
            clear hz hz0' g5 g3 hgt HG
            go_wp2
            exact bodyPost_ret (v := .tuple #[.slice none 0 0, .bool false]) (by simp [results, Try.results44, go_sem]) rfl (Solved9.no hT HS.out)
        · have hge2 : ¬ (l : Int) < (n : Int) := by omega
          have HU : Hid (UniqM n t W (fun c => mu (V c t) (iv (V c c)))) := hgt.out.good (fun i h1 h2 => hz.out i h1 (by omega))
          obtain ⟨y, hy⟩ : ∃ y : Nat → UInt8, Hid (y = fun c => mu (V c t) (iv (V c c))) := ⟨_, rfl⟩
          rw [← hy.out] at HU
          clear hz hgt
          go_wp2
          go_loopw [11, 12] (fun o i wr => ∃ c : Nat, c ≤ t ∧ i = .int .i64 c ∧ wr.ownsRow wo.heap.size 5 1 o c ((upto y c).map vb) ∧ Below wo.heap.size wo wr) (fun _ i _ => t - (intOf i).toNat)
          case atStart => exact ⟨0, by omega, rfl, World.ownsRow_nil _ _ _ _, Below.refl _ _⟩
          case round =>
            obtain ⟨c, hc, rfl, hown, hB⟩ := hrel
            have hsz := hB.size
            obtain ⟨av, cv, rfl⟩ := owns_form hown
            by_cases hct : c < t
            · have hct' : (c : Int) < (t : Int) := by omega
              have hcn' : (c : Int) < (n : Int) := by omega
              have hcM' : (c : Int) < (M : Int) := by omega
              obtain ⟨bj, oj, cj, r1, r2, r3, r4, r5⟩ := (HG.later hB).at (i := c) (by omega) (by omega)
              have r6 := r5 t hM0
              have r7 := r5 c (by omega)
              obtain ⟨z, hz⟩ : ∃ z, Hid (z = mu (V c t) (iv (V c c))) := ⟨_, rfl⟩
              have HZ : Hid (y c = z) := by show _ = _; rw [hy.out, hz.out]
              have ho9 : Hid _ := hown
              have hB9 : Hid _ := hB
              clear r3 r5 hown hB
              go_wp2
              go_quiet ((go_at_call 48; go_loud (exact Calls.quiet_of_same (rdiv9_at (V c t) (V c c) rfl rfl))))
              rw [← hz.out]
              have ho8 : World.ownsRow (wr.drewN nq) wo.heap.size 5 1 (.slice av c cv) c ((upto y c).map vb) := ho9.out
              have hB8 : Below wo.heap.size wo (wr.drewN nq) := Below.draws hB9.out nq
              have hs8 := hB8.size
              clear ho9 hB9 r1 r2 r6 r7
              go_wp2_with (at_builtin; go_loud (refine wpList_append_rd2 _ rfl (.tmp 116) (.tmp 118) 23 rfl wo.heap.size 5 i0 Try.underlying23 hi hz0 hz1 hz2 (.slice av c cv) c _ rfl (World.ownsRow.alloc ho8 _) _ [z] rfl (rd_lit (n := 1) [z] rfl rfl (by decide)) (by simp; omega) (by simp at hs8 ⊢; omega) ?_); intro x' w4 hx4 hg4 _)
              have HN : Hid (w4.ownsRow wo.heap.size 5 1 x' (c + 1) ((upto y (c + 1)).map vb)) := (by rw [upto_vb_succ, HZ.out]; exact hx4 : w4.ownsRow wo.heap.size 5 1 x' (c + 1) ((upto y (c + 1)).map vb))
              have HB : Hid (Below wo.heap.size wo w4) := grow_below hB8 ho8 hg4
              clear hx4 hg4 ho8 hB8
              go_roundw
              case rel => exact ⟨c + 1, by omega, by go_num, HN.out, HB.out⟩
              case measure => simp [intOf]; omega
            · have hge3 : ¬ (c : Int) < (t : Int) := by omega
              have ec : c = t := by omega
              have HO : Hid (OwnP wr w.heap.size 5 (.slice av c cv) (upto y t)) := by
                show World.ownsRow _ _ _ _ _ _ _
                rw [upto_length, ← ec]
                exact ownsRow_base hown hT.size
              have HT : Hid (Turn G w wr) := hT.trans (Below.turn hB G)
              have ec' : Hid _ := ec
              clear hown hB ec
              go_wp2
              exact bodyPost_ret (v := .tuple #[.slice av c cv, .bool true]) (by simp [results, Try.results44, go_sem]) rfl (Solved9.yes HT.out ec'.out HU.out HO.out)

end Go.Proofs.Ytlbachgbeefhcaa.Gf

/-
  SLICES OF SLICES: what the program says of the type of a shard. No program's function is named here.
-/

namespace Go.Proofs.Ytlbachgbeefhcaa.Gf
set_option linter.unusedVariables false
set_option linter.unusedSimpArgs false
open Go.RowKit

theorem info_shard : (Try.prog.info? 23).map (fun i => (i.zero, i.size, i.bytes)) = some (some (.slice none 0 0), 1, 24) := by kernel_rfl
theorem take_next {M : List (List UInt8)} {k : Nat} (h : k < M.length) : M.take (k + 1) = M.take k ++ [ro M k] := by
  rw [List.take_add_one, ro_some h]; rfl

end Go.Proofs.Ytlbachgbeefhcaa.Gf

/-
  THE DOCUMENT's ANSWER FOR LAYER 9 (package aumbryref09) BY CONTRACT: 'located'.
-/

namespace Go.Proofs.Ytlbachgbeefhcaa.Gf
set_option linter.unusedVariables false
set_option linter.unusedSimpArgs false
open Go.RowKit

theorem Os.place9 {w : World} {base T u : Nat} {v : Value} {L : List (List UInt8)} (h : Os w base T u v L) (h0 : 0 < L.length) : ∃ G C, v = .slice (some ⟨G, 0, none⟩) L.length C ∧ base ≤ G ∧ G < w.heap.size := by
  obtain ⟨vals, hv, hr⟩ := h
  have hv' := hv
  obtain ⟨_, ⟨e, hn⟩ | ⟨G, cap, cur, e, _⟩⟩ := hv
  · omega
  · subst e
    have := World.ownsRow.lt hv' G rfl
    exact ⟨G, cap, rfl, this.1, this.2⟩
theorem Os.grid9 {w : World} {base T u G n C M : Nat} {W : Mx} (h : Os w base T u (.slice (some ⟨G, 0, none⟩) n C) (mkL n (fun r => upto (W r) M))) : Grid w base T G n C M W := by
  obtain ⟨vals, hv, hr⟩ := h
  rw [mkL_length] at hv
  have hlen : vals.length = n := by have := hv.1; omega
  refine ⟨vals, hv, fun i hi => ?_⟩
  have hx : vals[i]? = some (vals[i]'(by omega)) := List.getElem?_eq_getElem (by omega)
  refine ⟨_, hx, ?_, fun a m c e => ?_⟩
  · have := Rd.owned (hr.own i _ hx)
    rw [ro_mkL hi] at this
    exact this
  · right
    rcases hr.out i _ hx with h1 | h1
    · rw [e] at h1; cases h1
    · rw [e] at h1
      intro e2
      exact h1 (by show some a.block = some G; rw [e2])

/-- what 'located' leaves -/
def Located9 (w : World) (P : Nat → UInt8) (m e t : Nat) (x : Ending) (w' : World) : Prop :=
  Below w.heap.size w w' ∧ ((∃ v y, x = .returned (.tuple #[v, .bool true]) ∧ UniqM (m - (e + t)) t (eqM P e t) y ∧ Rd w' v (upto (lcF t y) (t + 1))) ∨ (∃ v q, x = .returned (.tuple #[v, .bool false]) ∧ Rd w' v q ∧ ¬ ∃ y, UniqM (m - (e + t)) t (eqM P e t) y))
theorem lc_upto (t : Nat) (y : Nat → UInt8) : (upto y t).map vb ++ [(1 : UInt8)].map vb = (upto (lcF t y) (t + 1)).map vb := by
  rw [← List.map_append, upto_succ, lcF_top]
  congr 2
  exact upto_congr fun i hi => by unfold lcF; rw [if_pos hi]

set_option maxRecDepth 100000 in
set_option maxHeartbeats 4000000 in
theorem rlocd_any {w : World} {vp : Value} {p : List UInt8} {m e t : Nat} (hp : Rd w vp p) (hm : m ≤ 800) (hem : e + t ≤ m) {x y z : Int} (hx : x = (m : Int)) (hy : y = (e : Int)) (hz : z = (t : Int)) :
    Calls Try.prog 32 #[vp, .int .i64 x, .int .i64 y, .int .i64 z] w (Located9 w (co p) m e t) := by
  subst hx hy hz
  obtain ⟨i0, hi, hz0, hz1, hz2⟩ := info_parts info_u8
  obtain ⟨i1, hj, hy0, hy1, hy2⟩ := info_parts info_shard
  obtain ⟨pa, pc, rfl⟩ := hp.form
  obtain ⟨s, hs⟩ : ∃ s, Hid (s = e + t) := ⟨_, rfl⟩
  have g0 : (e : Int) + (t : Int) = (s : Int) := by have := hs.out; omega
  have hsm : s ≤ m := by have := hs.out; omega
  have gw : IntKind.i64.wrap (s : Int) = (s : Int) := by rw [IntKind.wrap_i64]; omega
  have hts : t ≤ s := by have := hs.out; omega
  clear hem
  go_enter Try.func32, Try.ntmps32
  go_wp2
  go_loopw [10, 11] (fun o i wr => ∃ r : Nat, s + r ≤ m ∧ i = .int .i64 ((s + r : Nat) : Int) ∧ (r = 0 → o = .slice none 0 0) ∧ Os wr w.heap.size 23 5 o (mkL r (fun r => upto (eqM (co p) e t r) (t + 1))) ∧ Below w.heap.size w wr) (fun _ i _ => m - (intOf i).toNat)
  case atStart => exact ⟨0, by omega, by simp, fun _ => rfl, Os.nil _ _ _ _, Below.refl _ _⟩
  case round =>
    obtain ⟨r, hr, rfl, ho0, hO, hB⟩ := hrel
    obtain ⟨wo, hwo⟩ : ∃ wo, wo = wr := ⟨_, rfl⟩
    subst hwo
    obtain ⟨T, hT⟩ : ∃ T, Hid (T = s + r) := ⟨_, rfl⟩
    rw [← hT.out] at hr ⊢
    have HL : Hid ((mkL r (fun r => upto (eqM (co p) e t r) (t + 1))).length = r) := mkL_length _ _
    have hszr := hB.size
    have hTs : s ≤ T := by rw [hT.out]; omega
    have hr8 : r ≤ 800 := by have := hT.out; omega
    obtain ⟨av, cv, ev⟩ := hO.form
    rw [HL.out] at ev
    subst ev
    by_cases hlt : T < m
    · have hlt' : (T : Int) < (m : Int) := by omega
      have hO' : Hid _ := hO
      have hB' : Hid (Below w.heap.size w wo) := hB
      have hpo := hp.below hB
      clear hO hB ho0
      go_wp2
      go_loopw [12, 13] (fun o i wr => ∃ c : Nat, c ≤ t + 1 ∧ i = .int .i64 c ∧ wr.ownsRow wo.heap.size 5 1 o c ((upto (eqM (co p) e t r) c).map vb) ∧ Below wo.heap.size wo wr) (fun _ i _ => t + 1 - (intOf i).toNat)
      case atStart => exact ⟨0, by omega, rfl, World.ownsRow_nil _ _ _ _, Below.refl _ _⟩
      case round =>
        obtain ⟨c, hc, rfl, hown, hb8⟩ := hrel
        have hs8 := hb8.size
        obtain ⟨ra, rc, rfl⟩ := owns_form hown
        by_cases hct : c ≤ t
        · have hct' : (c : Int) ≤ (t : Int) := by omega
          obtain ⟨d, hd⟩ : ∃ d, Hid (d = T - c) := ⟨_, rfl⟩
          have gd : (T : Int) - (c : Int) = (d : Int) := by have := hd.out; omega
          have gd2 : (d : Int) ≥ 0 := by omega
          have gdw : IntKind.i64.wrap (d : Int) = (d : Int) := by rw [IntKind.wrap_i64]; have := hd.out; omega
          have HX : Hid (eqM (co p) e t r c = co p d) := by show co p (e + t + r - c) = co p d; rw [hd.out, hT.out, hs.out]
          have hpr := hpo.below hb8
          obtain ⟨x, hx⟩ : ∃ x, Hid (x = co p d) := ⟨_, rfl⟩
          rw [← hx.out] at HX
          have HC : ∀ W : World, Below wr.heap.size wr W → Calls Try.prog 43 #[.slice pa p.length pc, .int .i64 (d : Int)] W fun e w' => e = .returned (.int .u8 (x.toNat : Nat)) ∧ w' = W := fun W hW => by rw [hx.out]; exact at_any (hpr.below hW) d rfl
          have ho9 : Hid _ := hown
          clear hpr
          go_wp2_with fail
          refine (HC _ (Below.refl _ _)).mono ?_
          rintro e9 w9 ⟨rfl, rfl⟩
          clear HC
          go_wp2_with (at_builtin; go_loud (refine wpList_append_rd2 _ rfl (.tmp 39) (.tmp 41) 23 rfl wo.heap.size 5 i0 Try.underlying23 hi hz0 hz1 hz2 (.slice ra c rc) c _ rfl (World.ownsRow.alloc ho9.out _) _ [x] rfl (rd_lit (n := 1) [x] rfl rfl (by decide)) (by simp; omega) (by simp; omega) ?_); intro x' w4 hx4 hg4 _)
          have HN : Hid (w4.ownsRow wo.heap.size 5 1 x' (c + 1) ((upto (eqM (co p) e t r) (c + 1)).map vb)) := (by rw [upto_vb_succ, HX.out]; exact hx4 : w4.ownsRow wo.heap.size 5 1 x' (c + 1) ((upto (eqM (co p) e t r) (c + 1)).map vb))
          have HBn : Hid (Below wo.heap.size wo w4) := grow_below hb8 hown hg4
          clear hx4 hg4 hown hb8 ho9
          go_roundw
          case rel => exact ⟨c + 1, by omega, by go_num, HN.out, HBn.out⟩
          case measure => simp [intOf]; omega
        · have hge : ¬ (c : Int) ≤ (t : Int) := by omega
          have ec : c = t + 1 := by omega
          have hx8 : OwnP wr w.heap.size 5 (.slice ra c rc) (upto (eqM (co p) e t r) (t + 1)) := by
            unfold OwnP
            rw [upto_length, ← ec]
            exact ownsRow_base hown hszr
          have hb1 : ∀ q, (Value.slice ra c rc).ownBlock = some q → wo.heap.size ≤ q := fun q hq => (World.ownsRow.lt hown q hq).1
          have HT : Hid (mkL (r + 1) (fun r => upto (eqM (co p) e t r) (t + 1)) = mkL r (fun r => upto (eqM (co p) e t r) (t + 1)) ++ [upto (eqM (co p) e t r) (t + 1)]) := mkL_succ _ _
          have ec9 : Hid _ := ec
          clear hown ec
          go_wp2_with (at_builtin; go_loud (refine wpList_append_os rfl (.tmp 43) (.tmp 45) 59 rfl w.heap.size 23 i1 Try.underlying59 hj hy0 hy1 hy2 5 (.slice av r cv) (mkL r (fun r => upto (eqM (co p) e t r) (t + 1))) rfl hO'.out hb8 (.slice ra c rc) (upto (eqM (co p) e t r) (t + 1)) hx8 hb1 _ 1 rfl (by rw [HL.out]; omega) hszr ?_); intro v' w9 hv9 hb9 _ _)
          rw [← HT.out] at hv9
          have HOn : Hid (Os w9 w.heap.size 23 5 v' (mkL (r + 1) (fun r => upto (eqM (co p) e t r) (t + 1)))) := hv9
          have HBn : Hid (Below w.heap.size w w9) := hB'.out.trans hb9
          clear hv9 hb9 hx8 hb1 hb8 hO' hB'
          go_roundw
          case rel => exact ⟨r + 1, by rw [hT.out] at hlt; omega, by have := hT.out; go_num, fun h => by omega, HOn.out, HBn.out⟩
          case measure => simp [intOf]; omega
    · have hge : ¬ (T : Int) < (m : Int) := by omega
      have hr9 : Hid (r = m - (e + t)) := by show r = _; have := hT.out; have := hs.out; omega
      rcases Nat.eq_zero_or_pos r with h0 | h0
      · have ev := ho0 h0
        simp at ev
        obtain ⟨rfl, e1, rfl⟩ := ev
        clear ho0 e1
        subst h0
        clear hO hT
        go_wp2_with fail
        refine (rsolved_none _ t (by omega) rfl).mono ?_
        rintro e9 w9 ⟨rfl, rfl⟩
        obtain ⟨b, hb⟩ : ∃ b, Hid (b = decide (t = 0)) := ⟨_, rfl⟩
        rw [← hb.out]
        have hN : w9.ownsRow w9.heap.size 5 1 (.slice none 0 0) 0 [] := World.ownsRow_nil _ _ _ _
        have hs9 := hB.size
        go_wp2_with (at_builtin; go_loud (refine wpList_append_rd2 _ rfl (.tmp 53) (.tmp 54) 23 rfl w9.heap.size 5 i0 Try.underlying23 hi hz0 hz1 hz2 (.slice none 0 0) 0 _ rfl (World.ownsRow.alloc hN _) _ [1] rfl (rd_lit (n := 1) [1] rfl rfl (by decide)) (by simp) (by simp) ?_); intro x' w4 hx4 hg4 _)
        rw [List.nil_append, Nat.zero_add] at hx4
        have HR : Rd w4 x' [1] := Rd.owned hx4
        have HB4 : Hid (Below w.heap.size w w4) := (below_lit hB _).grown hg4 (by simp; omega) (fun q hq => by cases hq)
        obtain ⟨xa, xc, rfl⟩ := HR.form
        have HF : Hid (Located9 w (co p) m e t (.returned (.tuple #[.slice xa 1 xc, .bool b])) w4) := by
          refine ⟨HB4.out, ?_⟩
          rw [← hr9.out]
          by_cases ht0 : t = 0
          · subst ht0
            have : b = true := by rw [hb.out]; rfl
            subst this
            exact Or.inl ⟨_, fun _ => 0, rfl, ⟨fun i hi => by omega, fun y _ c hc => by omega⟩, HR⟩
          · have : b = false := by rw [hb.out]; exact decide_eq_false ht0
            subst this
            exact Or.inr ⟨_, _, rfl, HR, (GS.start 0 t _).none (by omega) (fun i _ hi => by omega)⟩
        clear hx4 hg4 hN hB HB4
        exact bodyPost_ret (v := .tuple #[.slice xa 1 xc, .bool b]) (by simp [results, Try.results32, go_sem]) rfl HF.out
      · obtain ⟨G, C, eG, hG1, hG2⟩ := hO.place9 (by rw [HL.out]; exact h0)
        rw [HL.out] at eG
        simp at eG
        obtain ⟨rfl, rfl⟩ := eG
        have HGr := hO.grid9
        have HC := rsolved_some HGr (by omega) (by omega) (x := (t : Int)) rfl
        clear ho0 hO HGr
        go_wp2_with fail
        refine HC.mono ?_
        rintro e9 w9 ⟨hT9, h9⟩
        have hB9 : Below w.heap.size w w9 := hB.trans (hT9.below hG1 hB.size)
        have hs9 := hB9.size
        clear HC
        rcases h9 with ⟨la, lc, yy, rfl, hU, hOw⟩ | ⟨rfl, hno⟩
        · have hOw' : World.ownsRow w9 wo.heap.size 5 1 (.slice la t lc) t ((upto yy t).map vb) := by
            unfold OwnP at hOw
            rw [upto_length] at hOw
            exact hOw
          have hs10 := hT9.size
          clear hOw
          go_wp2_with (at_builtin; go_loud (refine wpList_append_rd2 _ rfl (.tmp 53) (.tmp 54) 23 rfl wo.heap.size 5 i0 Try.underlying23 hi hz0 hz1 hz2 (.slice la t lc) t _ rfl (World.ownsRow.alloc hOw' _) _ [1] rfl (rd_lit (n := 1) [1] rfl rfl (by decide)) (by simp; omega) (by simp; omega) ?_); intro x' w4 hx4 hg4 _)
          rw [lc_upto] at hx4
          have HR : Rd w4 x' (upto (lcF t yy) (t + 1)) := Rd.owned (by rw [upto_length]; exact hx4)
          have HB4 : Hid (Below w.heap.size w w4) := (below_lit hB9 _).grown hg4 (by simp; omega) (fun q hq => by have := (World.ownsRow.lt hOw' q hq).1; omega)
          obtain ⟨xa, xc, rfl⟩ := HR.form
          have HF : Hid (Located9 w (co p) m e t (.returned (.tuple #[.slice xa (upto (lcF t yy) (t + 1)).length xc, .bool true])) w4) := by
            refine ⟨HB4.out, Or.inl ⟨_, yy, rfl, ?_, HR⟩⟩
            rw [← hr9.out]; exact hU
          clear hx4 hg4 hOw' hB9 HB4 hU hT9 hB
          exact bodyPost_ret (v := .tuple #[.slice xa (upto (lcF t yy) (t + 1)).length xc, .bool true]) (by simp [results, Try.results32, go_sem]) rfl HF.out
        · have hN : w9.ownsRow w9.heap.size 5 1 (.slice none 0 0) 0 [] := World.ownsRow_nil _ _ _ _
          have hno' : Hid _ := hno
          clear hno
          go_wp2_with (at_builtin; go_loud (refine wpList_append_rd2 _ rfl (.tmp 53) (.tmp 54) 23 rfl w9.heap.size 5 i0 Try.underlying23 hi hz0 hz1 hz2 (.slice none 0 0) 0 _ rfl (World.ownsRow.alloc hN _) _ [1] rfl (rd_lit (n := 1) [1] rfl rfl (by decide)) (by simp) (by simp) ?_); intro x' w4 hx4 hg4 _)
          rw [List.nil_append, Nat.zero_add] at hx4
          have HR : Rd w4 x' [1] := Rd.owned hx4
          have HB4 : Hid (Below w.heap.size w w4) := (below_lit hB9 _).grown hg4 (by simp; omega) (fun q hq => by cases hq)
          obtain ⟨xa, xc, rfl⟩ := HR.form
          have HF : Hid (Located9 w (co p) m e t (.returned (.tuple #[.slice xa 1 xc, .bool false])) w4) := by
            refine ⟨HB4.out, Or.inr ⟨_, _, rfl, HR, ?_⟩⟩
            rw [← hr9.out]; exact hno'.out
          clear hx4 hg4 hN hB9 HB4 hT9 hB
          exact bodyPost_ret (v := .tuple #[.slice xa 1 xc, .bool false]) (by simp [results, Try.results32, go_sem]) rfl HF.out

end Go.Proofs.Ytlbachgbeefhcaa.Gf

/-
  THE DOCUMENT's ANSWER FOR LAYER 9 (package aumbryref09) BY CONTRACT: 'Solve'.
-/

namespace Go.Proofs.Ytlbachgbeefhcaa.Gf
set_option linter.unusedVariables false
set_option linter.unusedSimpArgs false
open Go.RowKit

theorem keP_norm (s known : List UInt8) : co (mulP (norm known) (norm s.reverse)) = keP s known := by
  rw [co_mulP, co_norm, co_norm]; rfl
theorem eva_drop {s known : List UInt8} {t : Nat} {L : Nat → UInt8} (h : Fin0 L (t + 1)) : (mulP (upto L (t + 1)) (mulP (norm known) (norm s.reverse))).drop s.length = evaL s known t L := by
  have e : co (upto L (t + 1)) = L := funext fun i => co_upto h i
  unfold evaL
  have hf := fin_conv (upto L (t + 1)) (mulP (norm known) (norm s.reverse))
  show (mk (conv (co (upto L (t + 1))) (co (mulP (norm known) (norm s.reverse)))) _).drop s.length = _
  rw [keP_norm, e] at hf ⊢
  exact drop_mk hf (eva_fin h)
theorem upto_drop (p : List UInt8) (m : Nat) : upto (fun i => co p (m + i)) (p.length - m) = p.drop m := by
  refine co_ext (by rw [upto_length, List.length_drop]) fun i hi => ?_
  rw [upto_length] at hi
  have e1 : co (p.drop m) i = co p (m + i) := by unfold co; rw [List.getElem?_drop]
  rw [e1, upto, co_map_range _ hi]
theorem norm_len (p : List UInt8) : (norm p).length ≤ p.length := by unfold norm; rw [mk_length]; exact deg_le _ _
theorem mulP_len (p q : List UInt8) : (mulP p q).length ≤ p.length + q.length := by unfold mulP; rw [mk_length]; exact deg_le _ _

set_option maxRecDepth 100000 in
set_option maxHeartbeats 4000000 in
theorem rsol_any {w : World} {vs vk : Value} {s known : List UInt8} (hs : Rd w vs s) (hk : Rd w vk known) (hl : s.length ≤ 300) (hl2 : known.length ≤ 300) : Calls Try.prog 12 #[vs, vk] w (MakesK w s known) := by
  obtain ⟨i0, hi, hz0, hz1, hz2⟩ := info_parts info_u8
  obtain ⟨sa, sc, rfl⟩ := hs.form
  obtain ⟨ka, kc, rfl⟩ := hk.form
  have hnl := norm_len known
  obtain ⟨m, hm⟩ : ∃ m, Hid (m = s.length) := ⟨_, rfl⟩
  obtain ⟨E, hE⟩ : ∃ E, Hid (E = (norm known).length) := ⟨_, rfl⟩
  rw [← hE.out] at hnl
  have HC := rnorm_any hk (by omega)
  rw [← hE.out] at HC
  go_enter Try.func12, Try.ntmps12
  go_wp2_with fail
  refine HC.mono ?_
  rintro e1 w1 ⟨v1, rfl, hown1, b1⟩
  have R1 : Rd w1 v1 (norm known) := Rd.owned (by rw [← hE.out]; exact hown1)
  obtain ⟨ga, gc, eg⟩ := R1.form
  rw [← hE.out] at eg
  subst eg
  have hs1 := hs.below b1
  clear HC hown1 hs hk
  have gE : IntKind.i64.wrap ((E : Int) - 1) = (E : Int) - 1 := by rw [IntKind.wrap_i64]; omega
  have hsz : (s.length : Int) = (m : Int) := by rw [hm.out]
  have hml : m ≤ 300 := by rw [hm.out]; exact hl
  rw [← hm.out] at hs1 ⊢
  clear hsz
  by_cases hE0 : E = 0
  · have q1 : (E : Int) - 1 < 0 := by omega
    have HA : Hid (KeyAns s known 1 [] []) := Or.inl ⟨Or.inl (by rw [← hE.out]; exact hE0), rfl, rfl, rfl⟩
    clear hE0 R1 hs1
    go_wp2
    exact bodyPost_ret (v := .tuple #[.slice none 0 0, .slice none 0 0, .int .i64 1]) (by simp [results, Try.results12, go_sem]) rfl (MakesK.mk HA.out (rd9_nil _) (rd9_nil _) b1)
  · have q1 : ¬ (E : Int) - 1 < 0 := by omega
    by_cases hEm : m + 1 < E
    · have q2 : (E : Int) - 1 > (m : Int) := by omega
      have HA : Hid (KeyAns s known 1 [] []) := Or.inl ⟨Or.inr (by rw [← hE.out, ← hm.out]; exact hEm), rfl, rfl, rfl⟩
      clear hE0 R1 hs1 hEm
      go_wp2
      exact bodyPost_ret (v := .tuple #[.slice none 0 0, .slice none 0 0, .int .i64 1]) (by simp [results, Try.results12, go_sem]) rfl (MakesK.mk HA.out (rd9_nil _) (rd9_nil _) b1)
    · have q2 : ¬ (E : Int) - 1 > (m : Int) := by omega
      obtain ⟨e, he⟩ : ∃ e, Hid (e = E - 1) := ⟨_, rfl⟩
      have ge : (E : Int) - 1 = (e : Int) := by have := he.out; omega
      have hem : e ≤ m := by have := he.out; omega
      have hnb : Hid (¬ BadK s known) := (by unfold BadK; rw [← hE.out, ← hm.out]; omega : ¬ BadK s known)
      have hee : Hid (e = (norm known).length - 1) := by show e = _; rw [← hE.out]; exact he.out
      have q1' : ¬ (e : Int) < 0 := by omega
      have q2' : ¬ (e : Int) > (m : Int) := by omega
      have gE' : IntKind.i64.wrap (e : Int) = (e : Int) := by rw [IntKind.wrap_i64]; omega
      clear q1 q2 hE0 hEm gE
      go_wp2_with fail
      refine (rturn_any hs1 (by omega)).mono ?_
      rintro e2 w2 ⟨v2, rfl, R2, b2⟩
      have R1' := R1.below b2
      obtain ⟨ta, tc, rfl⟩ := R2.form
      clear R1 hs1
      have hrl := norm_len s.reverse
      rw [List.length_reverse, ← hm.out] at hrl
      go_wp2_with fail
      refine (rpmul_any R1' R2 (by rw [← hE.out]; omega) (by omega)).mono ?_
      rintro e3 w3 ⟨v3, rfl, hown3, b3⟩
      have R3 : Rd w3 v3 (mulP (norm known) (norm s.reverse)) := Rd.owned hown3
      have hpl := mulP_len (norm known) (norm s.reverse)
      rw [← hE.out] at hpl
      have B3 : Hid (Below w.heap.size w w3) := Below.next (Below.next b1 b2) b3
      clear hown3 R1' R2 b1 b2 b3
      have HP : Hid (co (mulP (norm known) (norm s.reverse)) = keP s known) := keP_norm s known
      have HV : Hid (∀ t L, Fin0 L (t + 1) → (mulP (upto L (t + 1)) (mulP (norm known) (norm s.reverse))).drop m = evaL s known t L) := fun t L h => by rw [hm.out]; exact eva_drop h
      obtain ⟨Pl, hPl⟩ : ∃ Pl, Hid (Pl = mulP (norm known) (norm s.reverse)) := ⟨_, rfl⟩
      rw [← hPl.out] at R3 hpl HP HV
      obtain ⟨pa, pc, rfl⟩ := R3.form
      go_wp2
      go_loopw [11] (fun v wr => ∃ t : Nat, t ≤ m + 1 ∧ v = .int .i64 t ∧ Hid (∀ t', t' < t → ¬ ∃ y, UniqM (m - (e + t')) t' (eqM (keP s known) e t') y) ∧ Below w3.heap.size w3 wr) (fun v _ => m + 1 - (intOf v).toNat)
      case atStart => exact ⟨0, by omega, rfl, (fun t' h => by omega : ∀ t', t' < 0 → ¬ ∃ y, UniqM (m - (e + t')) t' (eqM (keP s known) e t') y), Below.refl _ _⟩
      case round =>
        obtain ⟨t, ht, rfl, hno, hB⟩ := hrel
        obtain ⟨wo, hwo⟩ : ∃ wo, wo = wr := ⟨_, rfl⟩
        subst hwo
        have g2 : IntKind.i64.wrap (2 * (t : Int)) = 2 * (t : Int) := by rw [IntKind.wrap_i64]; omega
        have g3 : IntKind.i64.wrap (2 * (t : Int) + (e : Int)) = 2 * (t : Int) + (e : Int) := by rw [IntKind.wrap_i64]; omega
        by_cases hle : 2 * t + e ≤ m
        · have hle' : 2 * (t : Int) + (e : Int) ≤ (m : Int) := by omega
          have R4 := R3.below hB
          go_wp2_with fail
          refine (rlocd_any (e := e) (t := t) (m := m) R4 (by omega) (by omega) rfl rfl rfl).mono ?_
          rintro e5 w5 ⟨b5, h5⟩
          rw [HP.out] at h5
          have B5 : Hid (Below w3.heap.size w3 w5) := Below.next hB b5
          rcases h5 with ⟨v5, y, rfl, hU, R5⟩ | ⟨v5, q5, rfl, R5, hn5⟩
          · have HLL : Hid (LeastLoc (keP s known) m e t (lcF t y)) := first_least hem hle hU hno.out
            have HA : Hid (KeyAns s known 0 (upto (lcF t y) (t + 1)) (evaL s known t (lcF t y))) := KeyAns.of_loc hnb.out (by rw [← hm.out, ← hee.out]; exact HLL.out)
            have HV2 : Hid _ := HV.out t _ (lcF_fin t y)
            have R6 := R3.below B5.out
            obtain ⟨A, hA⟩ : ∃ A, Hid (A = upto (lcF t y) (t + 1)) := ⟨_, rfl⟩
            have hAl : Hid (A.length = t + 1) := by show _ = _; rw [hA.out, upto_length]
            rw [← hA.out] at R5 HA HV2
            obtain ⟨la, lc, el⟩ := R5.form
            rw [hAl.out] at el
            subst el
            clear hno hU R4 b5 hB HLL
            go_wp2_with fail
            refine (rpmul_any R5 R6 (by rw [hAl.out]; omega) (by omega)).mono ?_
            rintro e7 w7 ⟨v7, rfl, hown7, b7⟩
            have R7 : Rd w7 v7 (mulP A Pl) := Rd.owned hown7
            have hal := mulP_len A Pl
            rw [hAl.out] at hal
            have R8 := R5.below b7
            have B7 : Hid (Below w.heap.size w w7) := Below.next (Below.next B3.out B5.out) b7
            obtain ⟨all, hall⟩ : ∃ all, Hid (all = mulP A Pl) := ⟨_, rfl⟩
            rw [← hall.out] at R7 hal HV2
            obtain ⟨aa, ac, rfl⟩ := R7.form
            clear hown7 b7 R5 R6 R3
            go_wp2
            go_loopw [15, 16] (fun o v wr => ∃ k : Nat, (m + k ≤ all.length ∨ k = 0) ∧ v = .int .i64 ((m + k : Nat) : Int) ∧ wr.ownsRow w7.heap.size 5 1 o k ((upto (fun i => co all (m + i)) k).map vb) ∧ Below w7.heap.size w7 wr) (fun _ v _ => all.length - (intOf v).toNat)
            case atStart => exact ⟨0, Or.inr rfl, rfl, World.ownsRow_nil _ _ _ _, Below.refl _ _⟩
            case round =>
              obtain ⟨k, hk, rfl, hown, hb8⟩ := hrel
              have hs8 := hb8.size
              obtain ⟨oa, oc, rfl⟩ := owns_form hown
              obtain ⟨T, hT⟩ : ∃ T, Hid (T = m + k) := ⟨_, rfl⟩
              rw [← hT.out]
              have hkT : k ≤ T := by have := hT.out; omega
              have hTk : Hid (T < all.length → m + (k + 1) ≤ all.length) := fun h => by have := hT.out; omega
              by_cases hlt : T < all.length
              · have hlt' : (T : Int) < (all.length : Int) := by omega
                obtain ⟨xb, xo, rfl, _, cx⟩ := (R7.below hb8).byte (i := T) hlt
                obtain ⟨x, hx⟩ : ∃ x, Hid (x = co all T) := ⟨_, rfl⟩
                have HX : Hid (co all (m + k) = x) := by show _ = _; rw [hx.out, hT.out]
                rw [← hx.out] at cx
                have ho9 : Hid _ := hown
                clear hk
                go_wp2_with (at_builtin; go_loud (refine wpList_append_rd2 _ rfl (.tmp 62) (.tmp 67) 23 rfl w7.heap.size 5 i0 Try.underlying23 hi hz0 hz1 hz2 (.slice oa k oc) k _ rfl (World.ownsRow.alloc ho9.out _) _ [x] rfl (rd_lit (n := 1) [x] rfl rfl (by decide)) (by simp; omega) (by simp; omega) ?_); intro x' w9 hx9 hg9 _)
                have HN : Hid (w9.ownsRow w7.heap.size 5 1 x' (k + 1) ((upto (fun i => co all (m + i)) (k + 1)).map vb)) := (by rw [upto_vb_succ, HX.out]; exact hx9 : w9.ownsRow w7.heap.size 5 1 x' (k + 1) ((upto (fun i => co all (m + i)) (k + 1)).map vb))
                have HBn : Hid (Below w7.heap.size w7 w9) := grow_below hb8 hown hg9
                clear hx9 hg9 hown hb8 ho9 cx
                go_roundw
                case rel => exact ⟨k + 1, Or.inl (hTk.out hlt), by have := hT.out; go_num, HN.out, HBn.out⟩
                case measure => simp [intOf]; omega
              · have hge : ¬ (T : Int) < (all.length : Int) := by omega
                have ek : Hid (k = all.length - m) := by show k = _; have := hT.out; omega
                have HO : Hid (Rd wr (.slice oa k oc) (evaL s known t (lcF t y))) := by
                  show Rd _ _ _
                  rw [← HV2.out, ← upto_drop, ← ek.out]
                  exact Rd.owned (base := w7.heap.size) (e := 5) (by rw [upto_length]; exact hown)
                have R9 := R8.below hb8
                have B9 : Hid (Below w.heap.size w wr) := Below.next B7.out hb8
                clear hown hb8 R7 R8 hk
                go_wp2
                exact bodyPost_ret (v := .tuple #[.slice la (t + 1) lc, .slice oa k oc, .int .i64 0]) (by simp [results, Try.results12, go_sem]) rfl (MakesK.mk HA.out R9 HO.out B9.out)
          · have HN : Hid (∀ t', t' < t + 1 → ¬ ∃ y, UniqM (m - (e + t')) t' (eqM (keP s known) e t') y) := fun t' h => by
              by_cases e0 : t' = t
              · subst e0; exact hn5
              · exact hno.out t' (by omega)
            obtain ⟨la, lc, rfl⟩ := R5.form
            clear hno hn5 R5 R4 b5 hB
            go_wp2
            go_roundw
            case rel => exact ⟨t + 1, by omega, by go_num, HN, B5.out⟩
            case measure => simp [intOf]; omega
        · have hle' : ¬ 2 * (t : Int) + (e : Int) ≤ (m : Int) := by omega
          have HA : Hid (KeyAns s known 100 [] []) := Or.inr (Or.inr ⟨hnb.out, by rw [← hm.out, ← hee.out]; exact first_none hem (fun t' h => hno.out t' (by omega)), rfl, rfl, rfl⟩)
          have B9 : Hid (Below w.heap.size w wo) := Below.next B3.out hB
          clear hno hB R3
          go_wp2
          exact bodyPost_ret (v := .tuple #[.slice none 0 0, .slice none 0 0, .int .i64 100]) (by simp [results, Try.results12, go_sem]) rfl (MakesK.mk HA.out (rd9_nil _) (rd9_nil _) B9.out)

end Go.Proofs.Ytlbachgbeefhcaa.Gf

