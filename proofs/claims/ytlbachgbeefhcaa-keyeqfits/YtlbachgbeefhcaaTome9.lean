/- TEXTS JOINED: KeHelp, KeLaw, PoCode. -/
import Derived.Test.YtlbachgbeefhcaaTome7
import Derived.Test.YtlbachgbeefhcaaTome3
import Derived.Test.YtlbachgbeefhcaaTome8
import Derived.Test.YtlbachgbeefhcaaTome2
import Derived.BigQuiet
import Derived.Deep.QuietTactic
import Derived.Test.YtlbachgbeefhcaaTome4
import Derived.Test.YtlbachgbeefhcaaTome5
/-
  THE STATEMENTS' HELPERS OF LAYER 9 BY CONTRACT: 'unlike', 'sums'.
-/





namespace Go.Proofs.Ytlbachgbeefhcaa.Gf
set_option linter.unusedVariables false
set_option linter.unusedSimpArgs false
open Go.RowKit

/-- of the first n of a: unlike each other, and none in b -/
def UnlikeN (a b : List UInt8) (n : Nat) : Prop := (∀ i j, i < n → j < i → co a i ≠ co a j) ∧ ∀ i j, i < n → j < b.length → co a i ≠ co b j
def unlikeB (a b : List UInt8) : Prop := UnlikeN a b a.length
/-- what 'unlike' leaves -/
def Unlike9 (w : World) (a b : List UInt8) (e : Ending) (w' : World) : Prop := ∃ t, e = .returned (.bool t) ∧ (t = true ↔ unlikeB a b) ∧ Below w.heap.size w w'
theorem Unlike9.no {w w' : World} {a b : List UInt8} (h : ¬ unlikeB a b) (hb : Below w.heap.size w w') : Unlike9 w a b (.returned (.bool false)) w' := ⟨false, rfl, ⟨fun e => (by cases e), fun e => absurd e h⟩, hb⟩
theorem Unlike9.yes {w w' : World} {a b : List UInt8} (h : unlikeB a b) (hb : Below w.heap.size w w') : Unlike9 w a b (.returned (.bool true)) w' := ⟨true, rfl, ⟨fun _ => h, fun _ => rfl⟩, hb⟩

set_option maxRecDepth 100000 in
set_option maxHeartbeats 4000000 in
theorem unlike_any {w : World} {va vb : Value} {a b : List UInt8} (ha : Rd w va a) (hb : Rd w vb b) (hl : a.length ≤ 1000) (hl2 : b.length ≤ 1000) : Calls Try.prog 16 #[va, vb] w (Unlike9 w a b) := by
  obtain ⟨aa, ac, rfl⟩ := ha.form
  obtain ⟨ba, bc, rfl⟩ := hb.form
  go_enter Try.func16, Try.ntmps16
  go_wp2
  go_loopw [5] (fun v wr => ∃ n : Nat, n ≤ a.length ∧ v = .int .i64 n ∧ Hid (UnlikeN a b n) ∧ ∃ nd, wr = w.drewN nd) (fun v _ => a.length - (intOf v).toNat)
  case atStart => exact ⟨0, by omega, rfl, (⟨fun i j hi => by omega, fun i j hi => by omega⟩ : UnlikeN a b 0), 0, rfl⟩
  case round =>
    obtain ⟨n, hn, rfl, hU, nd, hd0⟩ := hrel
    obtain ⟨wo, hwo⟩ : ∃ wo, wo = wr := ⟨_, rfl⟩
    subst hwo
    have hd : Hid (wo = w.drewN nd) := hd0
    have hao : Rd wo (.slice aa a.length ac) a := by rw [hd0]; exact ha.drewN nd
    have hbo : Rd wo (.slice ba b.length bc) b := by rw [hd0]; exact hb.drewN nd
    clear hd0
    by_cases hlt : n < a.length
    · have hlt' : (n : Int) < (a.length : Int) := by omega
      obtain ⟨ab, ao, rfl, _, cn⟩ := hao.byte (i := n) hlt
      go_wp2
      go_loopw [6] (fun v wr => ∃ k : Nat, k ≤ n ∧ v = .int .i64 k ∧ Hid (∀ j, j < k → co a n ≠ co a j) ∧ ∃ nd, wr = wo.drewN nd) (fun v _ => n - (intOf v).toNat)
      case atStart => exact ⟨0, by omega, rfl, (fun j hj => by omega : ∀ j, j < 0 → co a n ≠ co a j), 0, rfl⟩
      case round =>
        obtain ⟨k, hk, rfl, hz, nk, hdk0⟩ := hrel
        have hdk : Hid (wr = wo.drewN nk) := hdk0
        by_cases hkn : k < n
        · have hkn' : (k : Int) < (n : Int) := by omega
          obtain ⟨ab2, ao2, e2, _, ck⟩ := hao.byte (i := k) (by omega)
          simp at e2
          obtain ⟨rfl, rfl⟩ := e2
          have cn2 : wr.cell? ⟨ab, ao + n, none⟩ = some (.int .u8 ((co a n).toNat : Nat)) := by rw [hdk0]; exact cn
          have ck2 : wr.cell? ⟨ab, ao + k, none⟩ = some (.int .u8 ((co a k).toNat : Nat)) := by rw [hdk0]; exact ck
          have hka : (k : Int) < (a.length : Int) := by omega
          by_cases e : co a n = co a k
          · have q : ((((co a n).toNat : Nat) : Int) == (((co a k).toNat : Nat) : Int)) = true := by rw [e]; simp
            have HF : Hid (¬ unlikeB a b) := fun h => h.1 n k hlt hkn e
            clear hdk0 ck cn hz hU e hao hbo
            go_wp2
            go_quiet (fail)
            go_wp2
            go_ret
            refine Unlike9.no HF.out ?_
            rw [hdk.out, hd.out]; exact Below.draws (Below.draws (Below.draws (Below.refl _ _) _) _) _
          · have q : ((((co a n).toNat : Nat) : Int) == (((co a k).toNat : Nat) : Int)) = false := by rw [eq_u8]; exact decide_eq_false e
            have HZ : Hid (∀ j, j < k + 1 → co a n ≠ co a j) := fun j hj => by
              by_cases e3 : j = k
              · rw [e3]; exact e
              · exact hz.out j (by omega)
            clear hdk0 ck hz e
            go_wp2
            go_quiet (fail)
            go_wp2
            go_roundw
            case rel => exact ⟨k + 1, by omega, by go_num, HZ, _, by show _ = _; rw [hdk.out, World.drewN_drewN]⟩
            case measure => simp [intOf]; omega
        · have hge : ¬ (k : Int) < (n : Int) := by omega
          have HZ : Hid (∀ j, j < n → co a n ≠ co a j) := fun j hj => hz.out j (by omega)
          obtain ⟨wp, hwp⟩ : ∃ wp, wp = wr := ⟨_, rfl⟩
          subst hwp
          have cn1 : wp.cell? ⟨ab, ao + n, none⟩ = some (.int .u8 ((co a n).toNat : Nat)) := by rw [hdk0]; exact cn
          have hbp : Rd wp (.slice ba b.length bc) b := by rw [hdk0]; exact hbo.drewN nk
          clear hdk0 hz cn
          go_wp2
          go_loopw [7] (fun v wr => ∃ k : Nat, k ≤ b.length ∧ v = .int .i64 k ∧ Hid (∀ j, j < k → co a n ≠ co b j) ∧ ∃ nd, wr = wp.drewN nd) (fun v _ => b.length - (intOf v).toNat)
          case atStart => exact ⟨0, by omega, rfl, (fun j hj => by omega : ∀ j, j < 0 → co a n ≠ co b j), 0, rfl⟩
          case round =>
            obtain ⟨l, hl9, rfl, hy, nl, hdl0⟩ := hrel
            have hdl : Hid (wr = wp.drewN nl) := hdl0
            by_cases hln : l < b.length
            · have hln' : (l : Int) < (b.length : Int) := by omega
              obtain ⟨bb, bo, e2, _, cl⟩ := hbp.byte (i := l) hln
              subst e2
              have cn2 : wr.cell? ⟨ab, ao + n, none⟩ = some (.int .u8 ((co a n).toNat : Nat)) := by rw [hdl0]; exact cn1
              have cl2 : wr.cell? ⟨bb, bo + l, none⟩ = some (.int .u8 ((co b l).toNat : Nat)) := by rw [hdl0]; exact cl
              by_cases e : co a n = co b l
              · have q : ((((co a n).toNat : Nat) : Int) == (((co b l).toNat : Nat) : Int)) = true := by rw [e]; simp
                have HF : Hid (¬ unlikeB a b) := fun h => h.2 n l hlt hln e
                clear hdl0 cl cn1 hy hU e hao hbo hbp
                go_wp2
                go_quiet (fail)
                go_wp2
                go_ret
                refine Unlike9.no HF.out ?_
                rw [hdl.out, hdk.out, hd.out]; exact Below.draws (Below.draws (Below.draws (Below.draws (Below.refl _ _) _) _) _) _
              · have q : ((((co a n).toNat : Nat) : Int) == (((co b l).toNat : Nat) : Int)) = false := by rw [eq_u8]; exact decide_eq_false e
                have HY : Hid (∀ j, j < l + 1 → co a n ≠ co b j) := fun j hj => by
                  by_cases e3 : j = l
                  · rw [e3]; exact e
                  · exact hy.out j (by omega)
                clear hdl0 cl hy e
                go_wp2
                go_quiet (fail)
                go_wp2
                go_roundw
                case rel => exact ⟨l + 1, by omega, by go_num, HY, _, by show _ = _; rw [hdl.out, World.drewN_drewN]⟩
                case measure => simp [intOf]; omega
            · have hge2 : ¬ (l : Int) < (b.length : Int) := by omega
              have HU : Hid (UnlikeN a b (n + 1)) := (⟨fun i j hi hj => by
                  by_cases e : i = n
                  · subst e; exact HZ.out j hj
                  · exact hU.out.1 i j (by omega) hj, fun i j hi hj => by
                  by_cases e : i = n
                  · subst e; exact hy.out j (by omega)
                  · exact hU.out.2 i j (by omega) hj⟩ : UnlikeN a b (n + 1))
              clear hdl0 hy hU
              go_wp2
              go_roundw
              case rel => exact ⟨n + 1, by omega, by go_num, HU, _, by rw [hdl.out, hdk.out, hd.out, World.drewN_drewN, World.drewN_drewN]⟩
              case measure => simp [intOf]; omega
    · have hge : ¬ (n : Int) < (a.length : Int) := by omega
      have HU : Hid (unlikeB a b) := by show UnlikeN a b a.length; have h9 := hU.out; rwa [show n = a.length by omega] at h9
      clear hU hao hbo
      go_wp2
      go_ret
      refine Unlike9.yes HU.out ?_
      rw [hd.out]; exact Below.draws (Below.refl _ _) _

theorem syP_next (a bv : Nat → UInt8) (n l : Nat) : syP a bv (n + 1) l = syP a bv n l ^^^ mu (bv n) (pwr (a n) l) := rfl
/-- within a point: the first l are added -/
def syQ (a bv : Nat → UInt8) (n l t : Nat) : UInt8 := if t < l then syP a bv (n + 1) t else syP a bv n t
theorem syQ_zero (a bv : Nat → UInt8) (n : Nat) : syQ a bv n 0 = syP a bv n := funext fun t => if_neg (Nat.not_lt_zero _)
theorem syQ_step (a bv : Nat → UInt8) (n l t : Nat) : syQ a bv n (l + 1) t = if t = l then syP a bv n l ^^^ mu (bv n) (pwr (a n) l) else syQ a bv n l t := by
  unfold syQ
  by_cases e : t = l
  · subst e; rw [if_pos (by omega), if_pos rfl]; rfl
  · rw [if_neg e]
    by_cases h : t < l
    · rw [if_pos h, if_pos (by omega)]
    · rw [if_neg h, if_neg (by omega)]

set_option maxRecDepth 100000 in
set_option maxHeartbeats 4000000 in
theorem sums_any {b : Nat} {w : World} {vp vy : Value} {m : Nat} {p y : List UInt8} (hF : FieldAt w b) (hp : Rd w vp p) (hy : Rd w vy y) (hm : m ≤ 1000) (hl : p.length ≤ 1000) (hpy : y.length = p.length) {x : Int} (hx : x = (m : Int)) :
    Calls Try.prog 17 #[.pointer (some ⟨b, 0, none⟩), .int .i64 x, vp, vy] w (MakesV w (upto (syP (co p) (co y) p.length) m)) := by
  subst hx
  obtain ⟨i0, hi, hz0, hz1, hz2⟩ := info_parts info_u8
  obtain ⟨pa, pc, rfl⟩ := hp.form
  obtain ⟨ya, yc, rfl⟩ := hy.form
  have hpy' : Hid _ := hpy
  obtain ⟨N, hN⟩ : ∃ N, Hid (N = p.length) := ⟨_, rfl⟩
  rw [hpy, ← hN.out] at hy ⊢
  rw [← hN.out] at hp hl
  clear hpy
  go_enter Try.func17, Try.ntmps17
  go_wp2_with (at_make; go_loud (refine wpList_make_full _ rfl (.tmp 13) (.tmp 13) 23 rfl w.heap.size 5 i0 (.int .u8 0) 1 Try.underlying23 hi hz0 hz1 _ _ _ _ m rfl rfl (by omega) (by omega) (by rw [hz2]; omega) (by unfold maxLen; omega) (Nat.le_refl _) ?_); intro w4 hown4 hgrow4)
  have R4 : Hid (RowF w4 w.heap.size 5 w.heap.size m m (fun _ => 0)) := RowF.made hown4
  have B4 : Hid (Below w.heap.size w w4) := (Below.refl _ _).grown hgrow4 (Nat.le_refl _) (fun q hq => by cases hq)
  clear hown4 hgrow4
  have HA : Hid (Apart w.heap.size (.slice pa N pc)) := hp.apart (Nat.le_refl _)
  have HAY : Hid (Apart w.heap.size (.slice ya N yc)) := hy.apart (Nat.le_refl _)
  have hF4 := hF.below B4.out
  have hp4 := hp.below B4.out
  have hy4 := hy.below B4.out
  have hbg : b ≠ w.heap.size := by have := hF.lt; omega
  obtain ⟨g, hg⟩ : ∃ g, Hid (g = w.heap.size) := ⟨_, rfl⟩
  rw [← hg.out] at R4 HA HAY hbg ⊢
  clear hF hp hy
  go_wp2
  go_loopw [10] (fun v wr => ∃ n : Nat, n ≤ N ∧ v = .int .i64 n ∧ Only g w4 wr ∧ RowF wr g 5 g m m (syP (co p) (co y) n)) (fun v _ => N - (intOf v).toNat)
  case atStart => exact ⟨0, by omega, rfl, Only.refl _ _, R4.out.congr fun t _ => rfl⟩
  case round =>
    obtain ⟨n, hn, rfl, hO, hR⟩ := hrel
    clear R4
    obtain ⟨wo, hwo⟩ : ∃ wo, wo = wr := ⟨_, rfl⟩
    subst hwo
    by_cases hlt : n < N
    · have hlt' : (n : Int) < (N : Int) := by omega
      have hFo := hF4.only hbg hO
      have hpo := hp4.only HA.out hO
      have hyo := hy4.only HAY.out hO
      obtain ⟨pb, po, rfl, _, cp⟩ := hpo.byte (i := n) (by rw [← hN.out]; exact hlt)
      obtain ⟨yb, yo, rfl, _, cy⟩ := hyo.byte (i := n) (by rw [hpy'.out, ← hN.out]; exact hlt)
      have hpg : pb ≠ g := by
        rcases HA.out _ _ _ rfl with e | e
        · omega
        · exact e
      have HO : Hid _ := hO
      clear hO hpo hyo
      go_wp2
      clear cy
      go_loopw [11, 12] (fun x v wr => ∃ l : Nat, l ≤ m ∧ v = .int .i64 l ∧ x = .int .u8 ((mu (co y n) (pwr (co p n) l)).toNat : Nat) ∧ Only g wo wr ∧ RowF wr g 5 g m m (syQ (co p) (co y) n l)) (fun _ v _ => m - (intOf v).toNat)
      case atStart => exact ⟨0, by omega, rfl, by show _ = Value.int .u8 ((mu (co y n) 1).toNat : Nat); rw [mu_one], Only.refl _ _, by rw [syQ_zero]; exact hR⟩
      case round =>
        obtain ⟨l, hl9, rfl, rfl, hOl, hRl⟩ := hrel
        clear hR
        by_cases hlm : l < m
        · have hlm' : (l : Int) < (m : Int) := by omega
          have c1 := hRl.cell hlm
          have f1 := hRl.unfrozen l
          have e1 : syQ (co p) (co y) n l l = syP (co p) (co y) n l := if_neg (by omega)
          rw [e1] at c1
          obtain ⟨q, hq⟩ : ∃ q, Hid (q = mu (co y n) (pwr (co p n) l)) := ⟨_, rfl⟩
          obtain ⟨z, hz⟩ : ∃ z, Hid (z = syP (co p) (co y) n l) := ⟨_, rfl⟩
          have HQ : Hid (mu (co y n) (pwr (co p n) (l + 1)) = mu q (co p n)) := by show _ = _; rw [hq.out, mu_assoc]; rfl
          rw [← hz.out] at c1
          have E := xor_u8 z q
          have HN : Hid (RowF (wr.setCell ⟨g, l, none⟩ (.int .u8 ((z.toNat ^^^ q.toNat : Nat) : Int))) g 5 g m m (syQ (co p) (co y) n (l + 1))) := by
            rw [← UInt8.toNat_xor]
            exact hRl.store hlm _ fun t => by rw [hq.out, hz.out]; exact syQ_step _ _ _ _ _
          have HOn : Hid (Only g wo (wr.setCell ⟨g, l, none⟩ (.int .u8 ((z.toNat ^^^ q.toNat : Nat) : Int)))) := hOl.setCell l _
          have hFr := hFo.only hbg HOn.out
          have cp2 := (HOn.out.cell (p := ⟨pb, po + n, none⟩) hpg).trans cp
          rw [← hq.out]
          clear hRl hOl e1
          go_wp2_with fail
          refine (fmu_quiet hFr q (co p n) rfl rfl).mono ?_
          rintro e w2 ⟨rfl, n2, hw2⟩
          have HN2 : Hid (RowF w2 g 5 g m m (syQ (co p) (co y) n (l + 1))) := by rw [hw2]; exact HN.out.drewN _
          have HO2 : Hid (Only g wo w2) := by rw [hw2]; exact HOn.out.drewN _
          clear hw2 HN HOn hFr c1 f1 cp2
          go_wp2
          go_roundw
          case rel => exact ⟨l + 1, by omega, by go_num, by rw [HQ.out], HO2.out, HN2.out⟩
          case measure => simp [intOf]; omega
        · have hge : ¬ (l : Int) < (m : Int) := by omega
          have HN : Hid (RowF wr g 5 g m m (syP (co p) (co y) (n + 1))) := hRl.congr fun t ht => if_pos (by omega)
          have HO2 : Hid (Only g w4 wr) := HO.out.trans hOl
          clear hRl hOl
          go_wp2
          go_roundw
          case rel => exact ⟨n + 1, by omega, by go_num, HO2.out, HN.out⟩
          case measure => simp [intOf]; omega
    · have hge : ¬ (n : Int) < (N : Int) := by omega
      have en : n = N := by omega
      have HP : Hid (Rd wo (.slice (some ⟨g, 0, none⟩) m m) (upto (syP (co p) (co y) N) m)) := by show Rd _ _ _; rw [← en]; exact hR.rd
      have HB : Hid (Below w.heap.size w wo) := B4.out.trans (hO.below (by rw [hg.out]; exact Nat.le_refl _))
      clear hO hR hF4 hp4 hy4 en
      go_wp2
      go_ret
      exact ⟨_, rfl, HP.out, HB.out⟩

end Go.Proofs.Ytlbachgbeefhcaa.Gf

/-
  SMALL FACTS OF LAYER 9's STATEMENTS. No program's function is named here.
-/

namespace Go.Proofs.Ytlbachgbeefhcaa.Gf
set_option linter.unusedVariables false
set_option linter.unusedSimpArgs false
open Go.RowKit

theorem norm_len9 (p : List UInt8) : (norm p).length ≤ p.length := by unfold norm; rw [mk_length]; exact deg_le _ _
theorem mulP_len9 (p q : List UInt8) : (mulP p q).length ≤ p.length + q.length := by unfold mulP; rw [mk_length]; exact deg_le _ _

theorem KeyAns.len {s known : List UInt8} {X : Int} {A O : List UInt8} (h : KeyAns s known X A O) : A.length ≤ s.length + 1 ∧ O.length ≤ 2 * s.length + known.length + 1 := by
  rcases h with ⟨_, _, rfl, rfl⟩ | ⟨_, t, L, hl, _, rfl, rfl⟩ | ⟨_, _, _, rfl, rfl⟩
  · simp
  · have hf := hl.few
    have := deg_le (fun i => conv L (keP s known) (s.length + i)) (t + 1 + (known.length + s.length))
    unfold evaL
    rw [upto_length, mk_length]
    omega
  · simp
theorem KeyAns.bad {s known : List UInt8} {X : Int} {A O : List UInt8} (h : KeyAns s known X A O) (hb : BadK s known) : X = 1 ∧ A = [] ∧ O = [] := by
  rcases h with ⟨_, h1, h2, h3⟩ | ⟨h, _⟩ | ⟨h, _⟩
  · exact ⟨h1, h2, h3⟩
  · exact absurd hb h
  · exact absurd hb h
theorem scP_upto (s : List UInt8) (c : UInt8) : scP s c = upto (fun i => mu (co s i) c) s.length := rfl

theorem below_new9 {w w' : World} {o : Obj} (h : (w.alloc o).grownBy w' (some w.heap.size)) : Below w.heap.size w w' :=
  ((Below.refl _ _).alloc (Nat.le_refl _) o).grown h (by simp) (fun k e => by cases e; exact Nat.le_refl _)
theorem own_new9 (w : World) (e : TypeId) : (w.alloc (.cells #[] e)).ownsRow w.heap.size e 1 (.slice (some ⟨w.heap.size, 0, none⟩) 0 0) 0 [] := World.ownsRow_made w #[] 0 (Nat.le_refl _) (Nat.zero_le _) rfl
theorem own_block9 (b n c : Nat) : (Value.slice (some ⟨b, 0, none⟩) n c).ownBlock = some b := rfl
theorem rd_two9 {w : World} {N e : Nat} {v : Value} {p q : List UInt8} (h : w.ownsRow N e 1 v (0 + p.length + q.length) ([] ++ p.map vb ++ q.map vb)) : Rd w v (p ++ q) := by
  refine Rd.owned (base := N) (e := e) ?_
  rw [List.length_append, List.map_append]
  rw [Nat.zero_add, List.nil_append] at h
  exact h
theorem below_own9 {w0 w w' : World} {N e n : Nat} {v : Value} {xs : List Value} (hB : Below N w0 w) (hN : N ≤ w.heap.size) (h : w.ownsRow N e 1 v n xs) (hg : w.grownBy w' v.ownBlock) : Below N w0 w' :=
  hB.grown hg hN (fun k hk => (World.ownsRow.lt h k hk).1)

/-- what 'KeyeqFinds' asks of each point -/
theorem find_back {s pts ks bs zs : List UInt8} (hs : SyOf s pts ks bs zs) (hm : 2 * pts.length + ks.length ≤ s.length)
    (hd : ∀ i j, i < pts.length + ks.length → j < pts.length + ks.length → i ≠ j → co (pts ++ ks) i ≠ co (pts ++ ks) j) {j : Nat} (hj : j < pts.length + ks.length) :
    mu (evP (evaL s (locL ks) pts.length (locF (co (pts ++ ks)) pts.length)) (co (pts ++ ks) j)) (iv (evP (derP (mulP (locL pts) (locL ks))) (co (pts ++ ks) j))) = co (bs ++ zs) j ∧ evP (derP (mulP (locL pts) (locL ks))) (co (pts ++ ks) j) ≠ 0 := by
  have hne := find_ne hd hj
  rw [find_der pts ks hj, find_eva hs hm hj, mu_assoc, mu_iv hne, mu_one]
  exact ⟨rfl, hne⟩
theorem unlike_all {p k : List UInt8} (h1 : ∀ i j, i < p.length → j < i → co p i ≠ co p j) (h2 : ∀ i j, i < p.length → j < k.length → co p i ≠ co k j) (h3 : ∀ i j, i < k.length → j < i → co k i ≠ co k j) :
    ∀ i j, i < p.length + k.length → j < p.length + k.length → i ≠ j → co (p ++ k) i ≠ co (p ++ k) j := by
  have low : ∀ i j, i < p.length + k.length → j < i → co (p ++ k) i ≠ co (p ++ k) j := fun i j hi hj => by
    rcases Nat.lt_or_ge i p.length with a | a
    · rw [co_append_lt a, co_append_lt (by omega)]; exact h1 i j a hj
    · rw [co_append_ge a]
      rcases Nat.lt_or_ge j p.length with c | c
      · rw [co_append_lt c]; exact fun e => h2 j (i - p.length) c (by omega) e.symm
      · rw [co_append_ge c]; exact h3 _ _ (by omega) (by omega)
  intro i j hi hj hne
  rcases Nat.lt_or_ge j i with a | a
  · exact low i j hi a
  · exact fun e => low j i hj (by omega) e.symm

end Go.Proofs.Ytlbachgbeefhcaa.Gf

/-
  THE PROGRAM's POLYNOMIALS BY CONTRACT: all of them.
-/

