/- TEXTS JOINED: ArShow, ReSnap, ReOL, ReConv, ReBel, ReGrM. -/
import Derived.Test.YtgahaebfgmbckaaGreatTome26
import Derived.Laws.IdiomStrings
namespace Go.Proofs.YtgahaebfgmbckaaGreat.Gf
set_option linter.unusedVariables false
set_option linter.unusedSimpArgs false
open Go.RowKit
section
variable {u1 w : World} {ab rb : Nat} {G HR : Nat → Prop} {a : ArS}
set_option maxRecDepth 100000 in
set_option maxHeartbeats 4000000 in
theorem showsA_any (h : BothA u1 w ab rb G HR a) : Calls Tryz.prog 9 #[.pointer (some ⟨ab, 0, none⟩), .pointer (some ⟨rb, 0, none⟩)] w fun e w' => e = .returned (.bool true) ∧ BothA u1 w' ab rb G HR a := by
  have ok : Hid a.Ok := h.D.at_.ok
  have d2 : a.D.length ≤ 32 := ok.out.d2
  have START : Hid (BothA u1 w ab rb G HR a) := h
  clear h
  go_enter Tryz.func9, Tryz.ntmps9
  go_wp2
  go_loopw [5] (fun i wr => ∃ k : Nat, k ≤ a.D.length ∧ i = .int .i64 (k : Int) ∧ BothA u1 wr ab rb G HR a) (fun i _ => a.D.length - (intOf i).toNat)
  case atStart => exact ⟨0, Nat.zero_le _, rfl, START.out⟩
  case round =>
    clear START
    obtain ⟨k, hk, rfl, hB⟩ := hrel
    obtain ⟨xb, yb, cx, cy, rd, hM, _⟩ := hB.R
    by_cases hlt : k < a.D.length
    · have hlt' : (k : Int) < (a.D.length : Int) := by omega
      have g1 : IntKind.i64.wrap ((k : Int) + 1) = ((k + 1 : Nat) : Int) := by rw [IntKind.wrap_i64]; omega
      have hfl := held_few ok.out hlt (a.D.getD k default).last
      have hfw := held_few ok.out hlt (a.D.getD k default).wait
      obtain ⟨vl, vw, Tl, Tw, hI⟩ := hM.dk k hlt
      have SA : Hid (∀ W, Below wr.heap.size wr W → (W.cell? ⟨rb, 0, none⟩ = some (.slice (some ⟨xb, 0, none⟩) a.D.length cx) ∧ W.cell? ⟨xb, k, none⟩ = some (.pointer (some ⟨rd k, 0, none⟩)) ∧ W.cell? ⟨rd k, 1, none⟩ = some vl) ∧ W.cell? ⟨rd k, 2, none⟩ = some vw ∧ RdH W vl (heldL (a.D.getD k default).last (a.D.getD k default).s) ∧ RdH W vw (heldL (a.D.getD k default).wait (a.D.getD k default).s)) := fun W hW => by
        have hM2 := hM.below hW
        have hI2 := hI.below hW
        exact ⟨⟨hM2.c0, hM2.x k hlt, hI2.c1⟩, hI2.c2, ⟨Tl, hI2.el, hI2.tl.rd⟩, ⟨Tw, hI2.ew, hI2.tw.rd⟩⟩
      have s0 := SA.out wr (Below.refl _ _)
      have c0 := s0.1.1
      have bD : Below wr.heap.size wr wr.drew := (Below.refl _ _).drew
      have h3 := hB.below bD
      have s3 := SA.out _ bD
      clear hM hI
      go_wp2_with fail
      go_region_held3 (fun wx => wx.cell? ⟨rb, 0, none⟩ = some (.slice (some ⟨xb, 0, none⟩) a.D.length cx) ∧ wx.cell? ⟨xb, k, none⟩ = some (.pointer (some ⟨rd k, 0, none⟩)) ∧ wx.cell? ⟨rd k, 1, none⟩ = some vl) (first | exact s0.1 | exact s3.1 | exact s6.1 | exact s5.1) (first
        | (go_at_call 22; go_loud (refine (alasts_at h3.D.at_ hlt).mono ?_); rintro _ v5 ⟨x5, rfl, O5, C5⟩; have h5 := h3.below C5; have B5 := bD.step12 C5 bD.size; have s5 := SA.out _ B5; have r5 := OwnH.rdA O5 hfl)
        | (go_at_call 21; go_loud (refine (same12_is r5 s5.2.2.1 (decide_eq_true rfl)).mono ?_); rintro _ v6 ⟨rfl, nq6, hq6⟩; have C6 : Below v5.heap.size v5 v6 := (by rw [hq6]; exact (Below.refl _ _).drewN _); clear hq6; have h6 := h5.below C6; have B6 := B5.step12 C6 B5.size; have s6 := SA.out _ B6))
      clear h3 s0 s3 s5 r5 O5 C5 C6 h5 B5 c0 bD
      have bD : Below v6.heap.size v6 v6.drew := (Below.refl _ _).drew
      have h7 := h6.below bD
      have B7 := B6.step12 bD B6.size
      have s7 := SA.out _ B7
      go_wp2_with fail
      go_region_held3 (fun wx => wx.cell? ⟨rb, 0, none⟩ = some (.slice (some ⟨xb, 0, none⟩) a.D.length cx) ∧ wx.cell? ⟨xb, k, none⟩ = some (.pointer (some ⟨rd k, 0, none⟩)) ∧ wx.cell? ⟨rd k, 2, none⟩ = some vw) (first | exact ⟨s6.1.1, s6.1.2.1, s6.2.1⟩ | exact ⟨s7.1.1, s7.1.2.1, s7.2.1⟩ | exact ⟨s9.1.1, s9.1.2.1, s9.2.1⟩ | exact ⟨s8.1.1, s8.1.2.1, s8.2.1⟩) (first
        | (go_at_call 23; go_loud (refine (awaits_at h7.D.at_ hlt).mono ?_); rintro _ v8 ⟨x8, rfl, O8, C8⟩; have h8 := h7.below C8; have B8 := B7.step12 C8 B7.size; have s8 := SA.out _ B8; have r8 := OwnH.rdA O8 hfw)
        | (go_at_call 21; go_loud (refine (same12_is r8 s8.2.2.2 (decide_eq_true rfl)).mono ?_); rintro _ v9 ⟨rfl, nq9, hq9⟩; have C9 : Below v8.heap.size v8 v9 := (by rw [hq9]; exact (Below.refl _ _).drewN _); clear hq9; have h9 := h8.below C9; have B9 := B8.step12 C9 B8.size; have s9 := SA.out _ B9))
      have E9 : Hid _ := h9
      clear h6 s6 B6 h7 s7 B7 s8 r8 O8 C8 C9 h8 B8 h9 B9 s9 bD SA hB
      go_wp2
      go_roundw
      case rel => exact ⟨k + 1, by omega, by go_num, E9.out⟩
      case measure => simp [intOf]; omega
    · have hlt' : ¬ (k : Int) < (a.D.length : Int) := by omega
      have c0 := hM.c0
      have hn0 : a.D.length ≠ 0 := by have := ok.out.d1; omega
      go_wp2_with fail
      refine (alive_any hB.D.at_).mono ?_
      rintro _ v2 ⟨g2, rfl, R2, _, C2⟩
      have h2 := hB.below C2
      clear hB hM c0
      go_wp2_with fail
      refine (rliveA_any h2.R).mono ?_
      rintro _ v3 ⟨xv, rfl, O3, C3⟩
      have h3 := h2.below C3
      have R3 := R2.of_block (C3.block g2 R2.lt)
      obtain ⟨g3, c3, e3, _, o3⟩ := owns_formD O3 hn0
      subst e3
      clear O3 C3 h2 R2 C2
      have KB := @abools_eq v3 g2 g3 a.D.length a.D.length c3 (fun i => !(a.D.getD i default).dead) (fun i hi => R3.cell hi) (fun i hi => by rw [World.ownsRow.cellAt o3 i (by omega)]; simp [lvF, hi]) (by omega)
      go_wp2_with fail
      refine KB.mono ?_
      rintro _ v4 ⟨rfl, n4, hq4⟩
      have C4 : Below v3.heap.size v3 v4 := by rw [hq4]; exact (Below.refl _ _).drewN _
      have h4 := h3.below C4
      clear C4 h3 R3 o3 KB hq4
      obtain ⟨xb, yb, cx, cy, rd, hM, _⟩ := h4.R
      have SB : Hid (∀ W, Below v4.heap.size v4 W → W.cell? ⟨rb, 1, none⟩ = some (.slice (some ⟨yb, 0, none⟩) a.D.length cy) ∧ ∀ i, i < a.D.length → W.cell? ⟨yb, i, none⟩ = some (.int .i64 (a.B.getD i 0))) := fun W hW => ⟨(hM.below hW).c1, (hM.below hW).y⟩
      have SC : Hid (∀ W, Below v4.heap.size v4 W → W.cell? ⟨rb, 3, none⟩ = some (.bool a.off) ∧ W.cell? ⟨rb, 0, none⟩ = some (.slice (some ⟨xb, 0, none⟩) a.D.length cx)) := fun W hW => ⟨(hM.below hW).c3, (hM.below hW).c0⟩
      have bD : Below v4.heap.size v4 v4.drew := (Below.refl _ _).drew
      have h5 := h4.below bD
      have s4 := (SB.out v4 (Below.refl _ _)).1
      have s5 := (SB.out _ bD).1
      clear hM
      go_wp2_with fail
      go_region_held3 (fun wx => wx.cell? ⟨rb, 1, none⟩ = some (.slice (some ⟨yb, 0, none⟩) a.D.length cy)) (first | exact s4 | exact s5 | exact s7 | exact s6) (first
        | (go_at_call 28; go_loud (refine (abirths_any h5.D.at_).mono ?_); rintro _ v6 ⟨g6, rfl, R6, _, C6⟩; have h6 := h5.below C6; have B6 := bD.step12 C6 bD.size; have q6 := SB.out _ B6; have s6 := q6.1)
        | (go_at_call 27; go_loud (refine (@aints_eq v6 g6 yb a.D.length a.D.length cy (fun i => a.B.getD i 0) (fun i hi => R6.cell hi) q6.2 (by omega)).mono ?_); rintro _ v7 ⟨rfl, nq7, hq7⟩; have C7 : Below v6.heap.size v6 v7 := (by rw [hq7]; exact (Below.refl _ _).drewN _); clear hq7; have h7 := h6.below C7; have B7 := B6.step12 C7 B6.size; have s7 := (SB.out _ B7).1))
      clear h4 h5 bD s4 s5 h6 B6 q6 s6 R6 C6 C7 s7 SB
      have bD : Below v7.heap.size v7 v7.drew := (Below.refl _ _).drew
      have h8 := h7.below bD
      have s7 := SC.out v7 B7
      have s8 := SC.out _ (B7.step12 bD B7.size)
      have no1 : ¬ thA a (-1) := fun h => by have := h.1; omega
      have no2 : ¬ thA a (a.D.length : Int) := fun h => by have := h.2; omega
      have FIN : Hid (BothA u1 v7.drew ab rb G HR a) := h8
      obtain ⟨x, hx⟩ : ∃ x, Hid (a.off = x) := ⟨_, rfl⟩
      rw [hx.out] at s7 s8
      have KD := adown_is h8.D.at_ hx.out
      have KL := alasts_no h8.D.at_ no1
      have KW := awaits_no h8.D.at_ no2
      clear SC B7 h7 h8 bD no1 no2
      cases x
      · go_wp2_with fail
        go_region_held3 (fun wx => wx.cell? ⟨rb, 3, none⟩ = some (.bool false) ∧ wx.cell? ⟨rb, 0, none⟩ = some (.slice (some ⟨xb, 0, none⟩) a.D.length cx)) (first | exact s7 | exact s8) (first
          | (go_at_call 29; go_loud (refine KD.mono ?_); rintro _ v9 ⟨rfl, hq⟩; rw [hq]; clear hq v9)
          | (go_at_call 22; go_loud (refine KL.mono ?_); rintro _ v9 ⟨rfl, hq⟩; rw [hq]; clear hq v9)
          | (go_at_call 23; go_loud (refine KW.mono ?_); rintro _ v9 ⟨rfl, hq⟩; rw [hq]; clear hq v9))
        clear KD KL KW s7 s8
        go_wp2
        go_ret
        exact ⟨rfl, FIN.out⟩
      · go_wp2_with fail
        go_region_held3 (fun wx => wx.cell? ⟨rb, 3, none⟩ = some (.bool true) ∧ wx.cell? ⟨rb, 0, none⟩ = some (.slice (some ⟨xb, 0, none⟩) a.D.length cx)) (first | exact s7 | exact s8) (first
          | (go_at_call 29; go_loud (refine KD.mono ?_); rintro _ v9 ⟨rfl, hq⟩; rw [hq]; clear hq v9)
          | (go_at_call 22; go_loud (refine KL.mono ?_); rintro _ v9 ⟨rfl, hq⟩; rw [hq]; clear hq v9)
          | (go_at_call 23; go_loud (refine KW.mono ?_); rintro _ v9 ⟨rfl, hq⟩; rw [hq]; clear hq v9))
        clear KD KL KW s7 s8
        go_wp2
        go_ret
        exact ⟨rfl, FIN.out⟩
end
end Go.Proofs.YtgahaebfgmbckaaGreat.Gf

namespace Go.Proofs.YtgahaebfgmbckaaGreat.Gf
set_option linter.unusedVariables false
set_option linter.unusedSimpArgs false
open Go.RowKit
/-- b stands above a -/
def upK (a b : List UInt8) : Bool := !(Op.bytesLess b a || b == a)
end Go.Proofs.YtgahaebfgmbckaaGreat.Gf

namespace Go.Proofs.YtgahaebfgmbckaaGreat.Gf
set_option linter.unusedVariables false
set_option linter.unusedSimpArgs false
open Go.RowKit
/-- the order of keys is whole -/
theorem lessK (a b : List UInt8) : Op.bytesLess a b = upK a b := by
  unfold upK
  induction a generalizing b with
  | nil =>
    cases b with
    | nil => rfl
    | cons y b => rfl
  | cons x a ih =>
    cases b with
    | nil => rfl
    | cons y b =>
      unfold Op.bytesLess
      rw [ih b]
      by_cases e : x = y
      · subst e
        simp
      · have e' : ¬ y = x := fun q => e q.symm
        by_cases l : x < y
        · have l' : ¬ y < x := fun q => by have := UInt8.lt_asymm l; exact this q
          simp [e, e', l, l']
        · have l' : y < x := by
            have h1 : x.toNat ≠ y.toNat := fun q => e (UInt8.toNat_inj.1 q)
            have h2 : ¬ x.toNat < y.toNat := fun q => l (UInt8.lt_iff_toNat_lt.2 q)
            exact UInt8.lt_iff_toNat_lt.2 (by omega)
          simp [e, e', l, l']
end Go.Proofs.YtgahaebfgmbckaaGreat.Gf

namespace Go.Proofs.YtgahaebfgmbckaaGreat.Gf
set_option linter.unusedVariables false
set_option linter.unusedSimpArgs false
open Go.RowKit
theorem conv_key (W : World) (y : List UInt8) (h : y.length ≤ maxLen) : ∃ c U, (convert 9 32 (.string ⟨y.toArray⟩)).run Tryz.prog W = .ok (.slice (some ⟨W.heap.size, 0, none⟩) y.length c) U ∧ Rd U (.slice (some ⟨W.heap.size, 0, none⟩) y.length c) y ∧ Below W.heap.size W U ∧ W.heap.size < U.heap.size := by
  obtain ⟨c, hc⟩ : ∃ c, c = grownCap W y.length 0 5 := ⟨_, rfl⟩
  have r := run_bytes_of_string (P := Tryz.prog) W 9 32 5 ⟨y.toArray⟩ Tryz.underlying9 Tryz.underlying32 Tryz.underlying5
  have e : (⟨y.toArray⟩ : ByteArray).size = y.length := by show y.toArray.size = _; simp
  rw [e, ← hc] at r
  have c1 : y.length ≤ c := by rw [hc]; exact grownCap_ge _ _ _ _
  have c2 : c ≤ maxLen := by rw [hc]; exact grownCap_le_maxLen _ _ _ _ h
  have B : Below W.heap.size W (W.drew.alloc (.cells (bytesRow ⟨y.toArray⟩ c) 5 ((bytesRow ⟨y.toArray⟩ c).size, (bytesRow ⟨y.toArray⟩ c).size + 1))) := ((Below.refl _ W).drew).alloc (Nat.le_refl _) _
  have s : W.heap.size < (W.drew.alloc (.cells (bytesRow ⟨y.toArray⟩ c) 5 ((bytesRow ⟨y.toArray⟩ c).size, (bytesRow ⟨y.toArray⟩ c).size + 1))).heap.size := by
    show W.heap.size < (W.heap.push _).size
    rw [Array.size_push]; exact Nat.lt_succ_self _
  refine ⟨c, _, r, ?_, B, s⟩
  by_cases h0 : y = []
  · subst h0
    exact Or.inl ⟨_, c, rfl, rfl, c2, fun q => by cases q⟩
  · refine Or.inr ⟨W.heap.size, 0, c, h0, rfl, c1, c2, s, fun i hi => ?_⟩
    rw [Nat.zero_add]
    refine (World.cell?_alloc_mark W.drew _ _ _ i).trans ?_
    have hi' : i < y.toArray.size := by simpa using hi
    rw [bytesRow_at ⟨y.toArray⟩ c i hi']
    have : (⟨y.toArray⟩ : ByteArray).data[i] = co y i := by
      show y.toArray[i] = co y i
      unfold co
      simp [List.getD_eq_getElem?_getD, List.getElem?_eq_getElem hi]
    rw [this]
theorem conv_str16 {w : World} {v : Value} {p : List UInt8} (h : Rd w v p) : (convert 32 9 v).run Tryz.prog w = .ok (.string ⟨p.toArray⟩) w := by
  rcases h with ⟨ao, cap, rfl, rfl, _, _⟩ | ⟨b, off, cap, h0, rfl, h1, h2, h3, h4⟩
  · rw [run_convert_bytes_string w 32 9 5 ao 0 cap Tryz.underlying32 Tryz.underlying5 Tryz.underlying9]
    cases ao with
    | none => simp [Conv.bytesToString]; rfl
    | some a => 
      have hl := run_loadCells_list (P := Tryz.prog) w a [] (fun j v hj => by simp at hj)
      rw [run_bytesToString w a 0 cap [] hl]
      rfl
  · refine run_convert_bytes_back w 32 9 5 ⟨b, off, none⟩ cap p Tryz.underlying32 Tryz.underlying5 Tryz.underlying9 (fun j hj => ?_)
    rw [add_at, h4 j hj]
    have : co p j = p[j] := by
      unfold co
      simp [List.getD_eq_getElem?_getD, List.getElem?_eq_getElem hj]
    rw [this]
end Go.Proofs.YtgahaebfgmbckaaGreat.Gf

namespace Go.Proofs.YtgahaebfgmbckaaGreat.Gf
set_option linter.unusedVariables false
set_option linter.unusedSimpArgs false
open Go.RowKit
theorem belR (w : World) (o : Obj) : Below w.heap.size w (w.alloc o) := (Below.refl _ _).alloc (Nat.le_refl _) o
theorem _root_.Go.RowKit.Below.step16 {B : Nat} {a b c : World} (h : Below B a b) (k : Below b.heap.size b c) (hB : B ≤ b.heap.size) : Below B a c := h.trans (k.mono hB)
end Go.Proofs.YtgahaebfgmbckaaGreat.Gf

namespace Go.Proofs.YtgahaebfgmbckaaGreat.Gf
set_option linter.unusedVariables false
set_option linter.unusedSimpArgs false
open Go.RowKit
structure Gro (w : World) (v : Value) (w' : World) (v' : Value) : Prop where
  gr : w.grownBy w' v.ownBlock
  pl : v'.ownBlock = v.ownBlock ∨ ∃ k, v'.ownBlock = some k ∧ w.heap.size ≤ k
theorem Gro.of {w w' : World} {v v' : Value} (h : w.grownBy w' v.ownBlock) (k : v'.ownBlock = v.ownBlock ∨ v'.ownBlock = some w.heap.size) : Gro w v w' v' :=
  ⟨h, k.imp id fun e => ⟨_, e, Nat.le_refl _⟩⟩
theorem Gro.trans {a b c : World} {u v x : Value} (h : Gro a u b v) (k : Gro b v c x) : Gro a u c x := by
  refine ⟨⟨k.gr.os.trans h.gr.os, k.gr.tape.trans h.gr.tape, k.gr.output.trans h.gr.output, Nat.le_trans h.gr.size k.gr.size, fun i hi hne => ?_⟩, ?_⟩
  · refine (k.gr.block i (Nat.lt_of_lt_of_le hi h.gr.size) fun e => ?_).trans (h.gr.block i hi hne)
    rcases h.pl with q | ⟨j, q, hj⟩
    · exact hne (e.trans q)
    · rw [q] at e
      simp at e
      omega
  · rcases k.pl with q | ⟨j, q, hj⟩
    · rcases h.pl with r | ⟨j, r, hj⟩
      · exact Or.inl (q.trans r)
      · exact Or.inr ⟨j, q.trans r, hj⟩
    · exact Or.inr ⟨j, q, Nat.le_trans h.gr.size hj⟩
theorem Gro.bel {w w' : World} (v : Value) (h : Below w.heap.size w w') : Gro w v w' v := ⟨⟨h.os, h.tape, h.output, h.size, fun k hk _ => h.block k hk⟩, Or.inl rfl⟩
theorem Gro.cell {w w' : World} {v v' : Value} (h : Gro w v w' v') {p : Addr} (hp : p.block < w.heap.size) (hn : v.ownBlock ≠ some p.block) : w'.cell? p = w.cell? p := World.cell?_of_block (w := w) (h.gr.block p.block hp fun e => hn e.symm)
theorem Gro.ne {w w' : World} {v v' : Value} (h : Gro w v w' v') {b : Nat} (hb : b < w.heap.size) (hn : v.ownBlock ≠ some b) : v'.ownBlock ≠ some b := by
  rcases h.pl with q | ⟨j, q, hj⟩
  · rw [q]; exact hn
  · rw [q]; intro e; simp at e; omega
end Go.Proofs.YtgahaebfgmbckaaGreat.Gf
