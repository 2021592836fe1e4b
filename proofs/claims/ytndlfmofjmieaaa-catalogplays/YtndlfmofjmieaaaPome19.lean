/- TEXTS JOINED: CtRefD. -/
import Derived.Test.YtndlfmofjmieaaaPome18
namespace Go.Proofs.Ytndlfmofjmieaaa.Gf
set_option linter.unusedVariables false
set_option linter.unusedSimpArgs false
open Go.RowKit
def With19 (w : World) (LV : List ObV) (c : ObV) (e : Ending) (w' : World) : Prop := ∃ v M, e = .returned v ∧ OwnOb w' 0 v M ∧ (∀ q, v.ownBlock = some q → w.heap.size ≤ q) ∧ oL M = wiC (oL LV) c.o ∧ (∀ x ∈ M, x ∈ LV ∨ x = c) ∧ Below w.heap.size w w'
/-- what the three appends ask -/
theorem with_fin {w W wx : World} {LV TL TR : List ObV} {c : ObV} (h1 : w.heap.size ≤ W.heap.size) (BW : Below w.heap.size w wx) (hs : W.heap.size ≤ wx.heap.size) (EQ : oL (((([] : List ObV) ++ TL) ++ [c]) ++ TR) = wiC (oL LV) c.o) (ML : ∀ x ∈ TL, x ∈ LV) (MR : ∀ x ∈ TR, x ∈ LV) :
    ∀ (v3 : Value) (w3 : World), OwnOb w3 0 v3 (((([] : List ObV) ++ TL) ++ [c]) ++ TR) → (∀ k, v3.ownBlock = some k → wx.heap.size ≤ k) → Below wx.heap.size wx w3 → With19 w LV c (.returned v3) w3 := fun v3 w3 o q b =>
  ⟨v3, _, rfl, o, fun k e => by have := q k e; omega, EQ, fun x hx => by
    rcases List.mem_append.1 hx with hx | hx
    · rcases List.mem_append.1 hx with hx | hx
      · rw [List.nil_append] at hx
        exact Or.inl (ML x hx)
      · exact Or.inr (by simpa using hx)
    · exact Or.inl (MR x hx), BW.step16 b BW.size⟩
theorem wl_lastN {p : Prop} (h : p := by
  refine koH hK (SF.out _ b3) fun hHeld => ?_
  clear hK K' hHeld
  refine rnH 9 (fun K' hK => ?_)
  refine step_append_obs rfl (.tmp 47) (.tmp 48) rfl 0 v2 (([] ++ TL) ++ [⟨⟨ky, ln, ep, st⟩, .slice sa st.length sc⟩]) rfl o2 (.slice none 0 0) TR rfl (HTR.out.below b3) CAPR.out (fun c hc => near_old19 (INR.out c hc) b3.size q3) (by have := LENS.out; simp; omega) (Nat.zero_le _) ?_
  intro v3 w3 o3 g3
  obtain ⟨b4, q4⟩ := ob19_after b3 q3 g3
  refine koH hK (SF.out _ b4) fun hHeld => ?_
  clear hK K'
  refine tkH 10 ?_
  refine wpAnyH_done (by kernel_rfl) ?_ _
  have F := FIN.out v3 w3 o3 q4 b4
  clear hHeld g3 o3 q4 b4 o2 b3 q3 SF FIN
  go_wp2
  go_ret
  exact F) : p := h
theorem wi_lastN {p : Prop} (h : p := by
  refine wp_region_held_drew (S := fun V => V.cell? ⟨w.heap.size, 0, none⟩ = some (.string ⟨ky.toArray⟩) ∧ V.cell? ⟨w.heap.size, 1, none⟩ = some (.int .i64 ln) ∧ V.cell? ⟨w.heap.size, 2, none⟩ = some (.int .i64 ep) ∧ V.cell? ⟨w.heap.size, 3, none⟩ = some (.slice sa st.length sc)) (by kernel_rfl) (SF.out _ ((Below.refl _ _).drew)) (fun hHeld => ?_)
  refine tkH 1 ?_
  refine tkH 2 ?_
  refine tkH 3 ?_
  refine tkH 5 ?_
  refine tkH 8 ?_
  clear hHeld
  refine rmH 0 6 (fun K' hK => ?_) fun K' hK => ?_
  · have bA : Below wx.heap.size wx (wx.alloc (.cells #[] 52)).drew := (belR _ _).drew
    have oA : OwnOb (wx.alloc (.cells #[] 52)).drew 0 (.slice (some ⟨wx.heap.size, 0, none⟩) 0 0) [] := (made_ob wx (Nat.zero_le _)).later ((Below.refl _ _).drew)
    have qA := own_at19 (n := 0) (c := 0) (Nat.le_refl wx.heap.size)
    go_simp
    refine koH hK (SF.out _ bA) fun hHeld => ?_
    clear hK K' hHeld
    refine rmH 4 6 (fun K' hK => ?_) fun K' hK => ?_
    · refine step_append_obs rfl (.tmp 40) (.tmp 43) rfl 0 (.slice (some ⟨wx.heap.size, 0, none⟩) 0 0) [] rfl oA (.slice none 0 0) TL rfl (HTL.out.below bA) CAPL.out (fun c hc => near_old19 (INL.out c hc) bA.size qA) (by have := LENS.out; simp; omega) (Nat.zero_le _) ?_
      intro v1 w1 o1 g1
      obtain ⟨b1, q1⟩ := ob19_after bA qA g1
      refine koH hK (SF.out _ b1) fun hHeld => ?_
      clear hK K' hHeld oA bA g1 qA
      have bl : Below w1.heap.size w1 (w1.alloc (.cells #[.string ⟨ky.toArray⟩, .int .i64 ln, .int .i64 ep, .slice sa st.length sc] 52)) := belR _ _
      have b2 := b1.step16 bl b1.size
      refine rnH 6 (fun K' hK => ?_)
      go_simp
      refine koH hK (SF.out _ b2) fun hHeld => ?_
      clear hK K' hHeld
      have ol := lit_ob w1 (c := ⟨⟨ky, ln, ep, st⟩, .slice sa st.length sc⟩) (INB.out w1 b1)
      refine rnH 7 (fun K' hK => ?_)
      refine step_append_obs rfl (.tmp 44) (.tmp 46) rfl 0 v1 ([] ++ TL) rfl (o1.later bl) (.slice (some ⟨w1.heap.size, 0, none⟩) 1 1) [⟨⟨ky, ln, ep, st⟩, .slice sa st.length sc⟩] rfl ol (CapO.some (Nat.le_refl _)) (fun c hc => by simp only [List.mem_singleton] at hc; rw [hc]; exact near_old19 (INB.out wx (Below.refl _ _)) b2.size q1) (by have := LENS.out; simp; omega) (Nat.zero_le _) ?_
      intro v2 w2 o2 g2
      obtain ⟨b3, q3⟩ := ob19_after b2 q1 g2
      clear g2 q1 ol o1 b1 b2 bl
      exact wl_lastN
    · have b2 : Below wx.heap.size wx ((wx.alloc (.cells #[] 52)).alloc (.cells #[.string ⟨ky.toArray⟩, .int .i64 ln, .int .i64 ep, .slice sa st.length sc] 52)).drew := ((belR _ _).step16 (belR _ _) (by simp)).drew
      have o2' : OwnOb ((wx.alloc (.cells #[] 52)).alloc (.cells #[.string ⟨ky.toArray⟩, .int .i64 ln, .int .i64 ep, .slice sa st.length sc] 52)).drew 0 (.slice (some ⟨wx.heap.size, 0, none⟩) 0 0) [] := ((made_ob wx (Nat.zero_le _)).later (belR _ _)).later ((Below.refl _ _).drew)
      have ol : RdO ((wx.alloc (.cells #[] 52)).alloc (.cells #[.string ⟨ky.toArray⟩, .int .i64 ln, .int .i64 ep, .slice sa st.length sc] 52)).drew (.slice (some ⟨wx.heap.size + 1, 0, none⟩) 1 1) [⟨⟨ky, ln, ep, st⟩, .slice sa st.length sc⟩] := by
        have h := (lit_ob (wx.alloc (.cells #[] 52)) (c := ⟨⟨ky, ln, ep, st⟩, .slice sa st.length sc⟩) (INB.out _ (belR _ _))).below ((Below.refl _ _).drew)
        rw [show (wx.alloc (.cells #[] 52)).heap.size = wx.heap.size + 1 by simp] at h
        exact h
      have nl : ∀ c ∈ [(⟨⟨ky, ln, ep, st⟩, .slice sa st.length sc⟩ : ObV)], NearR 0 ((wx.alloc (.cells #[] 52)).alloc (.cells #[.string ⟨ky.toArray⟩, .int .i64 ln, .int .i64 ep, .slice sa st.length sc] 52)).drew.heap.size (.slice (some ⟨wx.heap.size, 0, none⟩) 0 0) c.vs := fun c hc => by simp only [List.mem_singleton] at hc; rw [hc]; exact near_old19 (INB.out wx (Below.refl _ _)) b2.size qA
      clear oA bA
      go_simp
      refine koH hK (SF.out _ b2) fun hHeld => ?_
      clear hK K' hHeld
      refine rnH 4 (fun K' hK => ?_)
      refine step_append_obs rfl (.tmp 40) (.tmp 43) rfl 0 (.slice (some ⟨wx.heap.size, 0, none⟩) 0 0) [] rfl o2' (.slice none 0 0) TL rfl (HTL.out.below b2) CAPL.out (fun c hc => near_old19 (INL.out c hc) b2.size qA) (by have := LENS.out; simp; omega) (Nat.zero_le _) ?_
      intro v1 w1 o1 g1
      obtain ⟨b1, q1⟩ := ob19_after b2 qA g1
      have ol1 := ol.gro19 g1 (fun b off n c e => by simp at e; obtain ⟨⟨rfl, rfl⟩, rfl, rfl⟩ := e; rw [own_mk19]; exact Or.inr (by simp)) nl
      refine koH hK (SF.out _ b1) fun hHeld => ?_
      clear hK K' hHeld o2' g1 qA ol nl b2
      refine rnH 7 (fun K' hK => ?_)
      refine step_append_obs rfl (.tmp 44) (.tmp 46) rfl 0 v1 ([] ++ TL) rfl o1 (.slice (some ⟨wx.heap.size + 1, 0, none⟩) 1 1) [⟨⟨ky, ln, ep, st⟩, .slice sa st.length sc⟩] rfl ol1 (CapO.some (Nat.le_refl _)) (fun c hc => by simp only [List.mem_singleton] at hc; rw [hc]; exact near_old19 (INB.out wx (Below.refl _ _)) b1.size q1) (by have := LENS.out; simp; omega) (Nat.zero_le _) ?_
      intro v2 w2 o2 g2
      obtain ⟨b3, q3⟩ := ob19_after b1 q1 g2
      clear g2 q1 ol1 o1 b1
      exact wl_lastN
  · have b2 : Below wx.heap.size wx ((wx.alloc (.cells #[.string ⟨ky.toArray⟩, .int .i64 ln, .int .i64 ep, .slice sa st.length sc] 52)).alloc (.cells #[] 52)).drew := ((belR _ _).step16 (belR _ _) (by simp)).drew
    have bA : Below wx.heap.size wx (wx.alloc (.cells #[.string ⟨ky.toArray⟩, .int .i64 ln, .int .i64 ep, .slice sa st.length sc] 52)).drew := (belR _ _).drew
    have qA := own_at19 (n := 0) (c := 0) (Nat.le_succ wx.heap.size)
    have o2' : OwnOb ((wx.alloc (.cells #[.string ⟨ky.toArray⟩, .int .i64 ln, .int .i64 ep, .slice sa st.length sc] 52)).alloc (.cells #[] 52)).drew 0 (.slice (some ⟨wx.heap.size + 1, 0, none⟩) 0 0) [] := by
      have h := (made_ob (wx.alloc (.cells #[.string ⟨ky.toArray⟩, .int .i64 ln, .int .i64 ep, .slice sa st.length sc] 52)) (base := 0) (Nat.zero_le _)).later ((Below.refl _ _).drew)
      rw [show (wx.alloc (.cells #[.string ⟨ky.toArray⟩, .int .i64 ln, .int .i64 ep, .slice sa st.length sc] 52)).heap.size = wx.heap.size + 1 by simp] at h
      exact h
    have ol : RdO ((wx.alloc (.cells #[.string ⟨ky.toArray⟩, .int .i64 ln, .int .i64 ep, .slice sa st.length sc] 52)).alloc (.cells #[] 52)).drew (.slice (some ⟨wx.heap.size, 0, none⟩) 1 1) [⟨⟨ky, ln, ep, st⟩, .slice sa st.length sc⟩] := ((lit_ob wx (c := ⟨⟨ky, ln, ep, st⟩, .slice sa st.length sc⟩) (INB.out wx (Below.refl _ _))).below (belR _ _)).below ((Below.refl _ _).drew)
    have nl : ∀ c ∈ [(⟨⟨ky, ln, ep, st⟩, .slice sa st.length sc⟩ : ObV)], NearR 0 ((wx.alloc (.cells #[.string ⟨ky.toArray⟩, .int .i64 ln, .int .i64 ep, .slice sa st.length sc] 52)).alloc (.cells #[] 52)).drew.heap.size (.slice (some ⟨wx.heap.size + 1, 0, none⟩) 0 0) c.vs := fun c hc => by simp only [List.mem_singleton] at hc; rw [hc]; exact near_old19 (INB.out wx (Below.refl _ _)) b2.size qA
    go_simp
    refine koH hK (SF.out _ bA) fun hHeld => ?_
    clear hK K' hHeld bA
    refine rnH 0 (fun K' hK => ?_)
    go_simp
    refine koH hK (SF.out _ b2) fun hHeld => ?_
    clear hK K' hHeld
    refine rnH 4 (fun K' hK => ?_)
    refine step_append_obs rfl (.tmp 40) (.tmp 43) rfl 0 (.slice (some ⟨wx.heap.size + 1, 0, none⟩) 0 0) [] rfl o2' (.slice none 0 0) TL rfl (HTL.out.below b2) CAPL.out (fun c hc => near_old19 (INL.out c hc) b2.size qA) (by have := LENS.out; simp; omega) (Nat.zero_le _) ?_
    intro v1 w1 o1 g1
    obtain ⟨b1, q1⟩ := ob19_after b2 qA g1
    have ol1 := ol.gro19 g1 (fun b off n c e => by simp at e; obtain ⟨⟨rfl, rfl⟩, rfl, rfl⟩ := e; rw [own_mk19]; exact Or.inr (by simp)) nl
    refine koH hK (SF.out _ b1) fun hHeld => ?_
    clear hK K' hHeld o2' g1 qA ol nl b2
    refine rnH 7 (fun K' hK => ?_)
    refine step_append_obs rfl (.tmp 44) (.tmp 46) rfl 0 v1 ([] ++ TL) rfl o1 (.slice (some ⟨wx.heap.size, 0, none⟩) 1 1) [⟨⟨ky, ln, ep, st⟩, .slice sa st.length sc⟩] rfl ol1 (CapO.some (Nat.le_refl _)) (fun c hc => by simp only [List.mem_singleton] at hc; rw [hc]; exact near_old19 (INB.out wx (Below.refl _ _)) b1.size q1) (by have := LENS.out; simp; omega) (Nat.zero_le _) ?_
    intro v2 w2 o2 g2
    obtain ⟨b3, q3⟩ := ob19_after b1 q1 g2
    clear g2 q1 ol1 o1 b1
    exact wl_lastN) : p := h
theorem wl_lastE {p : Prop} (h : p := by
  refine koH hK (SF.out _ b3) fun hHeld => ?_
  clear hK K' hHeld
  refine rnH 9 (fun K' hK => ?_)
  refine step_append_obs rfl (.tmp 47) (.tmp 48) rfl 0 v2 (([] ++ TL) ++ [⟨⟨ky, ln, ep, st⟩, .slice sa st.length sc⟩]) rfl o2 (.slice (some ⟨b, off + LV.length * 4, none⟩) 0 (vc - LV.length)) TR rfl (HTR.out.below b3) CAPR.out (fun c hc => near_old19 (INR.out c hc) b3.size q3) (by have := LENS.out; simp; omega) (Nat.zero_le _) ?_
  intro v3 w3 o3 g3
  obtain ⟨b4, q4⟩ := ob19_after b3 q3 g3
  refine koH hK (SF.out _ b4) fun hHeld => ?_
  clear hK K'
  refine tkH 10 ?_
  refine wpAnyH_done (by kernel_rfl) ?_ _
  have F := FIN.out v3 w3 o3 q4 b4
  clear hHeld g3 o3 q4 b4 o2 b3 q3 SF FIN
  go_wp2
  go_ret
  exact F) : p := h
theorem wi_lastE {p : Prop} (h : p := by
  refine wp_region_held_drew (S := fun V => V.cell? ⟨w.heap.size, 0, none⟩ = some (.string ⟨ky.toArray⟩) ∧ V.cell? ⟨w.heap.size, 1, none⟩ = some (.int .i64 ln) ∧ V.cell? ⟨w.heap.size, 2, none⟩ = some (.int .i64 ep) ∧ V.cell? ⟨w.heap.size, 3, none⟩ = some (.slice sa st.length sc)) (by kernel_rfl) (SF.out _ ((Below.refl _ _).drew)) (fun hHeld => ?_)
  refine tkH 1 ?_
  refine tkH 2 ?_
  refine tkH 3 ?_
  refine tkH 5 ?_
  refine tkH 8 ?_
  clear hHeld
  refine rmH 0 6 (fun K' hK => ?_) fun K' hK => ?_
  · have bA : Below wx.heap.size wx (wx.alloc (.cells #[] 52)).drew := (belR _ _).drew
    have oA : OwnOb (wx.alloc (.cells #[] 52)).drew 0 (.slice (some ⟨wx.heap.size, 0, none⟩) 0 0) [] := (made_ob wx (Nat.zero_le _)).later ((Below.refl _ _).drew)
    have qA := own_at19 (n := 0) (c := 0) (Nat.le_refl wx.heap.size)
    go_simp
    refine koH hK (SF.out _ bA) fun hHeld => ?_
    clear hK K' hHeld
    refine rmH 4 6 (fun K' hK => ?_) fun K' hK => ?_
    · refine step_append_obs rfl (.tmp 40) (.tmp 43) rfl 0 (.slice (some ⟨wx.heap.size, 0, none⟩) 0 0) [] rfl oA (.slice (some ⟨b, off, none⟩) LV.length vc) TL rfl (HTL.out.below bA) CAPL.out (fun c hc => near_old19 (INL.out c hc) bA.size qA) (by have := LENS.out; simp; omega) (Nat.zero_le _) ?_
      intro v1 w1 o1 g1
      obtain ⟨b1, q1⟩ := ob19_after bA qA g1
      refine koH hK (SF.out _ b1) fun hHeld => ?_
      clear hK K' hHeld oA bA g1 qA
      have bl : Below w1.heap.size w1 (w1.alloc (.cells #[.string ⟨ky.toArray⟩, .int .i64 ln, .int .i64 ep, .slice sa st.length sc] 52)) := belR _ _
      have b2 := b1.step16 bl b1.size
      refine rnH 6 (fun K' hK => ?_)
      go_simp
      refine koH hK (SF.out _ b2) fun hHeld => ?_
      clear hK K' hHeld
      have ol := lit_ob w1 (c := ⟨⟨ky, ln, ep, st⟩, .slice sa st.length sc⟩) (INB.out w1 b1)
      refine rnH 7 (fun K' hK => ?_)
      refine step_append_obs rfl (.tmp 44) (.tmp 46) rfl 0 v1 ([] ++ TL) rfl (o1.later bl) (.slice (some ⟨w1.heap.size, 0, none⟩) 1 1) [⟨⟨ky, ln, ep, st⟩, .slice sa st.length sc⟩] rfl ol (CapO.some (Nat.le_refl _)) (fun c hc => by simp only [List.mem_singleton] at hc; rw [hc]; exact near_old19 (INB.out wx (Below.refl _ _)) b2.size q1) (by have := LENS.out; simp; omega) (Nat.zero_le _) ?_
      intro v2 w2 o2 g2
      obtain ⟨b3, q3⟩ := ob19_after b2 q1 g2
      clear g2 q1 ol o1 b1 b2 bl
      exact wl_lastE
    · have b2 : Below wx.heap.size wx ((wx.alloc (.cells #[] 52)).alloc (.cells #[.string ⟨ky.toArray⟩, .int .i64 ln, .int .i64 ep, .slice sa st.length sc] 52)).drew := ((belR _ _).step16 (belR _ _) (by simp)).drew
      have o2' : OwnOb ((wx.alloc (.cells #[] 52)).alloc (.cells #[.string ⟨ky.toArray⟩, .int .i64 ln, .int .i64 ep, .slice sa st.length sc] 52)).drew 0 (.slice (some ⟨wx.heap.size, 0, none⟩) 0 0) [] := ((made_ob wx (Nat.zero_le _)).later (belR _ _)).later ((Below.refl _ _).drew)
      have ol : RdO ((wx.alloc (.cells #[] 52)).alloc (.cells #[.string ⟨ky.toArray⟩, .int .i64 ln, .int .i64 ep, .slice sa st.length sc] 52)).drew (.slice (some ⟨wx.heap.size + 1, 0, none⟩) 1 1) [⟨⟨ky, ln, ep, st⟩, .slice sa st.length sc⟩] := by
        have h := (lit_ob (wx.alloc (.cells #[] 52)) (c := ⟨⟨ky, ln, ep, st⟩, .slice sa st.length sc⟩) (INB.out _ (belR _ _))).below ((Below.refl _ _).drew)
        rw [show (wx.alloc (.cells #[] 52)).heap.size = wx.heap.size + 1 by simp] at h
        exact h
      have nl : ∀ c ∈ [(⟨⟨ky, ln, ep, st⟩, .slice sa st.length sc⟩ : ObV)], NearR 0 ((wx.alloc (.cells #[] 52)).alloc (.cells #[.string ⟨ky.toArray⟩, .int .i64 ln, .int .i64 ep, .slice sa st.length sc] 52)).drew.heap.size (.slice (some ⟨wx.heap.size, 0, none⟩) 0 0) c.vs := fun c hc => by simp only [List.mem_singleton] at hc; rw [hc]; exact near_old19 (INB.out wx (Below.refl _ _)) b2.size qA
      clear oA bA
      go_simp
      refine koH hK (SF.out _ b2) fun hHeld => ?_
      clear hK K' hHeld
      refine rnH 4 (fun K' hK => ?_)
      refine step_append_obs rfl (.tmp 40) (.tmp 43) rfl 0 (.slice (some ⟨wx.heap.size, 0, none⟩) 0 0) [] rfl o2' (.slice (some ⟨b, off, none⟩) LV.length vc) TL rfl (HTL.out.below b2) CAPL.out (fun c hc => near_old19 (INL.out c hc) b2.size qA) (by have := LENS.out; simp; omega) (Nat.zero_le _) ?_
      intro v1 w1 o1 g1
      obtain ⟨b1, q1⟩ := ob19_after b2 qA g1
      have ol1 := ol.gro19 g1 (fun b off n c e => by simp at e; obtain ⟨⟨rfl, rfl⟩, rfl, rfl⟩ := e; rw [own_mk19]; exact Or.inr (by simp)) nl
      refine koH hK (SF.out _ b1) fun hHeld => ?_
      clear hK K' hHeld o2' g1 qA ol nl b2
      refine rnH 7 (fun K' hK => ?_)
      refine step_append_obs rfl (.tmp 44) (.tmp 46) rfl 0 v1 ([] ++ TL) rfl o1 (.slice (some ⟨wx.heap.size + 1, 0, none⟩) 1 1) [⟨⟨ky, ln, ep, st⟩, .slice sa st.length sc⟩] rfl ol1 (CapO.some (Nat.le_refl _)) (fun c hc => by simp only [List.mem_singleton] at hc; rw [hc]; exact near_old19 (INB.out wx (Below.refl _ _)) b1.size q1) (by have := LENS.out; simp; omega) (Nat.zero_le _) ?_
      intro v2 w2 o2 g2
      obtain ⟨b3, q3⟩ := ob19_after b1 q1 g2
      clear g2 q1 ol1 o1 b1
      exact wl_lastE
  · have b2 : Below wx.heap.size wx ((wx.alloc (.cells #[.string ⟨ky.toArray⟩, .int .i64 ln, .int .i64 ep, .slice sa st.length sc] 52)).alloc (.cells #[] 52)).drew := ((belR _ _).step16 (belR _ _) (by simp)).drew
    have bA : Below wx.heap.size wx (wx.alloc (.cells #[.string ⟨ky.toArray⟩, .int .i64 ln, .int .i64 ep, .slice sa st.length sc] 52)).drew := (belR _ _).drew
    have qA := own_at19 (n := 0) (c := 0) (Nat.le_succ wx.heap.size)
    have o2' : OwnOb ((wx.alloc (.cells #[.string ⟨ky.toArray⟩, .int .i64 ln, .int .i64 ep, .slice sa st.length sc] 52)).alloc (.cells #[] 52)).drew 0 (.slice (some ⟨wx.heap.size + 1, 0, none⟩) 0 0) [] := by
      have h := (made_ob (wx.alloc (.cells #[.string ⟨ky.toArray⟩, .int .i64 ln, .int .i64 ep, .slice sa st.length sc] 52)) (base := 0) (Nat.zero_le _)).later ((Below.refl _ _).drew)
      rw [show (wx.alloc (.cells #[.string ⟨ky.toArray⟩, .int .i64 ln, .int .i64 ep, .slice sa st.length sc] 52)).heap.size = wx.heap.size + 1 by simp] at h
      exact h
    have ol : RdO ((wx.alloc (.cells #[.string ⟨ky.toArray⟩, .int .i64 ln, .int .i64 ep, .slice sa st.length sc] 52)).alloc (.cells #[] 52)).drew (.slice (some ⟨wx.heap.size, 0, none⟩) 1 1) [⟨⟨ky, ln, ep, st⟩, .slice sa st.length sc⟩] := ((lit_ob wx (c := ⟨⟨ky, ln, ep, st⟩, .slice sa st.length sc⟩) (INB.out wx (Below.refl _ _))).below (belR _ _)).below ((Below.refl _ _).drew)
    have nl : ∀ c ∈ [(⟨⟨ky, ln, ep, st⟩, .slice sa st.length sc⟩ : ObV)], NearR 0 ((wx.alloc (.cells #[.string ⟨ky.toArray⟩, .int .i64 ln, .int .i64 ep, .slice sa st.length sc] 52)).alloc (.cells #[] 52)).drew.heap.size (.slice (some ⟨wx.heap.size + 1, 0, none⟩) 0 0) c.vs := fun c hc => by simp only [List.mem_singleton] at hc; rw [hc]; exact near_old19 (INB.out wx (Below.refl _ _)) b2.size qA
    go_simp
    refine koH hK (SF.out _ bA) fun hHeld => ?_
    clear hK K' hHeld bA
    refine rnH 0 (fun K' hK => ?_)
    go_simp
    refine koH hK (SF.out _ b2) fun hHeld => ?_
    clear hK K' hHeld
    refine rnH 4 (fun K' hK => ?_)
    refine step_append_obs rfl (.tmp 40) (.tmp 43) rfl 0 (.slice (some ⟨wx.heap.size + 1, 0, none⟩) 0 0) [] rfl o2' (.slice (some ⟨b, off, none⟩) LV.length vc) TL rfl (HTL.out.below b2) CAPL.out (fun c hc => near_old19 (INL.out c hc) b2.size qA) (by have := LENS.out; simp; omega) (Nat.zero_le _) ?_
    intro v1 w1 o1 g1
    obtain ⟨b1, q1⟩ := ob19_after b2 qA g1
    have ol1 := ol.gro19 g1 (fun b off n c e => by simp at e; obtain ⟨⟨rfl, rfl⟩, rfl, rfl⟩ := e; rw [own_mk19]; exact Or.inr (by simp)) nl
    refine koH hK (SF.out _ b1) fun hHeld => ?_
    clear hK K' hHeld o2' g1 qA ol nl b2
    refine rnH 7 (fun K' hK => ?_)
    refine step_append_obs rfl (.tmp 44) (.tmp 46) rfl 0 v1 ([] ++ TL) rfl o1 (.slice (some ⟨wx.heap.size, 0, none⟩) 1 1) [⟨⟨ky, ln, ep, st⟩, .slice sa st.length sc⟩] rfl ol1 (CapO.some (Nat.le_refl _)) (fun c hc => by simp only [List.mem_singleton] at hc; rw [hc]; exact near_old19 (INB.out wx (Below.refl _ _)) b1.size q1) (by have := LENS.out; simp; omega) (Nat.zero_le _) ?_
    intro v2 w2 o2 g2
    obtain ⟨b3, q3⟩ := ob19_after b1 q1 g2
    clear g2 q1 ol1 o1 b1
    exact wl_lastE) : p := h
theorem wl_lastF {p : Prop} (h : p := by
  refine koH hK (SF.out _ b3) fun hHeld => ?_
  clear hK K' hHeld
  refine rnH 9 (fun K' hK => ?_)
  refine step_append_obs rfl (.tmp 47) (.tmp 48) rfl 0 v2 (([] ++ TL) ++ [⟨⟨ky, ln, ep, st⟩, .slice sa st.length sc⟩]) rfl o2 (.slice (some ⟨b, off, none⟩) 0 0) TR rfl (HTR.out.below b3) CAPR.out (fun c hc => near_old19 (INR.out c hc) b3.size q3) (by have := LENS.out; simp; omega) (Nat.zero_le _) ?_
  intro v3 w3 o3 g3
  obtain ⟨b4, q4⟩ := ob19_after b3 q3 g3
  refine koH hK (SF.out _ b4) fun hHeld => ?_
  clear hK K'
  refine tkH 10 ?_
  refine wpAnyH_done (by kernel_rfl) ?_ _
  have F := FIN.out v3 w3 o3 q4 b4
  clear hHeld g3 o3 q4 b4 o2 b3 q3 SF FIN
  go_wp2
  go_ret
  exact F) : p := h
theorem wi_lastF {p : Prop} (h : p := by
  refine wp_region_held_drew (S := fun V => V.cell? ⟨w.heap.size, 0, none⟩ = some (.string ⟨ky.toArray⟩) ∧ V.cell? ⟨w.heap.size, 1, none⟩ = some (.int .i64 ln) ∧ V.cell? ⟨w.heap.size, 2, none⟩ = some (.int .i64 ep) ∧ V.cell? ⟨w.heap.size, 3, none⟩ = some (.slice sa st.length sc)) (by kernel_rfl) (SF.out _ ((Below.refl _ _).drew)) (fun hHeld => ?_)
  refine tkH 1 ?_
  refine tkH 2 ?_
  refine tkH 3 ?_
  refine tkH 5 ?_
  refine tkH 8 ?_
  clear hHeld
  refine rmH 0 6 (fun K' hK => ?_) fun K' hK => ?_
  · have bA : Below wx.heap.size wx (wx.alloc (.cells #[] 52)).drew := (belR _ _).drew
    have oA : OwnOb (wx.alloc (.cells #[] 52)).drew 0 (.slice (some ⟨wx.heap.size, 0, none⟩) 0 0) [] := (made_ob wx (Nat.zero_le _)).later ((Below.refl _ _).drew)
    have qA := own_at19 (n := 0) (c := 0) (Nat.le_refl wx.heap.size)
    go_simp
    refine koH hK (SF.out _ bA) fun hHeld => ?_
    clear hK K' hHeld
    refine rmH 4 6 (fun K' hK => ?_) fun K' hK => ?_
    · refine step_append_obs rfl (.tmp 40) (.tmp 43) rfl 0 (.slice (some ⟨wx.heap.size, 0, none⟩) 0 0) [] rfl oA (.slice (some ⟨b, off, none⟩) LV.length LV.length) TL rfl (HTL.out.below bA) CAPL.out (fun c hc => near_old19 (INL.out c hc) bA.size qA) (by have := LENS.out; simp; omega) (Nat.zero_le _) ?_
      intro v1 w1 o1 g1
      obtain ⟨b1, q1⟩ := ob19_after bA qA g1
      refine koH hK (SF.out _ b1) fun hHeld => ?_
      clear hK K' hHeld oA bA g1 qA
      have bl : Below w1.heap.size w1 (w1.alloc (.cells #[.string ⟨ky.toArray⟩, .int .i64 ln, .int .i64 ep, .slice sa st.length sc] 52)) := belR _ _
      have b2 := b1.step16 bl b1.size
      refine rnH 6 (fun K' hK => ?_)
      go_simp
      refine koH hK (SF.out _ b2) fun hHeld => ?_
      clear hK K' hHeld
      have ol := lit_ob w1 (c := ⟨⟨ky, ln, ep, st⟩, .slice sa st.length sc⟩) (INB.out w1 b1)
      refine rnH 7 (fun K' hK => ?_)
      refine step_append_obs rfl (.tmp 44) (.tmp 46) rfl 0 v1 ([] ++ TL) rfl (o1.later bl) (.slice (some ⟨w1.heap.size, 0, none⟩) 1 1) [⟨⟨ky, ln, ep, st⟩, .slice sa st.length sc⟩] rfl ol (CapO.some (Nat.le_refl _)) (fun c hc => by simp only [List.mem_singleton] at hc; rw [hc]; exact near_old19 (INB.out wx (Below.refl _ _)) b2.size q1) (by have := LENS.out; simp; omega) (Nat.zero_le _) ?_
      intro v2 w2 o2 g2
      obtain ⟨b3, q3⟩ := ob19_after b2 q1 g2
      clear g2 q1 ol o1 b1 b2 bl
      exact wl_lastF
    · have b2 : Below wx.heap.size wx ((wx.alloc (.cells #[] 52)).alloc (.cells #[.string ⟨ky.toArray⟩, .int .i64 ln, .int .i64 ep, .slice sa st.length sc] 52)).drew := ((belR _ _).step16 (belR _ _) (by simp)).drew
      have o2' : OwnOb ((wx.alloc (.cells #[] 52)).alloc (.cells #[.string ⟨ky.toArray⟩, .int .i64 ln, .int .i64 ep, .slice sa st.length sc] 52)).drew 0 (.slice (some ⟨wx.heap.size, 0, none⟩) 0 0) [] := ((made_ob wx (Nat.zero_le _)).later (belR _ _)).later ((Below.refl _ _).drew)
      have ol : RdO ((wx.alloc (.cells #[] 52)).alloc (.cells #[.string ⟨ky.toArray⟩, .int .i64 ln, .int .i64 ep, .slice sa st.length sc] 52)).drew (.slice (some ⟨wx.heap.size + 1, 0, none⟩) 1 1) [⟨⟨ky, ln, ep, st⟩, .slice sa st.length sc⟩] := by
        have h := (lit_ob (wx.alloc (.cells #[] 52)) (c := ⟨⟨ky, ln, ep, st⟩, .slice sa st.length sc⟩) (INB.out _ (belR _ _))).below ((Below.refl _ _).drew)
        rw [show (wx.alloc (.cells #[] 52)).heap.size = wx.heap.size + 1 by simp] at h
        exact h
      have nl : ∀ c ∈ [(⟨⟨ky, ln, ep, st⟩, .slice sa st.length sc⟩ : ObV)], NearR 0 ((wx.alloc (.cells #[] 52)).alloc (.cells #[.string ⟨ky.toArray⟩, .int .i64 ln, .int .i64 ep, .slice sa st.length sc] 52)).drew.heap.size (.slice (some ⟨wx.heap.size, 0, none⟩) 0 0) c.vs := fun c hc => by simp only [List.mem_singleton] at hc; rw [hc]; exact near_old19 (INB.out wx (Below.refl _ _)) b2.size qA
      clear oA bA
      go_simp
      refine koH hK (SF.out _ b2) fun hHeld => ?_
      clear hK K' hHeld
      refine rnH 4 (fun K' hK => ?_)
      refine step_append_obs rfl (.tmp 40) (.tmp 43) rfl 0 (.slice (some ⟨wx.heap.size, 0, none⟩) 0 0) [] rfl o2' (.slice (some ⟨b, off, none⟩) LV.length LV.length) TL rfl (HTL.out.below b2) CAPL.out (fun c hc => near_old19 (INL.out c hc) b2.size qA) (by have := LENS.out; simp; omega) (Nat.zero_le _) ?_
      intro v1 w1 o1 g1
      obtain ⟨b1, q1⟩ := ob19_after b2 qA g1
      have ol1 := ol.gro19 g1 (fun b off n c e => by simp at e; obtain ⟨⟨rfl, rfl⟩, rfl, rfl⟩ := e; rw [own_mk19]; exact Or.inr (by simp)) nl
      refine koH hK (SF.out _ b1) fun hHeld => ?_
      clear hK K' hHeld o2' g1 qA ol nl b2
      refine rnH 7 (fun K' hK => ?_)
      refine step_append_obs rfl (.tmp 44) (.tmp 46) rfl 0 v1 ([] ++ TL) rfl o1 (.slice (some ⟨wx.heap.size + 1, 0, none⟩) 1 1) [⟨⟨ky, ln, ep, st⟩, .slice sa st.length sc⟩] rfl ol1 (CapO.some (Nat.le_refl _)) (fun c hc => by simp only [List.mem_singleton] at hc; rw [hc]; exact near_old19 (INB.out wx (Below.refl _ _)) b1.size q1) (by have := LENS.out; simp; omega) (Nat.zero_le _) ?_
      intro v2 w2 o2 g2
      obtain ⟨b3, q3⟩ := ob19_after b1 q1 g2
      clear g2 q1 ol1 o1 b1
      exact wl_lastF
  · have b2 : Below wx.heap.size wx ((wx.alloc (.cells #[.string ⟨ky.toArray⟩, .int .i64 ln, .int .i64 ep, .slice sa st.length sc] 52)).alloc (.cells #[] 52)).drew := ((belR _ _).step16 (belR _ _) (by simp)).drew
    have bA : Below wx.heap.size wx (wx.alloc (.cells #[.string ⟨ky.toArray⟩, .int .i64 ln, .int .i64 ep, .slice sa st.length sc] 52)).drew := (belR _ _).drew
    have qA := own_at19 (n := 0) (c := 0) (Nat.le_succ wx.heap.size)
    have o2' : OwnOb ((wx.alloc (.cells #[.string ⟨ky.toArray⟩, .int .i64 ln, .int .i64 ep, .slice sa st.length sc] 52)).alloc (.cells #[] 52)).drew 0 (.slice (some ⟨wx.heap.size + 1, 0, none⟩) 0 0) [] := by
      have h := (made_ob (wx.alloc (.cells #[.string ⟨ky.toArray⟩, .int .i64 ln, .int .i64 ep, .slice sa st.length sc] 52)) (base := 0) (Nat.zero_le _)).later ((Below.refl _ _).drew)
      rw [show (wx.alloc (.cells #[.string ⟨ky.toArray⟩, .int .i64 ln, .int .i64 ep, .slice sa st.length sc] 52)).heap.size = wx.heap.size + 1 by simp] at h
      exact h
    have ol : RdO ((wx.alloc (.cells #[.string ⟨ky.toArray⟩, .int .i64 ln, .int .i64 ep, .slice sa st.length sc] 52)).alloc (.cells #[] 52)).drew (.slice (some ⟨wx.heap.size, 0, none⟩) 1 1) [⟨⟨ky, ln, ep, st⟩, .slice sa st.length sc⟩] := ((lit_ob wx (c := ⟨⟨ky, ln, ep, st⟩, .slice sa st.length sc⟩) (INB.out wx (Below.refl _ _))).below (belR _ _)).below ((Below.refl _ _).drew)
    have nl : ∀ c ∈ [(⟨⟨ky, ln, ep, st⟩, .slice sa st.length sc⟩ : ObV)], NearR 0 ((wx.alloc (.cells #[.string ⟨ky.toArray⟩, .int .i64 ln, .int .i64 ep, .slice sa st.length sc] 52)).alloc (.cells #[] 52)).drew.heap.size (.slice (some ⟨wx.heap.size + 1, 0, none⟩) 0 0) c.vs := fun c hc => by simp only [List.mem_singleton] at hc; rw [hc]; exact near_old19 (INB.out wx (Below.refl _ _)) b2.size qA
    go_simp
    refine koH hK (SF.out _ bA) fun hHeld => ?_
    clear hK K' hHeld bA
    refine rnH 0 (fun K' hK => ?_)
    go_simp
    refine koH hK (SF.out _ b2) fun hHeld => ?_
    clear hK K' hHeld
    refine rnH 4 (fun K' hK => ?_)
    refine step_append_obs rfl (.tmp 40) (.tmp 43) rfl 0 (.slice (some ⟨wx.heap.size + 1, 0, none⟩) 0 0) [] rfl o2' (.slice (some ⟨b, off, none⟩) LV.length LV.length) TL rfl (HTL.out.below b2) CAPL.out (fun c hc => near_old19 (INL.out c hc) b2.size qA) (by have := LENS.out; simp; omega) (Nat.zero_le _) ?_
    intro v1 w1 o1 g1
    obtain ⟨b1, q1⟩ := ob19_after b2 qA g1
    have ol1 := ol.gro19 g1 (fun b off n c e => by simp at e; obtain ⟨⟨rfl, rfl⟩, rfl, rfl⟩ := e; rw [own_mk19]; exact Or.inr (by simp)) nl
    refine koH hK (SF.out _ b1) fun hHeld => ?_
    clear hK K' hHeld o2' g1 qA ol nl b2
    refine rnH 7 (fun K' hK => ?_)
    refine step_append_obs rfl (.tmp 44) (.tmp 46) rfl 0 v1 ([] ++ TL) rfl o1 (.slice (some ⟨wx.heap.size, 0, none⟩) 1 1) [⟨⟨ky, ln, ep, st⟩, .slice sa st.length sc⟩] rfl ol1 (CapO.some (Nat.le_refl _)) (fun c hc => by simp only [List.mem_singleton] at hc; rw [hc]; exact near_old19 (INB.out wx (Below.refl _ _)) b1.size q1) (by have := LENS.out; simp; omega) (Nat.zero_le _) ?_
    intro v2 w2 o2 g2
    obtain ⟨b3, q3⟩ := ob19_after b1 q1 g2
    clear g2 q1 ol1 o1 b1
    exact wl_lastF) : p := h
theorem wl_lastA {p : Prop} (h : p := by
  refine koH hK (SF.out _ b3) fun hHeld => ?_
  clear hK K' hHeld
  refine rnH 9 (fun K' hK => ?_)
  refine step_append_obs rfl (.tmp 47) (.tmp 48) rfl 0 v2 (([] ++ TL) ++ [⟨⟨ky, ln, ep, st⟩, .slice sa st.length sc⟩]) rfl o2 (.slice (some ⟨b, off + r * 4, none⟩) (LV.length - r) (vc - r)) TR rfl (HTR.out.below b3) CAPR.out (fun c hc => near_old19 (INR.out c hc) b3.size q3) (by have := LENS.out; simp; omega) (Nat.zero_le _) ?_
  intro v3 w3 o3 g3
  obtain ⟨b4, q4⟩ := ob19_after b3 q3 g3
  refine koH hK (SF.out _ b4) fun hHeld => ?_
  clear hK K'
  refine tkH 10 ?_
  refine wpAnyH_done (by kernel_rfl) ?_ _
  have F := FIN.out v3 w3 o3 q4 b4
  clear hHeld g3 o3 q4 b4 o2 b3 q3 SF FIN
  go_wp2
  go_ret
  exact F) : p := h
theorem wi_lastA {p : Prop} (h : p := by
  refine wp_region_held_drew (S := fun V => V.cell? ⟨w.heap.size, 0, none⟩ = some (.string ⟨ky.toArray⟩) ∧ V.cell? ⟨w.heap.size, 1, none⟩ = some (.int .i64 ln) ∧ V.cell? ⟨w.heap.size, 2, none⟩ = some (.int .i64 ep) ∧ V.cell? ⟨w.heap.size, 3, none⟩ = some (.slice sa st.length sc)) (by kernel_rfl) (SF.out _ ((Below.refl _ _).drew)) (fun hHeld => ?_)
  refine tkH 1 ?_
  refine tkH 2 ?_
  refine tkH 3 ?_
  refine tkH 5 ?_
  refine tkH 8 ?_
  clear hHeld
  refine rmH 0 6 (fun K' hK => ?_) fun K' hK => ?_
  · have bA : Below wx.heap.size wx (wx.alloc (.cells #[] 52)).drew := (belR _ _).drew
    have oA : OwnOb (wx.alloc (.cells #[] 52)).drew 0 (.slice (some ⟨wx.heap.size, 0, none⟩) 0 0) [] := (made_ob wx (Nat.zero_le _)).later ((Below.refl _ _).drew)
    have qA := own_at19 (n := 0) (c := 0) (Nat.le_refl wx.heap.size)
    go_simp
    refine koH hK (SF.out _ bA) fun hHeld => ?_
    clear hK K' hHeld
    refine rmH 4 6 (fun K' hK => ?_) fun K' hK => ?_
    · refine step_append_obs rfl (.tmp 40) (.tmp 43) rfl 0 (.slice (some ⟨wx.heap.size, 0, none⟩) 0 0) [] rfl oA (.slice (some ⟨b, off, none⟩) r vc) TL rfl (HTL.out.below bA) CAPL.out (fun c hc => near_old19 (INL.out c hc) bA.size qA) (by have := LENS.out; simp; omega) (Nat.zero_le _) ?_
      intro v1 w1 o1 g1
      obtain ⟨b1, q1⟩ := ob19_after bA qA g1
      refine koH hK (SF.out _ b1) fun hHeld => ?_
      clear hK K' hHeld oA bA g1 qA
      have bl : Below w1.heap.size w1 (w1.alloc (.cells #[.string ⟨ky.toArray⟩, .int .i64 ln, .int .i64 ep, .slice sa st.length sc] 52)) := belR _ _
      have b2 := b1.step16 bl b1.size
      refine rnH 6 (fun K' hK => ?_)
      go_simp
      refine koH hK (SF.out _ b2) fun hHeld => ?_
      clear hK K' hHeld
      have ol := lit_ob w1 (c := ⟨⟨ky, ln, ep, st⟩, .slice sa st.length sc⟩) (INB.out w1 b1)
      refine rnH 7 (fun K' hK => ?_)
      refine step_append_obs rfl (.tmp 44) (.tmp 46) rfl 0 v1 ([] ++ TL) rfl (o1.later bl) (.slice (some ⟨w1.heap.size, 0, none⟩) 1 1) [⟨⟨ky, ln, ep, st⟩, .slice sa st.length sc⟩] rfl ol (CapO.some (Nat.le_refl _)) (fun c hc => by simp only [List.mem_singleton] at hc; rw [hc]; exact near_old19 (INB.out wx (Below.refl _ _)) b2.size q1) (by have := LENS.out; simp; omega) (Nat.zero_le _) ?_
      intro v2 w2 o2 g2
      obtain ⟨b3, q3⟩ := ob19_after b2 q1 g2
      clear g2 q1 ol o1 b1 b2 bl
      exact wl_lastA
    · have b2 : Below wx.heap.size wx ((wx.alloc (.cells #[] 52)).alloc (.cells #[.string ⟨ky.toArray⟩, .int .i64 ln, .int .i64 ep, .slice sa st.length sc] 52)).drew := ((belR _ _).step16 (belR _ _) (by simp)).drew
      have o2' : OwnOb ((wx.alloc (.cells #[] 52)).alloc (.cells #[.string ⟨ky.toArray⟩, .int .i64 ln, .int .i64 ep, .slice sa st.length sc] 52)).drew 0 (.slice (some ⟨wx.heap.size, 0, none⟩) 0 0) [] := ((made_ob wx (Nat.zero_le _)).later (belR _ _)).later ((Below.refl _ _).drew)
      have ol : RdO ((wx.alloc (.cells #[] 52)).alloc (.cells #[.string ⟨ky.toArray⟩, .int .i64 ln, .int .i64 ep, .slice sa st.length sc] 52)).drew (.slice (some ⟨wx.heap.size + 1, 0, none⟩) 1 1) [⟨⟨ky, ln, ep, st⟩, .slice sa st.length sc⟩] := by
        have h := (lit_ob (wx.alloc (.cells #[] 52)) (c := ⟨⟨ky, ln, ep, st⟩, .slice sa st.length sc⟩) (INB.out _ (belR _ _))).below ((Below.refl _ _).drew)
        rw [show (wx.alloc (.cells #[] 52)).heap.size = wx.heap.size + 1 by simp] at h
        exact h
      have nl : ∀ c ∈ [(⟨⟨ky, ln, ep, st⟩, .slice sa st.length sc⟩ : ObV)], NearR 0 ((wx.alloc (.cells #[] 52)).alloc (.cells #[.string ⟨ky.toArray⟩, .int .i64 ln, .int .i64 ep, .slice sa st.length sc] 52)).drew.heap.size (.slice (some ⟨wx.heap.size, 0, none⟩) 0 0) c.vs := fun c hc => by simp only [List.mem_singleton] at hc; rw [hc]; exact near_old19 (INB.out wx (Below.refl _ _)) b2.size qA
      clear oA bA
      go_simp
      refine koH hK (SF.out _ b2) fun hHeld => ?_
      clear hK K' hHeld
      refine rnH 4 (fun K' hK => ?_)
      refine step_append_obs rfl (.tmp 40) (.tmp 43) rfl 0 (.slice (some ⟨wx.heap.size, 0, none⟩) 0 0) [] rfl o2' (.slice (some ⟨b, off, none⟩) r vc) TL rfl (HTL.out.below b2) CAPL.out (fun c hc => near_old19 (INL.out c hc) b2.size qA) (by have := LENS.out; simp; omega) (Nat.zero_le _) ?_
      intro v1 w1 o1 g1
      obtain ⟨b1, q1⟩ := ob19_after b2 qA g1
      have ol1 := ol.gro19 g1 (fun b off n c e => by simp at e; obtain ⟨⟨rfl, rfl⟩, rfl, rfl⟩ := e; rw [own_mk19]; exact Or.inr (by simp)) nl
      refine koH hK (SF.out _ b1) fun hHeld => ?_
      clear hK K' hHeld o2' g1 qA ol nl b2
      refine rnH 7 (fun K' hK => ?_)
      refine step_append_obs rfl (.tmp 44) (.tmp 46) rfl 0 v1 ([] ++ TL) rfl o1 (.slice (some ⟨wx.heap.size + 1, 0, none⟩) 1 1) [⟨⟨ky, ln, ep, st⟩, .slice sa st.length sc⟩] rfl ol1 (CapO.some (Nat.le_refl _)) (fun c hc => by simp only [List.mem_singleton] at hc; rw [hc]; exact near_old19 (INB.out wx (Below.refl _ _)) b1.size q1) (by have := LENS.out; simp; omega) (Nat.zero_le _) ?_
      intro v2 w2 o2 g2
      obtain ⟨b3, q3⟩ := ob19_after b1 q1 g2
      clear g2 q1 ol1 o1 b1
      exact wl_lastA
  · have b2 : Below wx.heap.size wx ((wx.alloc (.cells #[.string ⟨ky.toArray⟩, .int .i64 ln, .int .i64 ep, .slice sa st.length sc] 52)).alloc (.cells #[] 52)).drew := ((belR _ _).step16 (belR _ _) (by simp)).drew
    have bA : Below wx.heap.size wx (wx.alloc (.cells #[.string ⟨ky.toArray⟩, .int .i64 ln, .int .i64 ep, .slice sa st.length sc] 52)).drew := (belR _ _).drew
    have qA := own_at19 (n := 0) (c := 0) (Nat.le_succ wx.heap.size)
    have o2' : OwnOb ((wx.alloc (.cells #[.string ⟨ky.toArray⟩, .int .i64 ln, .int .i64 ep, .slice sa st.length sc] 52)).alloc (.cells #[] 52)).drew 0 (.slice (some ⟨wx.heap.size + 1, 0, none⟩) 0 0) [] := by
      have h := (made_ob (wx.alloc (.cells #[.string ⟨ky.toArray⟩, .int .i64 ln, .int .i64 ep, .slice sa st.length sc] 52)) (base := 0) (Nat.zero_le _)).later ((Below.refl _ _).drew)
      rw [show (wx.alloc (.cells #[.string ⟨ky.toArray⟩, .int .i64 ln, .int .i64 ep, .slice sa st.length sc] 52)).heap.size = wx.heap.size + 1 by simp] at h
      exact h
    have ol : RdO ((wx.alloc (.cells #[.string ⟨ky.toArray⟩, .int .i64 ln, .int .i64 ep, .slice sa st.length sc] 52)).alloc (.cells #[] 52)).drew (.slice (some ⟨wx.heap.size, 0, none⟩) 1 1) [⟨⟨ky, ln, ep, st⟩, .slice sa st.length sc⟩] := ((lit_ob wx (c := ⟨⟨ky, ln, ep, st⟩, .slice sa st.length sc⟩) (INB.out wx (Below.refl _ _))).below (belR _ _)).below ((Below.refl _ _).drew)
    have nl : ∀ c ∈ [(⟨⟨ky, ln, ep, st⟩, .slice sa st.length sc⟩ : ObV)], NearR 0 ((wx.alloc (.cells #[.string ⟨ky.toArray⟩, .int .i64 ln, .int .i64 ep, .slice sa st.length sc] 52)).alloc (.cells #[] 52)).drew.heap.size (.slice (some ⟨wx.heap.size + 1, 0, none⟩) 0 0) c.vs := fun c hc => by simp only [List.mem_singleton] at hc; rw [hc]; exact near_old19 (INB.out wx (Below.refl _ _)) b2.size qA
    go_simp
    refine koH hK (SF.out _ bA) fun hHeld => ?_
    clear hK K' hHeld bA
    refine rnH 0 (fun K' hK => ?_)
    go_simp
    refine koH hK (SF.out _ b2) fun hHeld => ?_
    clear hK K' hHeld
    refine rnH 4 (fun K' hK => ?_)
    refine step_append_obs rfl (.tmp 40) (.tmp 43) rfl 0 (.slice (some ⟨wx.heap.size + 1, 0, none⟩) 0 0) [] rfl o2' (.slice (some ⟨b, off, none⟩) r vc) TL rfl (HTL.out.below b2) CAPL.out (fun c hc => near_old19 (INL.out c hc) b2.size qA) (by have := LENS.out; simp; omega) (Nat.zero_le _) ?_
    intro v1 w1 o1 g1
    obtain ⟨b1, q1⟩ := ob19_after b2 qA g1
    have ol1 := ol.gro19 g1 (fun b off n c e => by simp at e; obtain ⟨⟨rfl, rfl⟩, rfl, rfl⟩ := e; rw [own_mk19]; exact Or.inr (by simp)) nl
    refine koH hK (SF.out _ b1) fun hHeld => ?_
    clear hK K' hHeld o2' g1 qA ol nl b2
    refine rnH 7 (fun K' hK => ?_)
    refine step_append_obs rfl (.tmp 44) (.tmp 46) rfl 0 v1 ([] ++ TL) rfl o1 (.slice (some ⟨wx.heap.size, 0, none⟩) 1 1) [⟨⟨ky, ln, ep, st⟩, .slice sa st.length sc⟩] rfl ol1 (CapO.some (Nat.le_refl _)) (fun c hc => by simp only [List.mem_singleton] at hc; rw [hc]; exact near_old19 (INB.out wx (Below.refl _ _)) b1.size q1) (by have := LENS.out; simp; omega) (Nat.zero_le _) ?_
    intro v2 w2 o2 g2
    obtain ⟨b3, q3⟩ := ob19_after b1 q1 g2
    clear g2 q1 ol1 o1 b1
    exact wl_lastA) : p := h
theorem wl_lastB {p : Prop} (h : p := by
  refine koH hK (SF.out _ b3) fun hHeld => ?_
  clear hK K' hHeld
  refine rnH 9 (fun K' hK => ?_)
  refine step_append_obs rfl (.tmp 47) (.tmp 48) rfl 0 v2 (([] ++ TL) ++ [⟨⟨ky, ln, ep, st⟩, .slice sa st.length sc⟩]) rfl o2 (.slice (some ⟨b, off + r * 4 + 4, none⟩) (LV.length - r - 1) (vc - r - 1)) TR rfl (HTR.out.below b3) CAPR.out (fun c hc => near_old19 (INR.out c hc) b3.size q3) (by have := LENS.out; simp; omega) (Nat.zero_le _) ?_
  intro v3 w3 o3 g3
  obtain ⟨b4, q4⟩ := ob19_after b3 q3 g3
  refine koH hK (SF.out _ b4) fun hHeld => ?_
  clear hK K'
  refine tkH 10 ?_
  refine wpAnyH_done (by kernel_rfl) ?_ _
  have F := FIN.out v3 w3 o3 q4 b4
  clear hHeld g3 o3 q4 b4 o2 b3 q3 SF FIN
  go_wp2
  go_ret
  exact F) : p := h
theorem wi_lastB {p : Prop} (h : p := by
  refine wp_region_held_drew (S := fun V => V.cell? ⟨w.heap.size, 0, none⟩ = some (.string ⟨ky.toArray⟩) ∧ V.cell? ⟨w.heap.size, 1, none⟩ = some (.int .i64 ln) ∧ V.cell? ⟨w.heap.size, 2, none⟩ = some (.int .i64 ep) ∧ V.cell? ⟨w.heap.size, 3, none⟩ = some (.slice sa st.length sc)) (by kernel_rfl) (SF.out _ ((Below.refl _ _).drew)) (fun hHeld => ?_)
  refine tkH 1 ?_
  refine tkH 2 ?_
  refine tkH 3 ?_
  refine tkH 5 ?_
  refine tkH 8 ?_
  clear hHeld
  refine rmH 0 6 (fun K' hK => ?_) fun K' hK => ?_
  · have bA : Below wx.heap.size wx (wx.alloc (.cells #[] 52)).drew := (belR _ _).drew
    have oA : OwnOb (wx.alloc (.cells #[] 52)).drew 0 (.slice (some ⟨wx.heap.size, 0, none⟩) 0 0) [] := (made_ob wx (Nat.zero_le _)).later ((Below.refl _ _).drew)
    have qA := own_at19 (n := 0) (c := 0) (Nat.le_refl wx.heap.size)
    go_simp
    refine koH hK (SF.out _ bA) fun hHeld => ?_
    clear hK K' hHeld
    refine rmH 4 6 (fun K' hK => ?_) fun K' hK => ?_
    · refine step_append_obs rfl (.tmp 40) (.tmp 43) rfl 0 (.slice (some ⟨wx.heap.size, 0, none⟩) 0 0) [] rfl oA (.slice (some ⟨b, off, none⟩) r vc) TL rfl (HTL.out.below bA) CAPL.out (fun c hc => near_old19 (INL.out c hc) bA.size qA) (by have := LENS.out; simp; omega) (Nat.zero_le _) ?_
      intro v1 w1 o1 g1
      obtain ⟨b1, q1⟩ := ob19_after bA qA g1
      refine koH hK (SF.out _ b1) fun hHeld => ?_
      clear hK K' hHeld oA bA g1 qA
      have bl : Below w1.heap.size w1 (w1.alloc (.cells #[.string ⟨ky.toArray⟩, .int .i64 ln, .int .i64 ep, .slice sa st.length sc] 52)) := belR _ _
      have b2 := b1.step16 bl b1.size
      refine rnH 6 (fun K' hK => ?_)
      go_simp
      refine koH hK (SF.out _ b2) fun hHeld => ?_
      clear hK K' hHeld
      have ol := lit_ob w1 (c := ⟨⟨ky, ln, ep, st⟩, .slice sa st.length sc⟩) (INB.out w1 b1)
      refine rnH 7 (fun K' hK => ?_)
      refine step_append_obs rfl (.tmp 44) (.tmp 46) rfl 0 v1 ([] ++ TL) rfl (o1.later bl) (.slice (some ⟨w1.heap.size, 0, none⟩) 1 1) [⟨⟨ky, ln, ep, st⟩, .slice sa st.length sc⟩] rfl ol (CapO.some (Nat.le_refl _)) (fun c hc => by simp only [List.mem_singleton] at hc; rw [hc]; exact near_old19 (INB.out wx (Below.refl _ _)) b2.size q1) (by have := LENS.out; simp; omega) (Nat.zero_le _) ?_
      intro v2 w2 o2 g2
      obtain ⟨b3, q3⟩ := ob19_after b2 q1 g2
      clear g2 q1 ol o1 b1 b2 bl
      exact wl_lastB
    · have b2 : Below wx.heap.size wx ((wx.alloc (.cells #[] 52)).alloc (.cells #[.string ⟨ky.toArray⟩, .int .i64 ln, .int .i64 ep, .slice sa st.length sc] 52)).drew := ((belR _ _).step16 (belR _ _) (by simp)).drew
      have o2' : OwnOb ((wx.alloc (.cells #[] 52)).alloc (.cells #[.string ⟨ky.toArray⟩, .int .i64 ln, .int .i64 ep, .slice sa st.length sc] 52)).drew 0 (.slice (some ⟨wx.heap.size, 0, none⟩) 0 0) [] := ((made_ob wx (Nat.zero_le _)).later (belR _ _)).later ((Below.refl _ _).drew)
      have ol : RdO ((wx.alloc (.cells #[] 52)).alloc (.cells #[.string ⟨ky.toArray⟩, .int .i64 ln, .int .i64 ep, .slice sa st.length sc] 52)).drew (.slice (some ⟨wx.heap.size + 1, 0, none⟩) 1 1) [⟨⟨ky, ln, ep, st⟩, .slice sa st.length sc⟩] := by
        have h := (lit_ob (wx.alloc (.cells #[] 52)) (c := ⟨⟨ky, ln, ep, st⟩, .slice sa st.length sc⟩) (INB.out _ (belR _ _))).below ((Below.refl _ _).drew)
        rw [show (wx.alloc (.cells #[] 52)).heap.size = wx.heap.size + 1 by simp] at h
        exact h
      have nl : ∀ c ∈ [(⟨⟨ky, ln, ep, st⟩, .slice sa st.length sc⟩ : ObV)], NearR 0 ((wx.alloc (.cells #[] 52)).alloc (.cells #[.string ⟨ky.toArray⟩, .int .i64 ln, .int .i64 ep, .slice sa st.length sc] 52)).drew.heap.size (.slice (some ⟨wx.heap.size, 0, none⟩) 0 0) c.vs := fun c hc => by simp only [List.mem_singleton] at hc; rw [hc]; exact near_old19 (INB.out wx (Below.refl _ _)) b2.size qA
      clear oA bA
      go_simp
      refine koH hK (SF.out _ b2) fun hHeld => ?_
      clear hK K' hHeld
      refine rnH 4 (fun K' hK => ?_)
      refine step_append_obs rfl (.tmp 40) (.tmp 43) rfl 0 (.slice (some ⟨wx.heap.size, 0, none⟩) 0 0) [] rfl o2' (.slice (some ⟨b, off, none⟩) r vc) TL rfl (HTL.out.below b2) CAPL.out (fun c hc => near_old19 (INL.out c hc) b2.size qA) (by have := LENS.out; simp; omega) (Nat.zero_le _) ?_
      intro v1 w1 o1 g1
      obtain ⟨b1, q1⟩ := ob19_after b2 qA g1
      have ol1 := ol.gro19 g1 (fun b off n c e => by simp at e; obtain ⟨⟨rfl, rfl⟩, rfl, rfl⟩ := e; rw [own_mk19]; exact Or.inr (by simp)) nl
      refine koH hK (SF.out _ b1) fun hHeld => ?_
      clear hK K' hHeld o2' g1 qA ol nl b2
      refine rnH 7 (fun K' hK => ?_)
      refine step_append_obs rfl (.tmp 44) (.tmp 46) rfl 0 v1 ([] ++ TL) rfl o1 (.slice (some ⟨wx.heap.size + 1, 0, none⟩) 1 1) [⟨⟨ky, ln, ep, st⟩, .slice sa st.length sc⟩] rfl ol1 (CapO.some (Nat.le_refl _)) (fun c hc => by simp only [List.mem_singleton] at hc; rw [hc]; exact near_old19 (INB.out wx (Below.refl _ _)) b1.size q1) (by have := LENS.out; simp; omega) (Nat.zero_le _) ?_
      intro v2 w2 o2 g2
      obtain ⟨b3, q3⟩ := ob19_after b1 q1 g2
      clear g2 q1 ol1 o1 b1
      exact wl_lastB
  · have b2 : Below wx.heap.size wx ((wx.alloc (.cells #[.string ⟨ky.toArray⟩, .int .i64 ln, .int .i64 ep, .slice sa st.length sc] 52)).alloc (.cells #[] 52)).drew := ((belR _ _).step16 (belR _ _) (by simp)).drew
    have bA : Below wx.heap.size wx (wx.alloc (.cells #[.string ⟨ky.toArray⟩, .int .i64 ln, .int .i64 ep, .slice sa st.length sc] 52)).drew := (belR _ _).drew
    have qA := own_at19 (n := 0) (c := 0) (Nat.le_succ wx.heap.size)
    have o2' : OwnOb ((wx.alloc (.cells #[.string ⟨ky.toArray⟩, .int .i64 ln, .int .i64 ep, .slice sa st.length sc] 52)).alloc (.cells #[] 52)).drew 0 (.slice (some ⟨wx.heap.size + 1, 0, none⟩) 0 0) [] := by
      have h := (made_ob (wx.alloc (.cells #[.string ⟨ky.toArray⟩, .int .i64 ln, .int .i64 ep, .slice sa st.length sc] 52)) (base := 0) (Nat.zero_le _)).later ((Below.refl _ _).drew)
      rw [show (wx.alloc (.cells #[.string ⟨ky.toArray⟩, .int .i64 ln, .int .i64 ep, .slice sa st.length sc] 52)).heap.size = wx.heap.size + 1 by simp] at h
      exact h
    have ol : RdO ((wx.alloc (.cells #[.string ⟨ky.toArray⟩, .int .i64 ln, .int .i64 ep, .slice sa st.length sc] 52)).alloc (.cells #[] 52)).drew (.slice (some ⟨wx.heap.size, 0, none⟩) 1 1) [⟨⟨ky, ln, ep, st⟩, .slice sa st.length sc⟩] := ((lit_ob wx (c := ⟨⟨ky, ln, ep, st⟩, .slice sa st.length sc⟩) (INB.out wx (Below.refl _ _))).below (belR _ _)).below ((Below.refl _ _).drew)
    have nl : ∀ c ∈ [(⟨⟨ky, ln, ep, st⟩, .slice sa st.length sc⟩ : ObV)], NearR 0 ((wx.alloc (.cells #[.string ⟨ky.toArray⟩, .int .i64 ln, .int .i64 ep, .slice sa st.length sc] 52)).alloc (.cells #[] 52)).drew.heap.size (.slice (some ⟨wx.heap.size + 1, 0, none⟩) 0 0) c.vs := fun c hc => by simp only [List.mem_singleton] at hc; rw [hc]; exact near_old19 (INB.out wx (Below.refl _ _)) b2.size qA
    go_simp
    refine koH hK (SF.out _ bA) fun hHeld => ?_
    clear hK K' hHeld bA
    refine rnH 0 (fun K' hK => ?_)
    go_simp
    refine koH hK (SF.out _ b2) fun hHeld => ?_
    clear hK K' hHeld
    refine rnH 4 (fun K' hK => ?_)
    refine step_append_obs rfl (.tmp 40) (.tmp 43) rfl 0 (.slice (some ⟨wx.heap.size + 1, 0, none⟩) 0 0) [] rfl o2' (.slice (some ⟨b, off, none⟩) r vc) TL rfl (HTL.out.below b2) CAPL.out (fun c hc => near_old19 (INL.out c hc) b2.size qA) (by have := LENS.out; simp; omega) (Nat.zero_le _) ?_
    intro v1 w1 o1 g1
    obtain ⟨b1, q1⟩ := ob19_after b2 qA g1
    have ol1 := ol.gro19 g1 (fun b off n c e => by simp at e; obtain ⟨⟨rfl, rfl⟩, rfl, rfl⟩ := e; rw [own_mk19]; exact Or.inr (by simp)) nl
    refine koH hK (SF.out _ b1) fun hHeld => ?_
    clear hK K' hHeld o2' g1 qA ol nl b2
    refine rnH 7 (fun K' hK => ?_)
    refine step_append_obs rfl (.tmp 44) (.tmp 46) rfl 0 v1 ([] ++ TL) rfl o1 (.slice (some ⟨wx.heap.size, 0, none⟩) 1 1) [⟨⟨ky, ln, ep, st⟩, .slice sa st.length sc⟩] rfl ol1 (CapO.some (Nat.le_refl _)) (fun c hc => by simp only [List.mem_singleton] at hc; rw [hc]; exact near_old19 (INB.out wx (Below.refl _ _)) b1.size q1) (by have := LENS.out; simp; omega) (Nat.zero_le _) ?_
    intro v2 w2 o2 g2
    obtain ⟨b3, q3⟩ := ob19_after b1 q1 g2
    clear g2 q1 ol1 o1 b1
    exact wl_lastB) : p := h
theorem wl_lastD {p : Prop} (h : p := by
  refine koH hK (SF.out _ b3) fun hHeld => ?_
  clear hK K' hHeld
  refine rnH 9 (fun K' hK => ?_)
  refine step_append_obs rfl (.tmp 47) (.tmp 48) rfl 0 v2 (([] ++ TL) ++ [⟨⟨ky, ln, ep, st⟩, .slice sa st.length sc⟩]) rfl o2 (.slice (some ⟨b, off + r * 4, none⟩) (LV.length - r - 1) 0) TR rfl (HTR.out.below b3) CAPR.out (fun c hc => near_old19 (INR.out c hc) b3.size q3) (by have := LENS.out; simp; omega) (Nat.zero_le _) ?_
  intro v3 w3 o3 g3
  obtain ⟨b4, q4⟩ := ob19_after b3 q3 g3
  refine koH hK (SF.out _ b4) fun hHeld => ?_
  clear hK K'
  refine tkH 10 ?_
  refine wpAnyH_done (by kernel_rfl) ?_ _
  have F := FIN.out v3 w3 o3 q4 b4
  clear hHeld g3 o3 q4 b4 o2 b3 q3 SF FIN
  go_wp2
  go_ret
  exact F) : p := h
theorem wi_lastD {p : Prop} (h : p := by
  refine wp_region_held_drew (S := fun V => V.cell? ⟨w.heap.size, 0, none⟩ = some (.string ⟨ky.toArray⟩) ∧ V.cell? ⟨w.heap.size, 1, none⟩ = some (.int .i64 ln) ∧ V.cell? ⟨w.heap.size, 2, none⟩ = some (.int .i64 ep) ∧ V.cell? ⟨w.heap.size, 3, none⟩ = some (.slice sa st.length sc)) (by kernel_rfl) (SF.out _ ((Below.refl _ _).drew)) (fun hHeld => ?_)
  refine tkH 1 ?_
  refine tkH 2 ?_
  refine tkH 3 ?_
  refine tkH 5 ?_
  refine tkH 8 ?_
  clear hHeld
  refine rmH 0 6 (fun K' hK => ?_) fun K' hK => ?_
  · have bA : Below wx.heap.size wx (wx.alloc (.cells #[] 52)).drew := (belR _ _).drew
    have oA : OwnOb (wx.alloc (.cells #[] 52)).drew 0 (.slice (some ⟨wx.heap.size, 0, none⟩) 0 0) [] := (made_ob wx (Nat.zero_le _)).later ((Below.refl _ _).drew)
    have qA := own_at19 (n := 0) (c := 0) (Nat.le_refl wx.heap.size)
    go_simp
    refine koH hK (SF.out _ bA) fun hHeld => ?_
    clear hK K' hHeld
    refine rmH 4 6 (fun K' hK => ?_) fun K' hK => ?_
    · refine step_append_obs rfl (.tmp 40) (.tmp 43) rfl 0 (.slice (some ⟨wx.heap.size, 0, none⟩) 0 0) [] rfl oA (.slice (some ⟨b, off, none⟩) r vc) TL rfl (HTL.out.below bA) CAPL.out (fun c hc => near_old19 (INL.out c hc) bA.size qA) (by have := LENS.out; simp; omega) (Nat.zero_le _) ?_
      intro v1 w1 o1 g1
      obtain ⟨b1, q1⟩ := ob19_after bA qA g1
      refine koH hK (SF.out _ b1) fun hHeld => ?_
      clear hK K' hHeld oA bA g1 qA
      have bl : Below w1.heap.size w1 (w1.alloc (.cells #[.string ⟨ky.toArray⟩, .int .i64 ln, .int .i64 ep, .slice sa st.length sc] 52)) := belR _ _
      have b2 := b1.step16 bl b1.size
      refine rnH 6 (fun K' hK => ?_)
      go_simp
      refine koH hK (SF.out _ b2) fun hHeld => ?_
      clear hK K' hHeld
      have ol := lit_ob w1 (c := ⟨⟨ky, ln, ep, st⟩, .slice sa st.length sc⟩) (INB.out w1 b1)
      refine rnH 7 (fun K' hK => ?_)
      refine step_append_obs rfl (.tmp 44) (.tmp 46) rfl 0 v1 ([] ++ TL) rfl (o1.later bl) (.slice (some ⟨w1.heap.size, 0, none⟩) 1 1) [⟨⟨ky, ln, ep, st⟩, .slice sa st.length sc⟩] rfl ol (CapO.some (Nat.le_refl _)) (fun c hc => by simp only [List.mem_singleton] at hc; rw [hc]; exact near_old19 (INB.out wx (Below.refl _ _)) b2.size q1) (by have := LENS.out; simp; omega) (Nat.zero_le _) ?_
      intro v2 w2 o2 g2
      obtain ⟨b3, q3⟩ := ob19_after b2 q1 g2
      clear g2 q1 ol o1 b1 b2 bl
      exact wl_lastD
    · have b2 : Below wx.heap.size wx ((wx.alloc (.cells #[] 52)).alloc (.cells #[.string ⟨ky.toArray⟩, .int .i64 ln, .int .i64 ep, .slice sa st.length sc] 52)).drew := ((belR _ _).step16 (belR _ _) (by simp)).drew
      have o2' : OwnOb ((wx.alloc (.cells #[] 52)).alloc (.cells #[.string ⟨ky.toArray⟩, .int .i64 ln, .int .i64 ep, .slice sa st.length sc] 52)).drew 0 (.slice (some ⟨wx.heap.size, 0, none⟩) 0 0) [] := ((made_ob wx (Nat.zero_le _)).later (belR _ _)).later ((Below.refl _ _).drew)
      have ol : RdO ((wx.alloc (.cells #[] 52)).alloc (.cells #[.string ⟨ky.toArray⟩, .int .i64 ln, .int .i64 ep, .slice sa st.length sc] 52)).drew (.slice (some ⟨wx.heap.size + 1, 0, none⟩) 1 1) [⟨⟨ky, ln, ep, st⟩, .slice sa st.length sc⟩] := by
        have h := (lit_ob (wx.alloc (.cells #[] 52)) (c := ⟨⟨ky, ln, ep, st⟩, .slice sa st.length sc⟩) (INB.out _ (belR _ _))).below ((Below.refl _ _).drew)
        rw [show (wx.alloc (.cells #[] 52)).heap.size = wx.heap.size + 1 by simp] at h
        exact h
      have nl : ∀ c ∈ [(⟨⟨ky, ln, ep, st⟩, .slice sa st.length sc⟩ : ObV)], NearR 0 ((wx.alloc (.cells #[] 52)).alloc (.cells #[.string ⟨ky.toArray⟩, .int .i64 ln, .int .i64 ep, .slice sa st.length sc] 52)).drew.heap.size (.slice (some ⟨wx.heap.size, 0, none⟩) 0 0) c.vs := fun c hc => by simp only [List.mem_singleton] at hc; rw [hc]; exact near_old19 (INB.out wx (Below.refl _ _)) b2.size qA
      clear oA bA
      go_simp
      refine koH hK (SF.out _ b2) fun hHeld => ?_
      clear hK K' hHeld
      refine rnH 4 (fun K' hK => ?_)
      refine step_append_obs rfl (.tmp 40) (.tmp 43) rfl 0 (.slice (some ⟨wx.heap.size, 0, none⟩) 0 0) [] rfl o2' (.slice (some ⟨b, off, none⟩) r vc) TL rfl (HTL.out.below b2) CAPL.out (fun c hc => near_old19 (INL.out c hc) b2.size qA) (by have := LENS.out; simp; omega) (Nat.zero_le _) ?_
      intro v1 w1 o1 g1
      obtain ⟨b1, q1⟩ := ob19_after b2 qA g1
      have ol1 := ol.gro19 g1 (fun b off n c e => by simp at e; obtain ⟨⟨rfl, rfl⟩, rfl, rfl⟩ := e; rw [own_mk19]; exact Or.inr (by simp)) nl
      refine koH hK (SF.out _ b1) fun hHeld => ?_
      clear hK K' hHeld o2' g1 qA ol nl b2
      refine rnH 7 (fun K' hK => ?_)
      refine step_append_obs rfl (.tmp 44) (.tmp 46) rfl 0 v1 ([] ++ TL) rfl o1 (.slice (some ⟨wx.heap.size + 1, 0, none⟩) 1 1) [⟨⟨ky, ln, ep, st⟩, .slice sa st.length sc⟩] rfl ol1 (CapO.some (Nat.le_refl _)) (fun c hc => by simp only [List.mem_singleton] at hc; rw [hc]; exact near_old19 (INB.out wx (Below.refl _ _)) b1.size q1) (by have := LENS.out; simp; omega) (Nat.zero_le _) ?_
      intro v2 w2 o2 g2
      obtain ⟨b3, q3⟩ := ob19_after b1 q1 g2
      clear g2 q1 ol1 o1 b1
      exact wl_lastD
  · have b2 : Below wx.heap.size wx ((wx.alloc (.cells #[.string ⟨ky.toArray⟩, .int .i64 ln, .int .i64 ep, .slice sa st.length sc] 52)).alloc (.cells #[] 52)).drew := ((belR _ _).step16 (belR _ _) (by simp)).drew
    have bA : Below wx.heap.size wx (wx.alloc (.cells #[.string ⟨ky.toArray⟩, .int .i64 ln, .int .i64 ep, .slice sa st.length sc] 52)).drew := (belR _ _).drew
    have qA := own_at19 (n := 0) (c := 0) (Nat.le_succ wx.heap.size)
    have o2' : OwnOb ((wx.alloc (.cells #[.string ⟨ky.toArray⟩, .int .i64 ln, .int .i64 ep, .slice sa st.length sc] 52)).alloc (.cells #[] 52)).drew 0 (.slice (some ⟨wx.heap.size + 1, 0, none⟩) 0 0) [] := by
      have h := (made_ob (wx.alloc (.cells #[.string ⟨ky.toArray⟩, .int .i64 ln, .int .i64 ep, .slice sa st.length sc] 52)) (base := 0) (Nat.zero_le _)).later ((Below.refl _ _).drew)
      rw [show (wx.alloc (.cells #[.string ⟨ky.toArray⟩, .int .i64 ln, .int .i64 ep, .slice sa st.length sc] 52)).heap.size = wx.heap.size + 1 by simp] at h
      exact h
    have ol : RdO ((wx.alloc (.cells #[.string ⟨ky.toArray⟩, .int .i64 ln, .int .i64 ep, .slice sa st.length sc] 52)).alloc (.cells #[] 52)).drew (.slice (some ⟨wx.heap.size, 0, none⟩) 1 1) [⟨⟨ky, ln, ep, st⟩, .slice sa st.length sc⟩] := ((lit_ob wx (c := ⟨⟨ky, ln, ep, st⟩, .slice sa st.length sc⟩) (INB.out wx (Below.refl _ _))).below (belR _ _)).below ((Below.refl _ _).drew)
    have nl : ∀ c ∈ [(⟨⟨ky, ln, ep, st⟩, .slice sa st.length sc⟩ : ObV)], NearR 0 ((wx.alloc (.cells #[.string ⟨ky.toArray⟩, .int .i64 ln, .int .i64 ep, .slice sa st.length sc] 52)).alloc (.cells #[] 52)).drew.heap.size (.slice (some ⟨wx.heap.size + 1, 0, none⟩) 0 0) c.vs := fun c hc => by simp only [List.mem_singleton] at hc; rw [hc]; exact near_old19 (INB.out wx (Below.refl _ _)) b2.size qA
    go_simp
    refine koH hK (SF.out _ bA) fun hHeld => ?_
    clear hK K' hHeld bA
    refine rnH 0 (fun K' hK => ?_)
    go_simp
    refine koH hK (SF.out _ b2) fun hHeld => ?_
    clear hK K' hHeld
    refine rnH 4 (fun K' hK => ?_)
    refine step_append_obs rfl (.tmp 40) (.tmp 43) rfl 0 (.slice (some ⟨wx.heap.size + 1, 0, none⟩) 0 0) [] rfl o2' (.slice (some ⟨b, off, none⟩) r vc) TL rfl (HTL.out.below b2) CAPL.out (fun c hc => near_old19 (INL.out c hc) b2.size qA) (by have := LENS.out; simp; omega) (Nat.zero_le _) ?_
    intro v1 w1 o1 g1
    obtain ⟨b1, q1⟩ := ob19_after b2 qA g1
    have ol1 := ol.gro19 g1 (fun b off n c e => by simp at e; obtain ⟨⟨rfl, rfl⟩, rfl, rfl⟩ := e; rw [own_mk19]; exact Or.inr (by simp)) nl
    refine koH hK (SF.out _ b1) fun hHeld => ?_
    clear hK K' hHeld o2' g1 qA ol nl b2
    refine rnH 7 (fun K' hK => ?_)
    refine step_append_obs rfl (.tmp 44) (.tmp 46) rfl 0 v1 ([] ++ TL) rfl o1 (.slice (some ⟨wx.heap.size, 0, none⟩) 1 1) [⟨⟨ky, ln, ep, st⟩, .slice sa st.length sc⟩] rfl ol1 (CapO.some (Nat.le_refl _)) (fun c hc => by simp only [List.mem_singleton] at hc; rw [hc]; exact near_old19 (INB.out wx (Below.refl _ _)) b1.size q1) (by have := LENS.out; simp; omega) (Nat.zero_le _) ?_
    intro v2 w2 o2 g2
    obtain ⟨b3, q3⟩ := ob19_after b1 q1 g2
    clear g2 q1 ol1 o1 b1
    exact wl_lastD) : p := h
set_option maxRecDepth 100000 in
set_option maxHeartbeats 4000000 in
theorem rwith19_any {w : World} {va : Option Addr} {vc : Nat} {LV : List ObV} (hv : RdO w (.slice va LV.length vc) LV) (hcap : CapO (.slice va LV.length vc)) (hform : va = none ∨ ∃ b off, va = some ⟨b, off, none⟩) (ll : LV.length ≤ 1000) {c : ObV} (hc : ObOk w c) :
    Calls Try.prog 36 #[.slice va LV.length vc, .agg #[.string ⟨c.o.key.toArray⟩, .int .i64 c.o.len, .int .i64 c.o.ep, c.vs]] w (With19 w LV c) := by
  obtain ⟨⟨ky, ln, ep, st⟩, vs⟩ := c
  obtain ⟨sa, sc, esv⟩ := hc.rs.form
  simp only at esv
  subst esv
  obtain ⟨W, hW⟩ : ∃ W, W = w.alloc (.cells #[.string ⟨ky.toArray⟩, .int .i64 ln, .int .i64 ep, .slice sa st.length sc] 52) := ⟨_, rfl⟩
  have TB : Hid (∀ V, Below W.heap.size W V → Below w.heap.size w V ∧ V.cell? ⟨w.heap.size, 0, none⟩ = some (.string ⟨ky.toArray⟩) ∧ V.cell? ⟨w.heap.size, 1, none⟩ = some (.int .i64 ln) ∧ V.cell? ⟨w.heap.size, 2, none⟩ = some (.int .i64 ep) ∧ V.cell? ⟨w.heap.size, 3, none⟩ = some (.slice sa st.length sc) ∧ ∀ j, V.frozen? ⟨w.heap.size, j, none⟩ = false) := by rw [hW]; exact obox _ _ _ _ _ _
  have HC := hidC hc
  have HV := hidC hv
  have HK := hidC hcap
  clear hc hv hcap
  go_enter Try.func36, Try.ntmps36
  go_wp2_with fail
  rw [← hW]
  clear hW
  go_loopw [5] (fun i wr => ∃ r : Nat, r ≤ LV.length ∧ i = .int .i64 (r : Int) ∧ Hid (Below W.heap.size W wr) ∧ Hid (∀ j, j < r → ltK (LV.getD j default).o.key ky)) (fun i _ => LV.length - (intOf i).toNat)
  case atStart => exact ⟨0, Nat.zero_le _, rfl, Below.refl _ _, fun j hj => absurd hj (Nat.not_lt_zero _)⟩
  case round =>
    obtain ⟨r, hr, rfl, hB, hj⟩ := hrel
    obtain ⟨BW, q0, _⟩ := TB.out wr hB.out
    by_cases hlt : r < LV.length
    · have hlt' : (r : Int) < (LV.length : Int) := by omega
      obtain ⟨b, off, ea, hb, cz⟩ := (HV.out.below BW).at hlt
      subst ea
      have s0 := cz.c0
      have NX : Hid (ltK (LV.getD r default).o.key ky → ∀ j, j < r + 1 → ltK (LV.getD j default).o.key ky) := fun q j hj2 => by
        by_cases e : j = r
        · rw [e]; exact q
        · exact hj.out j (by omega)
      obtain ⟨y, hy⟩ : ∃ y, Hid ((LV.getD r default).o.key = y) := ⟨_, rfl⟩
      rw [hy.out] at s0 NX
      have t0 : wr.cell? ⟨b, off + r * 4, none⟩ = some (.string ⟨y.toArray⟩) := s0
      have C2 := And.intro t0 q0
      clear cz s0 t0 q0
      go_wp2_with fail
      refine wp_region_held_drew (S := fun V => V.cell? ⟨b, off + r * 4, none⟩ = some (.string ⟨y.toArray⟩) ∧ V.cell? ⟨w.heap.size, 0, none⟩ = some (.string ⟨ky.toArray⟩)) (by kernel_rfl) C2 (fun hHeld => ?_)
      refine tkH 0 ?_
      refine tkH 1 ?_
      refine tkH 2 ?_
      refine tkH 3 ?_
      refine tkH 4 ?_
      refine tkH 5 ?_
      refine tkH 6 ?_
      refine tkH 7 ?_
      refine tkH 8 ?_
      refine tkH 9 ?_
      refine tkH 10 ?_
      refine tkH 11 ?_
      refine tkH 12 ?_
      refine tkH 13 ?_
      refine wpAnyH_done (by kernel_rfl) ?_ _
      clear hHeld C2
      generalize hbv : Op.bytesLess y ky = bv
      cases bv with
      | true =>
        have N2 := hidC (NX.out hbv)
        have B2 := hidC hB.out.drew
        clear NX hj hB BW hy hbv
        go_wp2
        go_roundw
        case rel => exact ⟨r + 1, by omega, by go_num, B2, N2⟩
        case measure => simp [intOf]; omega
      | false =>
        have NE : Hid (¬ ltK (LV.getD r default).o.key ky) := by
          show ¬ _
          rw [hy.out]
          intro q
          have q' : Op.bytesLess y ky = true := q
          rw [hbv] at q'
          cases q'
        have CAPV := (HK.out _ _ _ rfl).1
        obtain ⟨wx, ewx⟩ : ∃ x, x = wr.drew := ⟨_, rfl⟩
        have BX : Hid (Below W.heap.size W wx) := by rw [ewx]; exact hB.out.drew
        rw [← ewx]
        clear ewx NX hB BW hbv hb
        have hvc : (LV.length : Int) ≤ (vc : Int) := by omega
        have hrv : r ≤ vc := by omega
        have t0 : wx.cell? ⟨b, off + r * 4, none⟩ = some (.string ⟨y.toArray⟩) := by
          obtain ⟨b9, off9, e9, _, z9⟩ := (HV.out.below (TB.out wx BX.out).1).at hlt
          simp at e9
          obtain ⟨rfl, rfl⟩ := e9
          have z0 := z9.c0
          rw [hy.out] at z0
          exact z0
        have q0 := (TB.out wx BX.out).2.1
        have C5 := And.intro t0 q0
        have hp1 : decide (0 < LV.length - r) = true := decide_eq_true (by omega)
        have hp0 : 0 < LV.length - r := by omega
        have CAPL0 : CapO (.slice (some ⟨b, off, none⟩) r vc) := CapO.some (by omega)
        clear t0 q0
        go_wp2_with fail
        refine wp_region_held_drew (S := fun V => V.cell? ⟨b, off + r * 4, none⟩ = some (.string ⟨y.toArray⟩) ∧ V.cell? ⟨w.heap.size, 0, none⟩ = some (.string ⟨ky.toArray⟩)) (by kernel_rfl) C5 (fun hHeld => ?_)
        refine tkH 0 ?_
        refine tkH 1 ?_
        refine tkH 2 ?_
        refine tkH 3 ?_
        refine tkH 4 ?_
        refine tkH 5 ?_
        refine tkH 6 ?_
        refine tkH 7 ?_
        refine tkH 8 ?_
        refine tkH 9 ?_
        refine tkH 10 ?_
        refine tkH 11 ?_
        refine wpAnyH_done (by kernel_rfl) ?_ _
        clear hHeld C5
        obtain ⟨wz, ewz⟩ : ∃ x, x = wx.drew := ⟨_, rfl⟩
        have BZ : Hid (Below W.heap.size W wz) := by rw [ewz]; exact BX.out.drew
        rw [← ewz]
        clear ewz BX
        have BX := BZ
        clear BZ
        obtain ⟨wx, ewx⟩ : ∃ x, x = wz := ⟨_, rfl⟩
        subst ewx
        generalize hek : (y == ky) = ev
        cases ev with
        | true =>
          have ek : y = ky := by simpa using hek
          clear hek
          have ek' := ek.symm
          subst ek'
          clear ek
          by_cases hv1 : vc - r = 1
          · have hv2 : LV.length - r - 1 = 0 := by omega
            clear hv2
            have CAPR0 : CapO (.slice (some ⟨b, off + r * 4, none⟩) (LV.length - r - 1) 0) := CapO.some (by omega)
            have hp2 : (1 : Int) ≤ ((LV.length - r : Nat) : Int) := by omega
            go_wp2_with fail
            obtain ⟨TL, hTL⟩ : ∃ T, T = LV.take r := ⟨_, rfl⟩
            obtain ⟨TR, hTR⟩ : ∃ T, T = LV.drop (r + 1) := ⟨_, rfl⟩
            have BWx := (TB.out wx BX.out).1
            have hvx := HV.out.below BWx
            have HTL := hidC (show RdO wx (.slice (some ⟨b, off, none⟩) r vc) TL by rw [hTL]; exact hvx.take19 (by omega) rfl)
            have HTR := hidC (show RdO wx (.slice (some ⟨b, off + r * 4, none⟩) (LV.length - r - 1) 0) TR by rw [hTR]; exact Or.inl ⟨_, _, by rw [List.drop_eq_nil_iff]; omega, by rw [show LV.length - r - 1 = 0 by omega]⟩)
            have CAPL : Hid (CapO (.slice (some ⟨b, off, none⟩) r vc)) := CAPL0
            have CAPR : Hid (CapO (.slice (some ⟨b, off + r * 4, none⟩) (LV.length - r - 1) 0)) := CAPR0
            have INL := hidC (rdO_ok HTL.out)
            have INR := hidC (rdO_ok HTR.out)
            have LENS : Hid (TL.length ≤ 1000 ∧ TR.length ≤ 1000) := by
              rw [hTL, hTR]
              exact ⟨by simp; omega, by simp; omega⟩
            have EQ : oL (((([] : List ObV) ++ TL) ++ [(⟨⟨ky, ln, ep, st⟩, .slice sa st.length sc⟩ : ObV)]) ++ TR) = wiC (oL LV) ⟨ky, ln, ep, st⟩ := by
              rw [hTL, hTR, List.nil_append, oL_app, oL_app, oL_take, oL_drop, wiC_at (n := r) (by rw [oL_length]; omega) (fun i hi => by rw [oL_getD]; exact hj.out i hi) (fun _ => by rw [oL_getD]; exact NE.out), if_pos ⟨by rw [oL_length]; exact hlt, by rw [oL_getD]; exact hy.out⟩, List.append_assoc]; rfl
            have FIN := hidC (with_fin (c := ⟨⟨ky, ln, ep, st⟩, .slice sa st.length sc⟩) (TB.out W (Below.refl _ _)).1.size BWx BX.out.size EQ (by rw [hTL]; exact fun x hx => List.mem_of_mem_take hx) (by rw [hTR]; exact fun x hx => List.mem_of_mem_drop hx))
            have SF : Hid (∀ V, Below wx.heap.size wx V → (V.cell? ⟨w.heap.size, 0, none⟩ = some (.string ⟨ky.toArray⟩) ∧ V.cell? ⟨w.heap.size, 1, none⟩ = some (.int .i64 ln) ∧ V.cell? ⟨w.heap.size, 2, none⟩ = some (.int .i64 ep) ∧ V.cell? ⟨w.heap.size, 3, none⟩ = some (.slice sa st.length sc))) := fun V bV => by
              obtain ⟨_, q0, q1, q2, q3, _⟩ := TB.out V (BX.out.step16 bV BX.out.size)
              exact ⟨q0, q1, q2, q3⟩
            have INB : Hid (∀ V, Below wx.heap.size wx V → ObOk V ⟨⟨ky, ln, ep, st⟩, .slice sa st.length sc⟩) := fun V bV => ⟨HC.out.wl, HC.out.we, HC.out.ky, HC.out.rs.below (TB.out V (BX.out.step16 bV BX.out.size)).1, HC.out.wi⟩
            clear hTL hTR EQ TB HC HV HK BX BWx hvx CAPL0 CAPR0
            exact wi_lastD
          · skip
            have CAPR0 : CapO (.slice (some ⟨b, off + r * 4 + 4, none⟩) (LV.length - r - 1) (vc - r - 1)) := CapO.some (by omega)
            have hp2 : (1 : Int) ≤ ((LV.length - r : Nat) : Int) := by omega
            go_wp2_with fail
            obtain ⟨TL, hTL⟩ : ∃ T, T = LV.take r := ⟨_, rfl⟩
            obtain ⟨TR, hTR⟩ : ∃ T, T = LV.drop (r + 1) := ⟨_, rfl⟩
            have BWx := (TB.out wx BX.out).1
            have hvx := HV.out.below BWx
            have HTL := hidC (show RdO wx (.slice (some ⟨b, off, none⟩) r vc) TL by rw [hTL]; exact hvx.take19 (by omega) rfl)
            have HTR := hidC (show RdO wx (.slice (some ⟨b, off + r * 4 + 4, none⟩) (LV.length - r - 1) (vc - r - 1)) TR by rw [hTR]; rw [show off + r * 4 + 4 = off + (r + 1) * 4 by omega]; exact hvx.drop19 (by omega) (by omega))
            have CAPL : Hid (CapO (.slice (some ⟨b, off, none⟩) r vc)) := CAPL0
            have CAPR : Hid (CapO (.slice (some ⟨b, off + r * 4 + 4, none⟩) (LV.length - r - 1) (vc - r - 1))) := CAPR0
            have INL := hidC (rdO_ok HTL.out)
            have INR := hidC (rdO_ok HTR.out)
            have LENS : Hid (TL.length ≤ 1000 ∧ TR.length ≤ 1000) := by
              rw [hTL, hTR]
              exact ⟨by simp; omega, by simp; omega⟩
            have EQ : oL (((([] : List ObV) ++ TL) ++ [(⟨⟨ky, ln, ep, st⟩, .slice sa st.length sc⟩ : ObV)]) ++ TR) = wiC (oL LV) ⟨ky, ln, ep, st⟩ := by
              rw [hTL, hTR, List.nil_append, oL_app, oL_app, oL_take, oL_drop, wiC_at (n := r) (by rw [oL_length]; omega) (fun i hi => by rw [oL_getD]; exact hj.out i hi) (fun _ => by rw [oL_getD]; exact NE.out), if_pos ⟨by rw [oL_length]; exact hlt, by rw [oL_getD]; exact hy.out⟩, List.append_assoc]; rfl
            have FIN := hidC (with_fin (c := ⟨⟨ky, ln, ep, st⟩, .slice sa st.length sc⟩) (TB.out W (Below.refl _ _)).1.size BWx BX.out.size EQ (by rw [hTL]; exact fun x hx => List.mem_of_mem_take hx) (by rw [hTR]; exact fun x hx => List.mem_of_mem_drop hx))
            have SF : Hid (∀ V, Below wx.heap.size wx V → (V.cell? ⟨w.heap.size, 0, none⟩ = some (.string ⟨ky.toArray⟩) ∧ V.cell? ⟨w.heap.size, 1, none⟩ = some (.int .i64 ln) ∧ V.cell? ⟨w.heap.size, 2, none⟩ = some (.int .i64 ep) ∧ V.cell? ⟨w.heap.size, 3, none⟩ = some (.slice sa st.length sc))) := fun V bV => by
              obtain ⟨_, q0, q1, q2, q3, _⟩ := TB.out V (BX.out.step16 bV BX.out.size)
              exact ⟨q0, q1, q2, q3⟩
            have INB : Hid (∀ V, Below wx.heap.size wx V → ObOk V ⟨⟨ky, ln, ep, st⟩, .slice sa st.length sc⟩) := fun V bV => ⟨HC.out.wl, HC.out.we, HC.out.ky, HC.out.rs.below (TB.out V (BX.out.step16 bV BX.out.size)).1, HC.out.wi⟩
            clear hTL hTR EQ TB HC HV HK BX BWx hvx CAPL0 CAPR0
            exact wi_lastB
        | false =>
          have ek : ¬ y = ky := by simpa using hek
          clear hek
          have CAPR0 : CapO (.slice (some ⟨b, off + r * 4, none⟩) (LV.length - r) (vc - r)) := CapO.some (by omega)
          go_wp2_with fail
          obtain ⟨TL, hTL⟩ : ∃ T, T = LV.take r := ⟨_, rfl⟩
          obtain ⟨TR, hTR⟩ : ∃ T, T = LV.drop r := ⟨_, rfl⟩
          have BWx := (TB.out wx BX.out).1
          have hvx := HV.out.below BWx
          have HTL := hidC (show RdO wx (.slice (some ⟨b, off, none⟩) r vc) TL by rw [hTL]; exact hvx.take19 (by omega) rfl)
          have HTR := hidC (show RdO wx (.slice (some ⟨b, off + r * 4, none⟩) (LV.length - r) (vc - r)) TR by rw [hTR]; exact hvx.drop19 (by omega) rfl)
          have CAPL : Hid (CapO (.slice (some ⟨b, off, none⟩) r vc)) := CAPL0
          have CAPR : Hid (CapO (.slice (some ⟨b, off + r * 4, none⟩) (LV.length - r) (vc - r))) := CAPR0
          have INL := hidC (rdO_ok HTL.out)
          have INR := hidC (rdO_ok HTR.out)
          have LENS : Hid (TL.length ≤ 1000 ∧ TR.length ≤ 1000) := by
            rw [hTL, hTR]
            exact ⟨by simp; omega, by simp; omega⟩
          have EQ : oL (((([] : List ObV) ++ TL) ++ [(⟨⟨ky, ln, ep, st⟩, .slice sa st.length sc⟩ : ObV)]) ++ TR) = wiC (oL LV) ⟨ky, ln, ep, st⟩ := by
            rw [hTL, hTR, List.nil_append, oL_app, oL_app, oL_take, oL_drop, wiC_at (n := r) (by rw [oL_length]; omega) (fun i hi => by rw [oL_getD]; exact hj.out i hi) (fun _ => by rw [oL_getD]; exact NE.out), if_neg (fun q => ek (by have := q.2; rw [oL_getD, hy.out] at this; exact this)), List.append_assoc]; rfl
          have FIN := hidC (with_fin (c := ⟨⟨ky, ln, ep, st⟩, .slice sa st.length sc⟩) (TB.out W (Below.refl _ _)).1.size BWx BX.out.size EQ (by rw [hTL]; exact fun x hx => List.mem_of_mem_take hx) (by rw [hTR]; exact fun x hx => List.mem_of_mem_drop hx))
          have SF : Hid (∀ V, Below wx.heap.size wx V → (V.cell? ⟨w.heap.size, 0, none⟩ = some (.string ⟨ky.toArray⟩) ∧ V.cell? ⟨w.heap.size, 1, none⟩ = some (.int .i64 ln) ∧ V.cell? ⟨w.heap.size, 2, none⟩ = some (.int .i64 ep) ∧ V.cell? ⟨w.heap.size, 3, none⟩ = some (.slice sa st.length sc))) := fun V bV => by
            obtain ⟨_, q0, q1, q2, q3, _⟩ := TB.out V (BX.out.step16 bV BX.out.size)
            exact ⟨q0, q1, q2, q3⟩
          have INB : Hid (∀ V, Below wx.heap.size wx V → ObOk V ⟨⟨ky, ln, ep, st⟩, .slice sa st.length sc⟩) := fun V bV => ⟨HC.out.wl, HC.out.we, HC.out.ky, HC.out.rs.below (TB.out V (BX.out.step16 bV BX.out.size)).1, HC.out.wi⟩
          clear hTL hTR EQ TB HC HV HK BX BWx hvx CAPL0 CAPR0
          exact wi_lastA
    · obtain rfl : r = LV.length := by omega
      have hge : ¬ (LV.length : Int) < (LV.length : Int) := by omega
      have HJ := hidC hj.out
      clear hj
      go_wp2_with fail
      refine wp_region_held_drew (S := fun V => V.cell? ⟨w.heap.size, 0, none⟩ = some (.string ⟨ky.toArray⟩)) (by kernel_rfl) q0 (fun hHeld => ?_)
      refine tkH 0 ?_
      refine tkH 1 ?_
      refine tkH 2 ?_
      refine tkH 3 ?_
      refine tkH 4 ?_
      refine skH 5 ?_
      refine skH 6 ?_
      refine skH 7 ?_
      refine skH 8 ?_
      refine skH 9 ?_
      refine skH 10 ?_
      refine skH 11 ?_
      refine skH 12 ?_
      refine tkH 13 ?_
      refine wpAnyH_done (by kernel_rfl) ?_ _
      clear hHeld q0
      obtain ⟨wy, ewy⟩ : ∃ x, x = wr.drew := ⟨_, rfl⟩
      have BY : Hid (Below W.heap.size W wy) := by rw [ewy]; exact hB.out.drew
      rw [← ewy]
      clear ewy hB BW
      have CAPV := HK.out _ _ _ rfl
      rcases hform with rfl | ⟨b, off, rfl⟩
      · have e9 := CAPV.2 rfl
        subst e9
        have l0 : LV.length = 0 := by have := CAPV.1; omega
        have e0 : LV = [] := List.length_eq_zero_iff.1 l0
        subst e0
        go_wp2_with fail
        have C5 := (TB.out wy BY.out).2.1
        refine wp_region_held_drew (S := fun V => V.cell? ⟨w.heap.size, 0, none⟩ = some (.string ⟨ky.toArray⟩)) (by kernel_rfl) C5 (fun hHeld => ?_)
        refine tkH 0 ?_
        refine tkH 1 ?_
        refine tkH 2 ?_
        refine tkH 3 ?_
        refine skH 4 ?_
        refine skH 5 ?_
        refine skH 6 ?_
        refine skH 7 ?_
        refine skH 8 ?_
        refine skH 9 ?_
        refine skH 10 ?_
        refine tkH 11 ?_
        refine wpAnyH_done (by kernel_rfl) ?_ _
        clear hHeld C5
        obtain ⟨wx, ewx⟩ : ∃ x, x = wy.drew := ⟨_, rfl⟩
        have BX : Hid (Below W.heap.size W wx) := by rw [ewx]; exact BY.out.drew
        rw [← ewx]
        clear ewx BY
        go_wp2_with fail
        obtain ⟨TL, hTL⟩ : ∃ T : List ObV, T = [] := ⟨_, rfl⟩
        obtain ⟨TR, hTR⟩ : ∃ T : List ObV, T = [] := ⟨_, rfl⟩
        have BWx := (TB.out wx BX.out).1
        have hvx := HV.out.below BWx
        have HTL := hidC (show RdO wx (.slice none 0 0) TL by rw [hTL]; exact hvx)
        have HTR := hidC (show RdO wx (.slice none 0 0) TR by rw [hTR]; exact Or.inl ⟨_, _, rfl, rfl⟩)
        have CAPL : Hid (CapO (.slice none 0 0)) := CapO.nil
        have CAPR : Hid (CapO (.slice none 0 0)) := CapO.nil
        have INL := hidC (rdO_ok HTL.out)
        have INR := hidC (rdO_ok HTR.out)
        have LENS : Hid (TL.length ≤ 1000 ∧ TR.length ≤ 1000) := by
          rw [hTL, hTR]
          exact ⟨Nat.zero_le _, Nat.zero_le _⟩
        have EQ : oL (((([] : List ObV) ++ TL) ++ [(⟨⟨ky, ln, ep, st⟩, .slice sa st.length sc⟩ : ObV)]) ++ TR) = wiC (oL []) ⟨ky, ln, ep, st⟩ := by
          rw [hTL, hTR]; rfl
        have FIN := hidC (with_fin (c := ⟨⟨ky, ln, ep, st⟩, .slice sa st.length sc⟩) (TB.out W (Below.refl _ _)).1.size BWx BX.out.size EQ (by rw [hTL]; exact fun x hx => hx) (by rw [hTR]; exact fun x hx => by cases hx))
        have SF : Hid (∀ V, Below wx.heap.size wx V → (V.cell? ⟨w.heap.size, 0, none⟩ = some (.string ⟨ky.toArray⟩) ∧ V.cell? ⟨w.heap.size, 1, none⟩ = some (.int .i64 ln) ∧ V.cell? ⟨w.heap.size, 2, none⟩ = some (.int .i64 ep) ∧ V.cell? ⟨w.heap.size, 3, none⟩ = some (.slice sa st.length sc))) := fun V bV => by
          obtain ⟨_, q0, q1, q2, q3, _⟩ := TB.out V (BX.out.step16 bV BX.out.size)
          exact ⟨q0, q1, q2, q3⟩
        have INB : Hid (∀ V, Below wx.heap.size wx V → ObOk V ⟨⟨ky, ln, ep, st⟩, .slice sa st.length sc⟩) := fun V bV => ⟨HC.out.wl, HC.out.we, HC.out.ky, HC.out.rs.below (TB.out V (BX.out.step16 bV BX.out.size)).1, HC.out.wi⟩
        clear hTL hTR EQ TB HC HV HK BX BWx hvx HJ
        exact wi_lastN
      · by_cases hv : vc = LV.length
        · subst hv
          go_wp2_with fail
          have C5 := (TB.out wy BY.out).2.1
          refine wp_region_held_drew (S := fun V => V.cell? ⟨w.heap.size, 0, none⟩ = some (.string ⟨ky.toArray⟩)) (by kernel_rfl) C5 (fun hHeld => ?_)
          refine tkH 0 ?_
          refine tkH 1 ?_
          refine tkH 2 ?_
          refine tkH 3 ?_
          refine skH 4 ?_
          refine skH 5 ?_
          refine skH 6 ?_
          refine skH 7 ?_
          refine skH 8 ?_
          refine skH 9 ?_
          refine skH 10 ?_
          refine tkH 11 ?_
          refine wpAnyH_done (by kernel_rfl) ?_ _
          clear hHeld C5
          obtain ⟨wx, ewx⟩ : ∃ x, x = wy.drew := ⟨_, rfl⟩
          have BX : Hid (Below W.heap.size W wx) := by rw [ewx]; exact BY.out.drew
          rw [← ewx]
          clear ewx BY
          go_wp2_with fail
          obtain ⟨TL, hTL⟩ : ∃ T, T = LV := ⟨_, rfl⟩
          obtain ⟨TR, hTR⟩ : ∃ T : List ObV, T = [] := ⟨_, rfl⟩
          have BWx := (TB.out wx BX.out).1
          have hvx := HV.out.below BWx
          have HTL := hidC (show RdO wx (.slice (some ⟨b, off, none⟩) LV.length LV.length) TL by rw [hTL]; exact hvx)
          have HTR := hidC (show RdO wx (.slice (some ⟨b, off, none⟩) 0 0) TR by rw [hTR]; exact Or.inl ⟨_, _, rfl, rfl⟩)
          have CAPL : Hid (CapO (.slice (some ⟨b, off, none⟩) LV.length LV.length)) := CapO.some (Nat.le_refl _)
          have CAPR : Hid (CapO (.slice (some ⟨b, off, none⟩) 0 0)) := CapO.some (Nat.le_refl _)
          have INL := hidC (rdO_ok HTL.out)
          have INR := hidC (rdO_ok HTR.out)
          have LENS : Hid (TL.length ≤ 1000 ∧ TR.length ≤ 1000) := by
            rw [hTL, hTR]
            exact ⟨ll, Nat.zero_le _⟩
          have EQ : oL (((([] : List ObV) ++ TL) ++ [(⟨⟨ky, ln, ep, st⟩, .slice sa st.length sc⟩ : ObV)]) ++ TR) = wiC (oL LV) ⟨ky, ln, ep, st⟩ := by
            rw [hTL, hTR, List.nil_append, List.append_nil, oL_app, wiC_end (fun x hx => by
              obtain ⟨c, hc, rfl⟩ := List.mem_map.1 hx
              obtain ⟨i, hi, e⟩ := List.getElem_of_mem hc
              have := HJ.out i hi
              rwa [show LV.getD i default = LV[i] by simp [List.getD, hi], e] at this)]
            rfl
          have FIN := hidC (with_fin (c := ⟨⟨ky, ln, ep, st⟩, .slice sa st.length sc⟩) (TB.out W (Below.refl _ _)).1.size BWx BX.out.size EQ (by rw [hTL]; exact fun x hx => hx) (by rw [hTR]; exact fun x hx => by cases hx))
          have SF : Hid (∀ V, Below wx.heap.size wx V → (V.cell? ⟨w.heap.size, 0, none⟩ = some (.string ⟨ky.toArray⟩) ∧ V.cell? ⟨w.heap.size, 1, none⟩ = some (.int .i64 ln) ∧ V.cell? ⟨w.heap.size, 2, none⟩ = some (.int .i64 ep) ∧ V.cell? ⟨w.heap.size, 3, none⟩ = some (.slice sa st.length sc))) := fun V bV => by
            obtain ⟨_, q0, q1, q2, q3, _⟩ := TB.out V (BX.out.step16 bV BX.out.size)
            exact ⟨q0, q1, q2, q3⟩
          have INB : Hid (∀ V, Below wx.heap.size wx V → ObOk V ⟨⟨ky, ln, ep, st⟩, .slice sa st.length sc⟩) := fun V bV => ⟨HC.out.wl, HC.out.we, HC.out.ky, HC.out.rs.below (TB.out V (BX.out.step16 bV BX.out.size)).1, HC.out.wi⟩
          clear hTL hTR EQ TB HC HV HK BX BWx hvx HJ
          exact wi_lastF
        · have hvc : (LV.length : Int) ≤ (vc : Int) := by have := CAPV.1; omega
          have hrv : LV.length ≤ vc := CAPV.1
          go_wp2_with fail
          have C5 := (TB.out wy BY.out).2.1
          refine wp_region_held_drew (S := fun V => V.cell? ⟨w.heap.size, 0, none⟩ = some (.string ⟨ky.toArray⟩)) (by kernel_rfl) C5 (fun hHeld => ?_)
          refine tkH 0 ?_
          refine tkH 1 ?_
          refine tkH 2 ?_
          refine tkH 3 ?_
          refine skH 4 ?_
          refine skH 5 ?_
          refine skH 6 ?_
          refine skH 7 ?_
          refine skH 8 ?_
          refine skH 9 ?_
          refine skH 10 ?_
          refine tkH 11 ?_
          refine wpAnyH_done (by kernel_rfl) ?_ _
          clear hHeld C5
          obtain ⟨wx, ewx⟩ : ∃ x, x = wy.drew := ⟨_, rfl⟩
          have BX : Hid (Below W.heap.size W wx) := by rw [ewx]; exact BY.out.drew
          rw [← ewx]
          clear ewx BY
          go_wp2_with fail
          obtain ⟨TL, hTL⟩ : ∃ T, T = LV := ⟨_, rfl⟩
          obtain ⟨TR, hTR⟩ : ∃ T : List ObV, T = [] := ⟨_, rfl⟩
          have BWx := (TB.out wx BX.out).1
          have hvx := HV.out.below BWx
          have HTL := hidC (show RdO wx (.slice (some ⟨b, off, none⟩) LV.length vc) TL by rw [hTL]; exact hvx)
          have HTR := hidC (show RdO wx (.slice (some ⟨b, off + LV.length * 4, none⟩) 0 (vc - LV.length)) TR by rw [hTR]; exact Or.inl ⟨_, _, rfl, rfl⟩)
          have CAPL : Hid (CapO (.slice (some ⟨b, off, none⟩) LV.length vc)) := CapO.some hrv
          have CAPR : Hid (CapO (.slice (some ⟨b, off + LV.length * 4, none⟩) 0 (vc - LV.length))) := CapO.some (Nat.zero_le _)
          have INL := hidC (rdO_ok HTL.out)
          have INR := hidC (rdO_ok HTR.out)
          have LENS : Hid (TL.length ≤ 1000 ∧ TR.length ≤ 1000) := by
            rw [hTL, hTR]
            exact ⟨ll, Nat.zero_le _⟩
          have EQ : oL (((([] : List ObV) ++ TL) ++ [(⟨⟨ky, ln, ep, st⟩, .slice sa st.length sc⟩ : ObV)]) ++ TR) = wiC (oL LV) ⟨ky, ln, ep, st⟩ := by
            rw [hTL, hTR, List.nil_append, List.append_nil, oL_app, wiC_end (fun x hx => by
              obtain ⟨c, hc, rfl⟩ := List.mem_map.1 hx
              obtain ⟨i, hi, e⟩ := List.getElem_of_mem hc
              have := HJ.out i hi
              rwa [show LV.getD i default = LV[i] by simp [List.getD, hi], e] at this)]
            rfl
          have FIN := hidC (with_fin (c := ⟨⟨ky, ln, ep, st⟩, .slice sa st.length sc⟩) (TB.out W (Below.refl _ _)).1.size BWx BX.out.size EQ (by rw [hTL]; exact fun x hx => hx) (by rw [hTR]; exact fun x hx => by cases hx))
          have SF : Hid (∀ V, Below wx.heap.size wx V → (V.cell? ⟨w.heap.size, 0, none⟩ = some (.string ⟨ky.toArray⟩) ∧ V.cell? ⟨w.heap.size, 1, none⟩ = some (.int .i64 ln) ∧ V.cell? ⟨w.heap.size, 2, none⟩ = some (.int .i64 ep) ∧ V.cell? ⟨w.heap.size, 3, none⟩ = some (.slice sa st.length sc))) := fun V bV => by
            obtain ⟨_, q0, q1, q2, q3, _⟩ := TB.out V (BX.out.step16 bV BX.out.size)
            exact ⟨q0, q1, q2, q3⟩
          have INB : Hid (∀ V, Below wx.heap.size wx V → ObOk V ⟨⟨ky, ln, ep, st⟩, .slice sa st.length sc⟩) := fun V bV => ⟨HC.out.wl, HC.out.we, HC.out.ky, HC.out.rs.below (TB.out V (BX.out.step16 bV BX.out.size)).1, HC.out.wi⟩
          clear hTL hTR EQ TB HC HV HK BX BWx hvx HJ
          exact wi_lastE
end Go.Proofs.Ytndlfmofjmieaaa.Gf
