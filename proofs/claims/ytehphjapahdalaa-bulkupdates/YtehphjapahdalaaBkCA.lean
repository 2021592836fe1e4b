/-
  THE PROGRAM's 'copied' AND 'adding' BY CONTRACT, and the closure that 'adding' makes.
-/
import Derived.Test.YtehphjapahdalaaBkRd
import Derived.Test.YtehphjapahdalaaCaCP
import Derived.Deep.RegionWith
namespace Go.Proofs.Ytehphjapahdalaa.Gf
set_option linter.unusedVariables false
set_option linter.unusedSimpArgs false
open Go.RowKit

theorem fmu_quiet {b : Nat} {w : World} (hF : FieldAt w b) (a c : UInt8) {x y : Int} (hx : x = ((a.toNat : Nat) : Int)) (hy : y = ((c.toNat : Nat) : Int)) :
    Calls Try.prog 40 #[.pointer (some ⟨b, 0, none⟩), .int .u8 x, .int .u8 y] w fun e w' => e = .returned (.int .u8 ((mu a c).toNat : Nat)) ∧ ∃ n, w' = w.drewN n := by
  rw [mu_toNat]
  exact mul_at hF a.toNat c.toNat hx hy (u8_lt a) (u8_lt c)
/-- a row and a multiple of a shard, for the first k places -/
def addR (f : Nat → UInt8) (a : UInt8) (q : List UInt8) (k : Nat) (t : Nat) : UInt8 := if t < k then f t ^^^ mu a (co q t) else f t
theorem addR_zero (f : Nat → UInt8) (a : UInt8) (q : List UInt8) : addR f a q 0 = f := by funext t; exact if_neg (by omega)
theorem addR_step (f : Nat → UInt8) (a : UInt8) (q : List UInt8) (k t : Nat) : addR f a q (k + 1) t = if t = k then f k ^^^ mu a (co q k) else addR f a q k t := by
  unfold addR
  by_cases e : t = k
  · subst e; rw [if_pos (by omega), if_pos rfl]
  · rw [if_neg e]
    by_cases h : t < k
    · rw [if_pos h, if_pos (by omega)]
    · rw [if_neg h, if_neg (by omega)]

set_option maxRecDepth 100000 in
set_option maxHeartbeats 2000000 in
/-- what adds a shard, times a number, to a row: fb its captured variable -/
theorem add1_any {w : World} {base u g n c b fb : Nat} {f : Nat → UInt8} {vq : Value} {q : List UInt8} (a : UInt8) (hF : FieldAt w b) (hbg : b ≠ g) (cf : w.cell? ⟨fb, 0, none⟩ = some (.pointer (some ⟨b, 0, none⟩))) (hfg : fb ≠ g) (hfl : fb < w.heap.size)
    (hR : RowF w base u g n c f) (hq : Rd w vq q) (hap : Apart g vq) (hn : q.length = n) (hL : n ≤ 1000000) {y : Int} (hy : y = ((a.toNat : Nat) : Int)) :
    Calls Try.prog 39 #[.slice (some ⟨g, 0, none⟩) n c, .int .u8 y, vq, .pointer (some ⟨fb, 0, none⟩)] w fun e w' => e = .returned (.tuple #[]) ∧ Only g w w' ∧ RowF w' base u g n c (addR f a q n) := by
  subst hy
  obtain ⟨qa, qc, rfl⟩ := hq.form
  rw [hn]
  go_enter Try.func39, Try.ntmps39
  go_wp2
  go_loopw [11] (fun i wr => ∃ k : Nat, k ≤ n ∧ i = .int .i64 k ∧ Only g w wr ∧ RowF wr base u g n c (addR f a q k)) (fun i _ => n - (intOf i).toNat)
  case atStart => exact ⟨0, by omega, rfl, Only.refl _ _, by rw [addR_zero]; exact hR⟩
  case round =>
    obtain ⟨k, hk, rfl, hO, hRk⟩ := hrel
    by_cases hlt : k < n
    · have hq2 := hq.only hap hO
      rw [hn] at hq2
      obtain ⟨qb, qo, rfl, _, ct⟩ := hq2.byte (i := k) (by omega)
      have c1 := hRk.cell hlt
      have f1 := hRk.unfrozen k
      have cf2 := (hO.cell (p := ⟨fb, 0, none⟩) hfg).trans cf
      have e1 : addR f a q k k = f k := if_neg (by omega)
      rw [e1] at c1
      have E := xor_u8 (f k) (mu a (co q k))
      have HN : Hid (RowF (wr.setCell ⟨g, k, none⟩ (.int .u8 (((f k).toNat ^^^ (mu a (co q k)).toNat : Nat) : Int))) base u g n c (addR f a q (k + 1))) := by
        rw [← UInt8.toNat_xor]
        exact hRk.store hlt _ fun s => addR_step _ _ _ _ _
      have HO : Hid (Only g w (wr.setCell ⟨g, k, none⟩ (.int .u8 (((f k).toNat ^^^ (mu a (co q k)).toNat : Nat) : Int)))) := hO.setCell k _
      have hFr := hF.only hbg hO
      have hlt' : (k : Int) < (n : Int) := by omega
      clear hRk hO hR e1 hq hap hn hq2 hF cf
      go_wp2
      go_region_with ((go_at_call 40; refine (fmu_quiet (hFr.drewN _) a (co q k) rfl rfl).mono ?_; rintro e w' ⟨rfl, d, rfl⟩))
      all_goals go_wp2
      all_goals
        go_roundw
        case rel => exact ⟨k + 1, by omega, by go_num, HO.out.drewN _, HN.out.drewN _⟩
        case measure => simp [intOf]; omega
    · have e : k = n := by omega
      subst e
      have hge : ¬ (k : Int) < (k : Int) := by omega
      clear hq
      go_wp2
      go_end0
      exact ⟨rfl, hO, hRk⟩

set_option maxRecDepth 100000 in
set_option maxHeartbeats 1000000 in
theorem add0_any {b : Nat} (w : World) : Calls Try.prog 33 #[.pointer (some ⟨b, 0, none⟩)] w fun e w' => ∃ fb, e = .returned (.func (.func 39) #[] #[.pointer (some ⟨fb, 0, none⟩)]) ∧ w'.cell? ⟨fb, 0, none⟩ = some (.pointer (some ⟨b, 0, none⟩)) ∧ w.heap.size ≤ fb ∧ fb < w'.heap.size ∧ Below w.heap.size w w' := by
  go_enter Try.func33, Try.ntmps33
  go_wp2
  go_ret
  exact ⟨_, rfl, by simp, by omega, by simp, (Below.refl _ _).alloc (Nat.le_refl _) _⟩

/-- 'copy' into a row of the call's own -/
theorem run_copy_rd {P : Program} {w : World} (dT sT ty : TypeId) (elem : TypeId) (hu : P.underlying dT = some (.slice elem)) (hsz : (P.info? elem).map (·.size) = some 1)
    {g off n dl dCap : Nat} {va : Value} {p : List UInt8} {base e L : Nat} {f : Nat → UInt8} (hr : Rd w va p) (hn : p.length = n) (hdl : n ≤ dl) (hR : RowF w base e g L L f) (hl : off + n ≤ L) :
    ∃ w', Sem.run P (Builtin.copy_ #[dT, sT] ty #[.slice (some ⟨g, off, none⟩) dl dCap, va]) w = .ok (goInt n) w' ∧ Only g w w' ∧ RowF w' base e g L L (putAt f off n (co p)) := by
  subst hn
  obtain ⟨hg, hm⟩ := hR.heap rfl
  have hlt := hR.lt
  rcases hr with ⟨ao, cap, rfl, rfl, _⟩ | ⟨b, so, cap, hp0, rfl, h1, h2, h3, hpc⟩
  · have hrun := run_copy_none (P := P) w dT sT ty elem (some ⟨g, off, none⟩) ao dl dCap 0 cap hu hsz (Nat.zero_min _)
    exact ⟨w, hrun, Only.refl _ _, by rw [List.length_nil, putAt_zero]; exact hR⟩
  · have hrun := run_copy_row (P := P) w dT sT ty elem g off dl dCap ⟨b, so, none⟩ p.length cap ((upto f L).map vb).toArray e (p.map vb) hu hsz hg (by rw [List.length_map]; exact (Nat.min_eq_left hdl).symm) (by have := news_of (k := p.length) hpc; rwa [List.take_length] at this) (by simp [upto_length]; exact hl) (vb_one p)
    refine ⟨_, by simpa using hrun, only_setRow _ _ _, RowF.of_heap hlt.1 hm ?_⟩
    rw [← splice_upto hl]
    simpa [splice] using setRow_heap w g _ _ e _ hg

set_option maxRecDepth 100000 in
set_option maxHeartbeats 1000000 in
theorem cop_any {v : Value} {p : List UInt8} {w : World} (hp : Rd w v p) (hl : p.length ≤ 100000) : Calls Try.prog 34 #[v] w fun e w' => ∃ g, e = .returned (.slice (some ⟨g, 0, none⟩) p.length p.length) ∧ w.heap.size ≤ g ∧ RowF w' w.heap.size 5 g p.length p.length (co p) ∧ Below w.heap.size w w' := by
  obtain ⟨i0, hi, hz0, hz1, hz2⟩ := info_parts info_u8
  obtain ⟨qa, qc, rfl⟩ := hp.form
  obtain ⟨n, hn⟩ : ∃ n, Hid (n = p.length) := ⟨_, rfl⟩
  rw [← hn.out] at hl hp ⊢
  go_enter Try.func34, Try.ntmps34
  go_wp2_with (at_make; go_loud (refine wpList_make_full _ rfl (.tmp 5) (.tmp 5) 35 rfl w.heap.size 5 i0 (.int .u8 0) 1 Try.underlying35 hi hz0 hz1 _ _ _ _ n rfl rfl (by omega) (by omega) (by rw [hz2]; omega) (by unfold maxLen; omega) (by simp) ?_); intro w1 hown1 hgrow1; have R1 := RowF.made hown1; clear hown1)
  have b1 : Below w.heap.size w w1 := (Below.refl _ _).grown hgrow1 (Nat.le_refl _) (fun k hk => by cases hk)
  clear hgrow1
  have hg1 := R1.lt
  generalize hgg : w.heap.size = g at *
  obtain ⟨w2, hrun, hO, hR⟩ := run_copy_rd (P := Try.prog) 35 35 3 5 Try.underlying35 (by rw [hi]; simp [hz1]) (hp.below (by rw [hgg]; exact b1)) hn.out.symm (Nat.le_refl n) R1 (off := 0) (dCap := n) (by omega)
  rw [hrun]
  have HR : Hid (RowF w2 g 5 g n n (co p)) := hR.congr fun t ht => by unfold putAt; rw [if_pos (by omega), Nat.sub_zero]
  have HO : Hid (Only g w1 w2) := hO
  clear hR hO R1 hp hrun
  go_wp2
  go_ret
  subst hgg
  exact ⟨_, rfl, Nat.le_refl _, HR.out, b1.trans (HO.out.below (Nat.le_refl _))⟩

end Go.Proofs.Ytehphjapahdalaa.Gf
