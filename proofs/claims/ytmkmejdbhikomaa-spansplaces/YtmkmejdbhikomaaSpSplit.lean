/-
  Contracts of spans' Split and of the document's Split: the pieces of a span, each within one of equal parts. Conditions: that the numbers are of 64 bits.
-/
import Derived.Test.YtmkmejdbhikomaaSpJoin
namespace Go.Proofs.Ytmkmejdbhikomaa
open Go.RowKit Plain
set_option linter.unusedVariables false

def spN (s : (Int × Int)) (part : Int) : Int := (s.2 - 1) / part - s.1 / part + 1
def spE (s : (Int × Int)) (part : Int) : Int := if gd s = true ∧ 1 ≤ part then (if 65536 < spN s part then 3 else 0) else 2
def spR (s : (Int × Int)) (part : Int) : List (Int × Int) := if spE s part = 0 then spl part s.2 (s.2 - s.1).toNat s.1 else []
theorem spN_ge (s : (Int × Int)) (part : Int) (hg : s.1 < s.2) (hp : 1 ≤ part) : 1 ≤ spN s part := by
  unfold spN
  have := Int.ediv_le_ediv (show 0 < part by omega) (show s.1 ≤ s.2 - 1 by omega)
  omega
theorem div_le {x part : Int} (hx : 0 ≤ x) (hp : 1 ≤ part) : 0 ≤ x / part ∧ x / part ≤ x := by
  refine ⟨Int.ediv_nonneg hx (by omega), ?_⟩
  exact Int.ediv_le_self _ hx
theorem part_end {c part : Int} (hc : 0 ≤ c) (hc2 : c ≤ 1099511627776) (hp : 1 ≤ part) (hp2 : part ≤ 9223372036854775807) : 0 ≤ c % part ∧ c % part < part ∧ c % part ≤ c ∧ c - c % part + part ≤ 9223372036854775807 := by
  obtain ⟨h1, h2, h3⟩ := part_next part c hp hc
  refine ⟨h1, h2, h3, ?_⟩
  by_cases hl : c < part
  · rw [Int.emod_eq_of_lt hc hl]; omega
  · omega
/-- one piece more. -/
theorem spl_step {part y x c : Int} {J : List (Int × Int)} (hx : (J.length : Int) ≤ c - x) (hc : c < y) (h : spl part y (y - x).toNat x = J ++ spl part y ((y - x).toNat - J.length) c) :
    spl part y (y - x).toNat x = (J ++ [(c, min y (c - c % part + part))]) ++ spl part y ((y - x).toNat - (J.length + 1)) (min y (c - c % part + part)) := by
  rw [h, show (y - x).toNat - J.length = ((y - x).toNat - (J.length + 1)) + 1 by omega, spl, if_pos hc, List.append_assoc]
  rfl
theorem sp_two {s : (Int × Int)} {part : Int} (h : ¬ (gd s = true ∧ 1 ≤ part)) : spE s part = 2 ∧ spR s part = [] := by
  have : spE s part = 2 := if_neg h
  exact ⟨this, if_neg (by rw [this]; decide)⟩
theorem sp_three {s : (Int × Int)} {part : Int} (h : gd s = true ∧ 1 ≤ part) (h2 : 65536 < spN s part) : spE s part = 3 ∧ spR s part = [] := by
  have : spE s part = 3 := (if_pos h).trans (if_pos h2)
  exact ⟨this, if_neg (by rw [this]; decide)⟩
theorem sp_zero {s : (Int × Int)} {part : Int} (h : gd s = true ∧ 1 ≤ part) (h2 : ¬ 65536 < spN s part) : spE s part = 0 ∧ spR s part = spl part s.2 (s.2 - s.1).toNat s.1 := by
  have : spE s part = 0 := (if_pos h).trans (if_neg h2)
  exact ⟨this, if_pos this⟩
set_option maxRecDepth 100000 in
set_option maxHeartbeats 2000000 in
theorem rsplit_any (s : (Int × Int)) (part : Int) (hp2 : part ≤ 9223372036854775807) (w : World) : Calls Try.prog 29 #[spV s, .int .i64 part] w fun e w' => ∃ u, e = .returned (.tuple #[u, .int .i64 (spE s part)]) ∧ SpIn w' u (spR s part) ∧ Kp w w' := by
  have hG := one_any s
  obtain ⟨x, y⟩ := s
  unfold spV at hG ⊢
  by_cases hg : gd (x, y) = true
  · rw [hg] at hG
    obtain ⟨h1, h2, h3⟩ := (gd_iff _).1 hg
    simp only [mA] at h1 h2 h3
    by_cases hp : 1 ≤ part
    · have hp0 : ¬ part = 0 := by omega
      have d1 := div_le (show 0 ≤ y - 1 by omega) hp
      have d2 := div_le h1 hp
      have hN := spN_ge (x, y) part h2 hp
      have HN : Hid (spN (x, y) part = (y - 1) / part - x / part + 1) := rfl
      obtain ⟨A, hA⟩ : ∃ A, (y - 1) / part = A := ⟨_, rfl⟩
      obtain ⟨B, hB⟩ : ∃ B, x / part = B := ⟨_, rfl⟩
      rw [hA] at d1 HN
      rw [hB] at d2 HN
      by_cases hbig : 65536 < spN (x, y) part
      · obtain ⟨s1, s2⟩ := sp_three ⟨hg, hp⟩ hbig
        rw [s1, s2]
        rw [HN.out] at hbig hN
        clear s1 s2 hg HN
        go_enter Try.func29, Try.ntmps29
        go_wp2_with fail
        refine (hG _).mono ?_; rintro e w1 ⟨rfl, k1⟩
        have c0 : w1.cell? ⟨w.heap.size, 0, none⟩ = some (.int .i64 x) := k1.held (by simp)
        have c1 : w1.cell? ⟨w.heap.size, 1, none⟩ = some (.int .i64 y) := k1.held (by simp)
        have K1 : Hid (Kp w w1) := ((Kp.refl w).alloc _).trans k1
        clear hG k1
        go_wp2_with fail
        go_quiet (fail)
        go_wp2
        go_ret2
        exact ⟨_, rfl, SpIn.nil _, K1.out.drewN _⟩
      · obtain ⟨s1, s2⟩ := sp_zero ⟨hg, hp⟩ hbig
        rw [s1, s2]
        rw [HN.out] at hbig hN
        clear s1 s2 hg HN
        simp only
        obtain ⟨F, hF⟩ : ∃ F, F = (y - x).toNat := ⟨_, rfl⟩
        have HF : Hid (F = (y - x).toNat) := hF
        obtain ⟨T, hT⟩ : ∃ T, T = spl part y (y - x).toNat x := ⟨_, rfl⟩
        have HT : Hid (T = spl part y (y - x).toNat x) := hT
        rw [← hT]
        have hFy : (F : Int) = y - x := by omega
        clear hF hT
        go_enter Try.func29, Try.ntmps29
        go_wp2_with fail
        refine (hG _).mono ?_; rintro e w1 ⟨rfl, k1⟩
        have c0 : w1.cell? ⟨w.heap.size, 0, none⟩ = some (.int .i64 x) := k1.held (by simp)
        have c1 : w1.cell? ⟨w.heap.size, 1, none⟩ = some (.int .i64 y) := k1.held (by simp)
        have K1 : Hid (Kp w w1) := ((Kp.refl w).alloc _).trans k1
        clear hG k1
        go_wp2_with fail
        go_quiet (fail)
        obtain ⟨W, hW⟩ : ∃ W, W = w1.drewN nq := ⟨_, rfl⟩
        have kW : Kp w1 W := by rw [hW]; exact (Kp.refl w1).drewN _
        rw [← hW]
        have r0 := kW.held c0
        have r1 := kW.held c1
        have KW : Hid (Kp w W) := K1.out.trans kW
        have hb0 : w.heap.size < W.heap.size := World.block_lt_of_cell? _ _ r0
        clear hW kW c0 c1 K1 hA hB
        go_wp2
        clear d1 d2 hN hbig
        go_loopw [8, 7] (fun i q wr => ∃ c : Int, ∃ J : List (Int × Int), i = .int .i64 c ∧ x ≤ c ∧ c ≤ y ∧ (J.length : Int) ≤ c - x ∧ Hid (Own wr W.heap.size 31 q J) ∧ Hid (T = J ++ spl part y ((y - x).toNat - J.length) c) ∧ Kp W wr) (fun i _ _ => (y - intOf i).toNat)
        case atStart => exact ⟨x, [], rfl, by omega, by omega, by simp, World.ownsRow_nil _ _ _ _, HT, Kp.refl W⟩
        case round =>
          obtain ⟨c, J, rfl, hc1, hc2, hJl, HQ, HE, hK⟩ := hrel
          have q0 := hK.held r0
          have q1 := hK.held r1
          by_cases hlt : c < y
          · obtain ⟨e1, e2, e3, e4⟩ := part_end (show 0 ≤ c by omega) (by omega) hp hp2
            have HS : Hid (T = (J ++ [(c, min y (c - c % part + part))]) ++ spl part y ((y - x).toNat - (J.length + 1)) (min y (c - c % part + part))) := by
              have h := HE.out
              rw [HT.out] at h
              have h5 := spl_step hJl hlt h
              rw [← HT.out] at h5
              exact h5
            obtain ⟨r, hr⟩ : ∃ r, c % part = r := ⟨_, rfl⟩
            rw [hr] at e1 e2 e3 e4 HS
            clear HE r0 r1
            obtain ⟨z, hz⟩ : ∃ z, z = min y (c - r + part) := ⟨_, rfl⟩
            rw [← hz] at HS
            have hz1 : c < z := by omega
            have hz2 : z ≤ y := by omega
            by_cases hbr : y - c < part - r
            · have HZ : Hid (c + (y - c) = z) := by show _ = _; omega
              clear hz
              go_wp2_with (at_builtin; refine wpList_append_sp rfl _ _ 27 rfl W.heap.size 31 elt27 _ J rfl ((HQ.out : Own wr W.heap.size 31 _ J).alloc _) _ [(c, c + (y - c))] rfl (SpIn.lit1 _ (c, c + (y - c)) _) ?c2 ?c1 ?_; rotate_left; rotate_left; intro u2 w4 ho2 hg2 hr2)
              case c2 => (try simp); omega
              case c1 => have := hK.size; (try simp); omega
              have K4 : Kp W w4 := (hK.alloc _).grown hg2 (fun q hq => own_lt HQ.out q hq)
              have HO4 : Hid (Own w4 W.heap.size 31 u2 (J ++ [(c, z)])) := by rw [← HZ.out]; exact ho2
              clear hg2 hr2 ho2 hK HQ q0 q1
              go_wp2
              go_roundw
              case rel => exact ⟨z, J ++ [(c, z)], by rw [← HZ.out], by omega, hz2, by simp; omega, HO4, by rw [List.length_append]; exact HS, K4⟩
              case measure => simp [intOf]; omega
            · have HZ : Hid (c + (part - r) = z) := by show _ = _; omega
              clear hz
              go_wp2_with (at_builtin; refine wpList_append_sp rfl _ _ 27 rfl W.heap.size 31 elt27 _ J rfl ((HQ.out : Own wr W.heap.size 31 _ J).alloc _) _ [(c, c + (part - r))] rfl (SpIn.lit1 _ (c, c + (part - r)) _) ?c2 ?c1 ?_; rotate_left; rotate_left; intro u2 w4 ho2 hg2 hr2)
              case c2 => (try simp); omega
              case c1 => have := hK.size; (try simp); omega
              have K4 : Kp W w4 := (hK.alloc _).grown hg2 (fun q hq => own_lt HQ.out q hq)
              have HO4 : Hid (Own w4 W.heap.size 31 u2 (J ++ [(c, z)])) := by rw [← HZ.out]; exact ho2
              clear hg2 hr2 ho2 hK HQ q0 q1
              go_wp2
              go_roundw
              case rel => exact ⟨z, J ++ [(c, z)], by rw [← HZ.out], by omega, hz2, by simp; omega, HO4, by rw [List.length_append]; exact HS, K4⟩
              case measure => simp [intOf]; omega
          · have HFin : Hid (T = J) := by rw [HE.out, spl_end _ _ _ _ hlt]; exact List.append_nil J
            go_wp2
            go_ret2
            have HO5 := HQ.out
            rw [← HFin.out] at HO5
            exact ⟨_, rfl, HO5.sp, KW.out.trans hK⟩
    · obtain ⟨s1, s2⟩ := sp_two (s := (x, y)) (part := part) (fun h => hp h.2)
      rw [s1, s2]
      clear s1 s2 hg
      go_enter Try.func29, Try.ntmps29
      go_wp2_with fail
      refine (hG _).mono ?_; rintro e w1 ⟨rfl, k1⟩
      have K1 : Kp w w1 := ((Kp.refl w).alloc _).trans k1
      clear hG k1
      go_wp2
      go_ret2
      exact ⟨_, rfl, SpIn.nil _, K1⟩
  · obtain ⟨s1, s2⟩ := sp_two (s := (x, y)) (part := part) (fun h => hg h.1)
    rw [s1, s2]
    rw [Bool.not_eq_true] at hg
    rw [hg] at hG
    clear s1 s2 hg
    go_enter Try.func29, Try.ntmps29
    go_wp2_with fail
    refine (hG _).mono ?_; rintro e w1 ⟨rfl, k1⟩
    have K1 : Kp w w1 := ((Kp.refl w).alloc _).trans k1
    clear hG k1
    go_wp2
    go_ret2
    exact ⟨_, rfl, SpIn.nil _, K1⟩

end Go.Proofs.Ytmkmejdbhikomaa
