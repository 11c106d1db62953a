/-
  Contracts of spans' Has, stretch and Join. Conditions: that the lists' cells hold the spans.
-/
import Derived.Test.YtmkmejdbhikomaaSpBox
import Derived.Deep.RegionWith
namespace Go.Proofs.Ytmkmejdbhikomaa
open Go.RowKit Plain
set_option linter.unusedVariables false

theorem has_plain {l R : List (Int × Int)} {x y : Int} (hx : y = x + 1 ∨ gd (x, y) = false ∧ ¬ (0 ≤ x ∧ x < mA)) (h0 : rfE l (x, y) = 0 → G R ∧ ∀ z, hs R z = (hs l z && inS (x, y) z)) (h1 : rfE l (x, y) ≠ 0 → R = []) : decide (0 < R.length) = (gL l && hs l x) := by
  by_cases hz : rfE l (x, y) = 0
  · obtain ⟨hG, hg⟩ := rf_zero hz
    obtain ⟨hR, hh⟩ := h0 hz
    have e : y = x + 1 := by
      rcases hx with h | h
      · exact h
      · rw [hg] at h; cases h.1
    subst e
    rw [(gL_iff l).2 hG, Bool.true_and]
    cases hl : hs l x with
    | true =>
      have := hh x
      rw [hl, (inS_iff _ x).2 ⟨Int.le_refl _, by show x < x + 1; omega⟩] at this
      cases R with
      | nil => simp [hs] at this
      | cons p R => simp
    | false =>
      cases R with
      | nil => simp
      | cons p R =>
        have hp := (hR.lo p (by simp)).2.1
        have h2 := hh p.1
        rw [show hs (p :: R) p.1 = true from (hs_iff _ _).2 ⟨p, by simp, Int.le_refl _, hp⟩] at h2
        have h3 := h2.symm
        rw [Bool.and_eq_true, inS_iff] at h3
        have : p.1 = x := by have := h3.2; simp only at this; omega
        rw [this, hl] at h3
        cases h3.1
  · rw [h1 hz]
    simp only [List.length_nil]
    cases hG : gL l with
    | false => simp
    | true =>
      have hg : gd (x, y) = false := by
        cases hg : gd (x, y) with
        | false => rfl
        | true => exact absurd (rf_of ((gL_iff l).1 hG) hg) hz
      have : hs l x = false := by
        cases hl : hs l x with
        | false => rfl
        | true =>
          have hp := ((gL_iff l).1 hG).places hl
          rcases hx with rfl | h
          · rw [Bool.eq_false_iff, ne_eq, gd_iff] at hg
            simp only at hg
            omega
          · exact absurd hp h.2
      rw [this]; simp
set_option maxRecDepth 100000 in
theorem has_any (v : Value) (l : List (Int × Int)) (x : Int) (hx : -9223372036854775808 ≤ x ∧ x ≤ 9223372036854775807) (w : World) (h : SpIn w v l) (hlen : l.length ≤ 1000) : Calls Try.prog 11 #[v, .int .i64 x] w fun e w' => e = .returned (.bool (gL l && hs l x)) ∧ Kp w w' := by
  have HX : Hid (wrap64 (x + 1) = x + 1 ∨ gd (x, wrap64 (x + 1)) = false ∧ ¬ (0 ≤ x ∧ x < mA)) := by
    by_cases hm : x = 9223372036854775807
    · refine .inr ⟨?_, by unfold mA; omega⟩
      rw [Bool.eq_false_iff, ne_eq, gd_iff]
      intro hh
      have h1 := hh.2.1
      have h2 := hh.2.2
      have h3 : x ≤ 1099511627776 := by
        have h4 : wrap64 (x + 1) ≤ 1099511627776 := h2
        have h5 : x < wrap64 (x + 1) := h1
        omega
      omega
    · refine .inl ?_
      unfold wrap64
      omega
  obtain ⟨g, hg⟩ : ∃ g, g = (gL l && hs l x) := ⟨_, rfl⟩
  rw [← hg]
  have hM := meet_any v l (x, wrap64 (x + 1)) w h hlen
  unfold spV Res at hM
  have HG : Hid (g = (gL l && hs l x)) := hg
  have HM : Hid _ := hM
  clear hg h hx hM
  have hP := @has_plain l
  go_enter Try.func11, Try.ntmps11
  go_wp2_with fail
  refine Calls.mono HM.out ?_; rintro e w1 ⟨u, R, rfl, hu, k1, _, r0, r1⟩
  have HP : Hid (decide (0 < R.length) = g) := by
    rw [HG.out]
    exact hP HX.out r0 r1
  obtain ⟨a, b, off, cap, rfl, _⟩ := hu
  clear HM HG r0 r1 hP HX
  go_wp2
  go_ret
  exact ⟨by rw [← HP.out]; rfl, k1⟩

/-! ### stretch -/
theorem Own.last {w : World} {base : Nat} {e : TypeId} {v : Value} {J : List (Int × Int)} (h : Own w base e v J) (h0 : 0 < J.length) : ∃ g cap, v = .slice (some ⟨g, 0, none⟩) J.length cap ∧ base ≤ g ∧ g < w.heap.size ∧ J.length ≤ cap ∧ cap ≤ maxLen ∧ w.cell? ⟨g, (J.length - 1) * 2, none⟩ = some (.int .i64 (lastS J).1) ∧ w.cell? ⟨g, (J.length - 1) * 2 + 1, none⟩ = some (.int .i64 (lastS J).2) ∧ (∀ o, w.frozen? ⟨g, o, none⟩ = false) ∧
    ∀ z : Int, Own (w.setCell ⟨g, (J.length - 1) * 2 + 1, none⟩ (.int .i64 z)) base e v (J.set (J.length - 1) ((lastS J).1, z)) ∧ w.grownBy (w.setCell ⟨g, (J.length - 1) * 2 + 1, none⟩ (.int .i64 z)) (some g) := by
  have hh := h
  rcases h.2 with ⟨_, h1⟩ | ⟨g, cap, cur, rfl, hb, hg, hn, hm, _⟩
  · omega
  · refine ⟨g, cap, rfl, hb, (Array.getElem?_eq_some_iff.1 hg).1, hn, hm, ?_, ?_, fun o => World.ownsRow.frozenAt hh o, fun z => ?_⟩
    · rw [World.ownsRow.cellAt hh _ (by omega)]; exact (pv_at J (J.length - 1) (by omega)).1
    · rw [World.ownsRow.cellAt hh _ (by omega)]; exact (pv_at J (J.length - 1) (by omega)).2
    · obtain ⟨s1, s2⟩ := World.ownsRow.stored hh ((J.length - 1) * 2 + 1) (.int .i64 z)
      refine ⟨?_, s2⟩
      unfold Own
      rw [List.length_set]
      have e : pv (J.set (J.length - 1) ((lastS J).1, z)) = (pv J).set ((J.length - 1) * 2 + 1) (.int .i64 z) := by
        obtain ⟨K, hK, hset⟩ := last_split J (by omega)
        obtain ⟨q, hq⟩ : ∃ q, q = lastS J := ⟨_, rfl⟩
        rw [hset, ← hq]
        rw [← hq] at hK
        have hl : J.length = K.length + 1 := by rw [hK]; simp
        rw [hl, hK, pv_app, pv_app, Nat.add_sub_cancel, List.set_append_right _ _ (by rw [pv_len]; omega), pv_len]
        rw [show K.length * 2 + 1 - K.length * 2 = 1 by omega]
        rfl
      rw [e]
      exact s1
set_option maxRecDepth 100000 in
set_option maxHeartbeats 2000000 in
theorem stretch_any (base : Nat) (v : Value) (J : List (Int × Int)) (s : (Int × Int)) (w : World) (hown : Own w base 30 v J) (hb : base ≤ w.heap.size) (hlen : J.length ≤ 100000) :
    Calls Try.prog 35 #[v, spV s] w fun e w' => ∃ u, e = .returned u ∧ Own w' base 30 u (strL J s) ∧ Below base w w' := by
  obtain ⟨x, y⟩ := s
  obtain ⟨w0, hw0⟩ : ∃ w0, w0 = w.alloc (.cells #[.int .i64 x, .int .i64 y] 30) := ⟨_, rfl⟩
  have HW : Hid (w0 = w.alloc (.cells #[.int .i64 x, .int .i64 y] 30)) := hw0
  have k0 : Kp w w0 := by rw [hw0]; exact (Kp.refl w).alloc _
  have q0 : w0.cell? ⟨w.heap.size, 0, none⟩ = some (.int .i64 x) := by rw [hw0, World.cell?_alloc_at _ _ _ _ rfl]; rfl
  have q1 : w0.cell? ⟨w.heap.size, 1, none⟩ = some (.int .i64 y) := by rw [hw0, World.cell?_alloc_at _ _ _ _ rfl]; rfl
  have hb0 : w.heap.size < w0.heap.size := by rw [hw0]; simp
  clear hw0
  have B0 : Below base w w0 := Below.mono k0 hb
  have ho0 := hown.kept k0
  unfold spV
  by_cases h0 : J.length = 0
  · obtain rfl : J = [] := List.eq_nil_of_length_eq_zero h0
    have hst : strL [] (x, y) = [(x, y)] := rfl
    rw [hst]
    have HO : Hid (Own w0 base 30 v []) := ho0
    obtain ⟨a, b, off, cap, rfl, hA⟩ := ho0.sp
    have hmx := hA.mx
    unfold maxLen at hmx
    clear hown ho0 hA h0 k0
    go_enter Try.func35, Try.ntmps35
    go_wp2_with fail
    rw [show w.alloc (.cells #[.int .i64 x, .int .i64 y] 30) = w0 from HW.out.symm]
    clear HW
    go_quiet (fail)
    obtain ⟨W, hW⟩ : ∃ W, W = w0.drewN nq := ⟨_, rfl⟩
    have kW : Kp w0 W := by rw [hW]; exact (Kp.refl w0).drewN _
    rw [← hW]
    have r0 := kW.held q0
    have r1 := kW.held q1
    have hbW : w.heap.size < W.heap.size := by have := kW.size; omega
    have HOW := HO.out.kept kW
    have BW : Below base w W := B0.trans (Below.mono kW (by omega))
    clear hW q0 q1 HO B0
    go_wp2_with (at_builtin; refine wpList_append_sp rfl _ _ 26 rfl base 30 elt26 _ [] rfl (HOW.alloc _) _ [(x, y)] rfl (SpIn.lit1 _ (x, y) _) (by simp) ?c1 ?_; rotate_left; intro u2 w4 ho2 hg2 hr2)
    case c1 => (try simp); omega
    have B4 : Below base w w4 := (BW.alloc (by omega) _).grown hg2 (by simp; omega) (fun q hq => own_lt HOW q hq)
    have HO4 : Hid (Own w4 base 30 u2 [(x, y)]) := ho2
    clear hg2 hr2 ho2 r0 r1 BW HOW
    go_wp2
    go_ret
    exact ⟨_, rfl, HO4.out, B4⟩
  · have hlast := ho0.last (by omega)
    obtain ⟨g, cap, rfl, hgb, hgl, hnc, hcm, c0, c1, fz, hset⟩ := hlast
    unfold maxLen at hcm
    have HO : Hid (Own w0 base 30 (.slice (some ⟨g, 0, none⟩) J.length cap) J) := ho0
    have HS : Hid (∀ W, Kp w0 W → (W.cell? ⟨g, (J.length - 1) * 2 + 1, none⟩ = some (.int .i64 (lastS J).2) ∧ (∀ o, W.frozen? ⟨g, o, none⟩ = false)) ∧ ∀ z : Int, Own (W.setCell ⟨g, (J.length - 1) * 2 + 1, none⟩ (.int .i64 z)) base 30 (.slice (some ⟨g, 0, none⟩) J.length cap) (J.set (J.length - 1) ((lastS J).1, z)) ∧ W.grownBy (W.setCell ⟨g, (J.length - 1) * 2 + 1, none⟩ (.int .i64 z)) (some g)) := fun W k => by
      obtain ⟨g', cap', e, _, _, _, _, _, d1, dz, ds⟩ := (ho0.kept k).last (by omega)
      simp only [Value.slice.injEq, Option.some.injEq, Addr.mk.injEq, and_true, true_and] at e
      obtain ⟨rfl, rfl⟩ := e
      exact ⟨⟨d1, dz⟩, ds⟩
    have HJ : Hid (strL J (x, y) = if (lastS J).2 < x then J ++ [(x, y)] else J.set (J.length - 1) ((lastS J).1, max (lastS J).2 y)) := by
      show strL J (x, y) = _
      unfold strL
      by_cases hh : (lastS J).2 < x
      · rw [if_pos (Or.inr hh), if_pos hh]
      · rw [if_neg (fun h => h.elim h0 hh), if_neg hh]
    obtain ⟨n, hn⟩ : ∃ n, n = J.length := ⟨_, rfl⟩
    obtain ⟨z1, hz1⟩ : ∃ z1, z1 = (lastS J).1 := ⟨_, rfl⟩
    obtain ⟨z2, hz2⟩ : ∃ z2, z2 = (lastS J).2 := ⟨_, rfl⟩
    have HN : Hid (n = J.length) := hn
    rw [← hn] at c0 c1 HS HJ HO hnc h0 hlen ⊢
    rw [← hz2] at c1 HS HJ
    rw [← hz1] at c0 HS HJ
    clear hn hz1 hz2 hset ho0 hown k0 fz
    have i1 : ((n - 1 : Nat) : Int) = (n : Int) - 1 := by omega
    have i2 : ((n : Int) - 1).toNat = n - 1 := by omega
    have i3 : decide ((n : Int) - 1 < 0) = false := decide_eq_false (by omega)
    have i4 : (n : Int) - 1 < (n : Int) := by omega
    have i5 : (0 : Int) ≤ (n : Int) - 1 := by omega
    have hmax := @imax Try.prog
    by_cases hlt : z2 < x
    · have HF : Hid (strL J (x, y) = J ++ [(x, y)]) := by rw [HJ.out]; exact if_pos hlt
      clear HS HJ
      go_enter Try.func35, Try.ntmps35
      go_wp2_with fail
      rw [show w.alloc (.cells #[.int .i64 x, .int .i64 y] 30) = w0 from HW.out.symm]
      clear HW
      go_quiet (fail)
      obtain ⟨W, hW⟩ : ∃ W, W = w0.drewN nq := ⟨_, rfl⟩
      have kW : Kp w0 W := by rw [hW]; exact (Kp.refl w0).drewN _
      rw [← hW]
      have r0 := kW.held q0
      have r1 := kW.held q1
      have hbW : w.heap.size < W.heap.size := by have := kW.size; omega
      have HOW := HO.out.kept kW
      have BW : Below base w W := B0.trans (Below.mono kW (by omega))
      clear hW q0 q1 HO B0 c0 c1
      go_wp2_with (at_builtin; refine wpList_append_sp rfl _ _ 26 rfl base 30 elt26 _ J rfl (HOW.alloc _) _ [(x, y)] rfl (SpIn.lit1 _ (x, y) _) ?c2 ?c1 ?_; rotate_left; rotate_left; intro u2 w4 ho2 hg2 hr2)
      case c2 => have h1 : n = J.length := HN.out; (try simp); omega
      case c1 => (try simp); omega
      have B4 : Below base w w4 := (BW.alloc (by omega) _).grown hg2 (by simp; omega) (fun q hq => own_lt HOW q hq)
      have HO4 : Hid (Own w4 base 30 u2 (strL J (x, y))) := by rw [HF.out]; exact ho2
      clear hg2 hr2 ho2 r0 r1 BW HOW
      go_wp2
      go_ret
      exact ⟨_, rfl, HO4.out, B4⟩
    · have HF : Hid (strL J (x, y) = J.set (n - 1) (z1, max z2 y)) := by rw [HJ.out]; exact if_neg hlt
      have hle : decide (z2 < x) = false := decide_eq_false hlt
      clear HJ
      go_enter Try.func35, Try.ntmps35
      go_wp2_with fail
      rw [show w.alloc (.cells #[.int .i64 x, .int .i64 y] 30) = w0 from HW.out.symm]
      clear HW
      go_quiet (fail)
      obtain ⟨W, hW⟩ : ∃ W, W = w0.drewN nq := ⟨_, rfl⟩
      have kW : Kp w0 W := by rw [hW]; exact (Kp.refl w0).drewN _
      rw [← hW]
      have r0 := kW.held q0
      have r1 := kW.held q1
      have hbW : w.heap.size < W.heap.size := by have := kW.size; omega
      have BW : Below base w W := B0.trans (Below.mono kW (by omega))
      obtain ⟨⟨d1, dz⟩, ds⟩ := HS.out W kW
      have HD : Hid (Own (W.setCell ⟨g, (n - 1) * 2 + 1, none⟩ (.int .i64 (max z2 y))) base 30 (.slice (some ⟨g, 0, none⟩) n cap) (strL J (x, y)) ∧ Below base w (W.setCell ⟨g, (n - 1) * 2 + 1, none⟩ (.int .i64 (max z2 y)))) := ⟨by rw [HF.out]; exact (ds _).1, BW.setCell (p := ⟨g, (n - 1) * 2 + 1, none⟩) hgb _⟩
      clear hW q0 q1 HO B0 c0 c1 ds HS BW
      go_wp2_with fail
      go_region
      all_goals go_wp2
      all_goals go_ret
      all_goals exact ⟨_, rfl, HD.out.1, HD.out.2.drew⟩

end Go.Proofs.Ytmkmejdbhikomaa
