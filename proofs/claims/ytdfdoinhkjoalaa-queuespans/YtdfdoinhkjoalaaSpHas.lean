/-
  Contracts of spans' Has, stretch and Join. Conditions: that the lists' cells hold the spans.
-/
import Derived.Test.YtdfdoinhkjoalaaSpAdd
import Derived.Deep.RegionWith
namespace Go.Proofs.Ytdfdoinhkjoalaa
open Go.RowKit Plain
set_option linter.unusedVariables false

theorem has_plain {l R : List (Int × Int)} {x y : Int} (hx : y = x + 1 ∨ gd (x, y) = false ∧ ¬ (0 ≤ x ∧ x < mA)) (h0 : rfE l (x, y) = 0 → G R ∧ ∀ z, hs R z = (hs l z && inS (x, y) z)) (h1 : rfE l (x, y) ≠ 0 → R = []) : decide (0 < R.length) = (gL l && hs l x) := by
  by_cases hz : rfE l (x, y) = 0
  · obtain ⟨hG, hg⟩ := rf_zero hz
    obtain ⟨hR, hh⟩ := h0 hz
    have e : y = x + 1 := by
      rcases hx with h | h
      · exact h
      · rw [hg] at h; cases h.1
    subst e
    rw [(gL_iff l).2 hG, Bool.true_and]
    cases hl : hs l x with
    | true =>
      have := hh x
      rw [hl, (inS_iff _ x).2 ⟨Int.le_refl _, by show x < x + 1; omega⟩] at this
      cases R with
      | nil => simp [hs] at this
      | cons p R => simp
    | false =>
      cases R with
      | nil => simp
      | cons p R =>
        have hp := (hR.lo p (by simp)).2.1
        have h2 := hh p.1
        rw [show hs (p :: R) p.1 = true from (hs_iff _ _).2 ⟨p, by simp, Int.le_refl _, hp⟩] at h2
        have h3 := h2.symm
        rw [Bool.and_eq_true, inS_iff] at h3
        have : p.1 = x := by have := h3.2; simp only at this; omega
        rw [this, hl] at h3
        cases h3.1
  · rw [h1 hz]
    simp only [List.length_nil]
    cases hG : gL l with
    | false => simp
    | true =>
      have hg : gd (x, y) = false := by
        cases hg : gd (x, y) with
        | false => rfl
        | true => exact absurd (rf_of ((gL_iff l).1 hG) hg) hz
      have : hs l x = false := by
        cases hl : hs l x with
        | false => rfl
        | true =>
          have hp := ((gL_iff l).1 hG).places hl
          rcases hx with rfl | h
          · rw [Bool.eq_false_iff, ne_eq, gd_iff] at hg
            simp only at hg
            omega
          · exact absurd hp h.2
      rw [this]; simp
set_option maxRecDepth 100000 in
theorem has_any (v : Value) (l : List (Int × Int)) (x : Int) (hx : -9223372036854775808 ≤ x ∧ x ≤ 9223372036854775807) (w : World) (h : SpIn w v l) (hlen : l.length ≤ 1000) : Calls Try.prog 23 #[v, .int .i64 x] w fun e w' => e = .returned (.bool (gL l && hs l x)) ∧ Kp w w' := by
  have HX : Hid (wrap64 (x + 1) = x + 1 ∨ gd (x, wrap64 (x + 1)) = false ∧ ¬ (0 ≤ x ∧ x < mA)) := by
    by_cases hm : x = 9223372036854775807
    · refine .inr ⟨?_, by unfold mA; omega⟩
      rw [Bool.eq_false_iff, ne_eq, gd_iff]
      intro hh
      have h1 := hh.2.1
      have h2 := hh.2.2
      have h3 : x ≤ 1099511627776 := by
        have h4 : wrap64 (x + 1) ≤ 1099511627776 := h2
        have h5 : x < wrap64 (x + 1) := h1
        omega
      omega
    · refine .inl ?_
      unfold wrap64
      omega
  obtain ⟨g, hg⟩ : ∃ g, g = (gL l && hs l x) := ⟨_, rfl⟩
  rw [← hg]
  have hM := meet_any v l (x, wrap64 (x + 1)) w h hlen
  unfold spV Res at hM
  have HG : Hid (g = (gL l && hs l x)) := hg
  have HM : Hid _ := hM
  clear hg h hx hM
  have hP := @has_plain l
  go_enter Try.func23, Try.ntmps23
  go_wp2_with fail
  refine Calls.mono HM.out ?_; rintro e w1 ⟨u, R, rfl, hu, k1, _, r0, r1⟩
  have HP : Hid (decide (0 < R.length) = g) := by
    rw [HG.out]
    exact hP HX.out r0 r1
  obtain ⟨a, b, off, cap, rfl, _⟩ := hu
  clear HM HG r0 r1 hP HX
  go_wp2
  go_ret
  exact ⟨by rw [← HP.out]; rfl, k1⟩

/-! ### stretch -/
theorem Own.last {w : World} {base : Nat} {e : TypeId} {v : Value} {J : List (Int × Int)} (h : Own w base e v J) (h0 : 0 < J.length) : ∃ g cap, v = .slice (some ⟨g, 0, none⟩) J.length cap ∧ base ≤ g ∧ g < w.heap.size ∧ J.length ≤ cap ∧ cap ≤ maxLen ∧ w.cell? ⟨g, (J.length - 1) * 2, none⟩ = some (.int .i64 (lastS J).1) ∧ w.cell? ⟨g, (J.length - 1) * 2 + 1, none⟩ = some (.int .i64 (lastS J).2) ∧ (∀ o, w.frozen? ⟨g, o, none⟩ = false) ∧
    ∀ z : Int, Own (w.setCell ⟨g, (J.length - 1) * 2 + 1, none⟩ (.int .i64 z)) base e v (J.set (J.length - 1) ((lastS J).1, z)) ∧ w.grownBy (w.setCell ⟨g, (J.length - 1) * 2 + 1, none⟩ (.int .i64 z)) (some g) := by
  have hh := h
  rcases h.2 with ⟨_, h1⟩ | ⟨g, cap, cur, rfl, hb, hg, hn, hm, _⟩
  · omega
  · refine ⟨g, cap, rfl, hb, (Array.getElem?_eq_some_iff.1 hg).1, hn, hm, ?_, ?_, fun o => World.ownsRow.frozenAt hh o, fun z => ?_⟩
    · rw [World.ownsRow.cellAt hh _ (by omega)]; exact (pv_at J (J.length - 1) (by omega)).1
    · rw [World.ownsRow.cellAt hh _ (by omega)]; exact (pv_at J (J.length - 1) (by omega)).2
    · obtain ⟨s1, s2⟩ := World.ownsRow.stored hh ((J.length - 1) * 2 + 1) (.int .i64 z)
      refine ⟨?_, s2⟩
      unfold Own
      rw [List.length_set]
      have e : pv (J.set (J.length - 1) ((lastS J).1, z)) = (pv J).set ((J.length - 1) * 2 + 1) (.int .i64 z) := by
        obtain ⟨K, hK, hset⟩ := last_split J (by omega)
        obtain ⟨q, hq⟩ : ∃ q, q = lastS J := ⟨_, rfl⟩
        rw [hset, ← hq]
        rw [← hq] at hK
        have hl : J.length = K.length + 1 := by rw [hK]; simp
        rw [hl, hK, pv_app, pv_app, Nat.add_sub_cancel, List.set_append_right _ _ (by rw [pv_len]; omega), pv_len]
        rw [show K.length * 2 + 1 - K.length * 2 = 1 by omega]
        rfl
      rw [e]
      exact s1

end Go.Proofs.Ytdfdoinhkjoalaa
