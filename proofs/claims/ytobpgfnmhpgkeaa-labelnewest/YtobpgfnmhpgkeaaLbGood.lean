/-
  Contracts of label's mayHave and Good, and of the document's Good. Conditions: that the label's lists lie in memory.
-/
import Derived.Test.YtobpgfnmhpgkeaaLbMem
namespace Go.Proofs.Ytobpgfnmhpgkeaa
open Go.RowKit Plain
set_option linter.unusedVariables false

set_option maxRecDepth 100000 in
theorem mayHave_any (st mk s : Int) (w : World) : Calls Try.prog 33 #[.int .i64 st, .int .i64 mk, .int .i64 s] w fun e w' => e = .returned (.bool (mh st mk s)) ∧ w' = w := by
  by_cases h0 : st = 0
  · have HM : Hid (mh st mk s = (mk == 0)) := by show mh st mk s = _; unfold mh; rw [if_pos (Or.inl h0)]; by_cases h : mk = 0 <;> simp [h]
    have e0 : (st == 0) = true := beq_iff_eq.2 h0
    clear h0
    go_enter Try.func33, Try.ntmps33
    go_wp2
    go_ret
    exact ⟨by rw [HM.out]; rfl, rfl⟩
  · have e0 : (st == 0) = false := beq_eq_false_iff_ne.2 h0
    by_cases h1 : st = 1
    · have HM : Hid (mh st mk s = (mk == 0)) := by show mh st mk s = _; unfold mh; rw [if_pos (Or.inr h1)]; by_cases h : mk = 0 <;> simp [h]
      have e1 : (st == 1) = true := beq_iff_eq.2 h1
      clear h0 h1
      go_enter Try.func33, Try.ntmps33
      go_wp2
      go_ret
      exact ⟨by rw [HM.out]; rfl, rfl⟩
    · have e1 : (st == 1) = false := beq_eq_false_iff_ne.2 h1
      by_cases h2 : st = 2
      · have e2 : (st == 2) = true := beq_iff_eq.2 h2
        by_cases h3 : 0 ≤ mk
        · by_cases h4 : mk < s
          · have HM : Hid (mh st mk s = true) := by show mh st mk s = _; unfold mh; rw [if_neg (by omega), if_pos h2]; exact decide_eq_true ⟨h3, h4⟩
            clear h0 h1 h2
            go_enter Try.func33, Try.ntmps33
            go_wp2
            go_ret
            exact ⟨by rw [HM.out]; rfl, rfl⟩
          · have HM : Hid (mh st mk s = false) := by show mh st mk s = _; unfold mh; rw [if_neg (by omega), if_pos h2]; exact decide_eq_false (fun h => h4 h.2)
            clear h0 h1 h2
            go_enter Try.func33, Try.ntmps33
            go_wp2
            go_ret
            exact ⟨by rw [HM.out]; rfl, rfl⟩
        · have HM : Hid (mh st mk s = false) := by show mh st mk s = _; unfold mh; rw [if_neg (by omega), if_pos h2]; exact decide_eq_false (fun h => h3 h.1)
          clear h0 h1 h2
          go_enter Try.func33, Try.ntmps33
          go_wp2
          go_ret
          exact ⟨by rw [HM.out]; rfl, rfl⟩
      · have e2 : (st == 2) = false := beq_eq_false_iff_ne.2 h2
        have HM : Hid (mh st mk s = false) := by show mh st mk s = _; unfold mh; rw [if_neg (by omega), if_neg h2]
        clear h0 h1 h2
        go_enter Try.func33, Try.ntmps33
        go_wp2
        go_ret
        exact ⟨by rw [HM.out]; rfl, rfl⟩
set_option maxRecDepth 100000 in
set_option maxHeartbeats 2000000 in
theorem lgood_any (L : LB) (sv mv : Value) (w : World) (h1 : Nl w sv L.sts) (h2 : Nl w mv L.mks) : Calls Try.prog 15 #[lV L.n L.s L.ep sv mv] w fun e w' => e = .returned (.bool (lg L)) ∧ Kp w w' := by
  have hG := good_any L.n L.s
  obtain ⟨X, eX⟩ : ∃ X, X = lg L := ⟨_, rfl⟩
  rw [← eX]
  have HX : Hid (X = lg L) := eX
  have HI := lg_iff L
  have HS : Hid (∀ k, mg L k = true → mg L (k + 1) = mh (L.sts.getD k 0) (L.mks.getD k 0) L.s) := mg_step L
  have HN : Hid (∀ k m, mg L k = false → k ≤ m → mg L m = false) := mg_not L
  have HZ : Hid (mg L 0 = true) := mg_zero L
  obtain ⟨a1, g1, o1, p1, rfl, A1⟩ := h1
  obtain ⟨a2, g2, o2, p2, rfl, A2⟩ := h2
  obtain ⟨n, s, ep, sts, mks⟩ := L
  simp only at *
  obtain ⟨N1, hN1⟩ : ∃ N, N = sts.length := ⟨_, rfl⟩
  obtain ⟨N2, hN2⟩ : ∃ N, N = mks.length := ⟨_, rfl⟩
  have i1 := A1.ha
  have i2 := A2.ha
  have m1 : N1 ≤ 9223372036854775807 := by have := A1.le; have := A1.mx; omega
  have m2 : N2 ≤ 9223372036854775807 := by have := A2.le; have := A2.mx; omega
  rw [← hN1] at HI i1 ⊢
  rw [← hN2] at HI i2 ⊢
  have HA1 : Hid (Na w a1 g1 o1 p1 sts) := A1
  have HA2 : Hid (Na w a2 g2 o2 p2 mks) := A2
  have HN1 : Hid (N1 = sts.length) := hN1
  have HN2 : Hid (N2 = mks.length) := hN2
  have HI2 : Hid (lg ⟨n, s, ep, sts, mks⟩ = true ↔ gg n s = true ∧ 1 ≤ ep ∧ ep ≤ 9007199254740992 ∧ (N1 : Int) = n ∧ (N2 : Int) = n ∧ mg ⟨n, s, ep, sts, mks⟩ N1 = true) := HI
  clear eX HI A1 A2 hN1 hN2
  unfold lV
  cases e1 : gg n s with
  | false =>
    have HF : Hid (X = false) := by rw [HX.out, Bool.eq_false_iff, ne_eq, HI2.out]; exact fun h => (by rw [e1] at h; exact absurd h.1 (by simp))
    rw [e1] at hG
    clear e1
    unfold gV at hG
    go_enter Try.func15, Try.ntmps15
    go_wp2_with fail
    refine (hG _).mono ?_; rintro e w1 ⟨rfl, k1⟩
    have K1 : Kp w w1 := ((Kp.refl w).alloc _).trans k1
    clear hG k1
    go_wp2
    go_ret
    exact ⟨by rw [HF.out]; rfl, K1⟩
  | true =>
  rw [e1] at hG
  have HG : Hid (gg n s = true) := e1
  clear e1
  unfold gV at hG
  by_cases he1 : 1 ≤ ep
  case neg =>
    have HF : Hid (X = false) := by rw [HX.out, Bool.eq_false_iff, ne_eq, HI2.out]; exact fun h => he1 h.2.1
    go_enter Try.func15, Try.ntmps15
    go_wp2_with fail
    refine (hG _).mono ?_; rintro e w1 ⟨rfl, k1⟩
    have c0 : w1.cell? ⟨w.heap.size, 0, none⟩ = some (.int .i64 n) := k1.held (by simp)
    have c1 : w1.cell? ⟨w.heap.size, 1, none⟩ = some (.int .i64 s) := k1.held (by simp)
    have c2 : w1.cell? ⟨w.heap.size, 2, none⟩ = some (.int .i64 ep) := k1.held (by simp)
    have c3 : w1.cell? ⟨w.heap.size, 3, none⟩ = some (.slice a1 N1 p1) := k1.held (by simp)
    have c4 : w1.cell? ⟨w.heap.size, 4, none⟩ = some (.slice a2 N2 p2) := k1.held (by simp)
    have K1 : Kp w w1 := ((Kp.refl w).alloc _).trans k1
    clear hG k1
    go_wp2
    go_ret
    exact ⟨by rw [HF.out]; rfl, K1⟩
  by_cases he2 : ep ≤ 9007199254740992
  case neg =>
    have HF : Hid (X = false) := by rw [HX.out, Bool.eq_false_iff, ne_eq, HI2.out]; exact fun h => he2 h.2.2.1
    go_enter Try.func15, Try.ntmps15
    go_wp2_with fail
    refine (hG _).mono ?_; rintro e w1 ⟨rfl, k1⟩
    have c0 : w1.cell? ⟨w.heap.size, 0, none⟩ = some (.int .i64 n) := k1.held (by simp)
    have c1 : w1.cell? ⟨w.heap.size, 1, none⟩ = some (.int .i64 s) := k1.held (by simp)
    have c2 : w1.cell? ⟨w.heap.size, 2, none⟩ = some (.int .i64 ep) := k1.held (by simp)
    have c3 : w1.cell? ⟨w.heap.size, 3, none⟩ = some (.slice a1 N1 p1) := k1.held (by simp)
    have c4 : w1.cell? ⟨w.heap.size, 4, none⟩ = some (.slice a2 N2 p2) := k1.held (by simp)
    have K1 : Kp w w1 := ((Kp.refl w).alloc _).trans k1
    clear hG k1
    go_wp2
    go_ret
    exact ⟨by rw [HF.out]; rfl, K1⟩
  by_cases hl1 : (N1 : Int) = n
  case neg =>
    have HF : Hid (X = false) := by rw [HX.out, Bool.eq_false_iff, ne_eq, HI2.out]; exact fun h => hl1 h.2.2.2.1
    have hb1 : ((N1 : Int) != n) = true := by simpa using hl1
    clear hl1
    go_enter Try.func15, Try.ntmps15
    go_wp2_with fail
    refine (hG _).mono ?_; rintro e w1 ⟨rfl, k1⟩
    have c0 : w1.cell? ⟨w.heap.size, 0, none⟩ = some (.int .i64 n) := k1.held (by simp)
    have c1 : w1.cell? ⟨w.heap.size, 1, none⟩ = some (.int .i64 s) := k1.held (by simp)
    have c2 : w1.cell? ⟨w.heap.size, 2, none⟩ = some (.int .i64 ep) := k1.held (by simp)
    have c3 : w1.cell? ⟨w.heap.size, 3, none⟩ = some (.slice a1 N1 p1) := k1.held (by simp)
    have c4 : w1.cell? ⟨w.heap.size, 4, none⟩ = some (.slice a2 N2 p2) := k1.held (by simp)
    have K1 : Kp w w1 := ((Kp.refl w).alloc _).trans k1
    clear hG k1
    go_wp2
    go_ret
    exact ⟨by rw [HF.out]; rfl, K1⟩
  have hb1 : ((N1 : Int) != n) = false := by simpa using hl1
  have HL1 : Hid ((N1 : Int) = n) := hl1
  clear hl1
  by_cases hl2 : (N2 : Int) = n
  case neg =>
    have HF : Hid (X = false) := by rw [HX.out, Bool.eq_false_iff, ne_eq, HI2.out]; exact fun h => hl2 h.2.2.2.2.1
    have hb2 : ((N2 : Int) != n) = true := by simpa using hl2
    clear hl2
    go_enter Try.func15, Try.ntmps15
    go_wp2_with fail
    refine (hG _).mono ?_; rintro e w1 ⟨rfl, k1⟩
    have c0 : w1.cell? ⟨w.heap.size, 0, none⟩ = some (.int .i64 n) := k1.held (by simp)
    have c1 : w1.cell? ⟨w.heap.size, 1, none⟩ = some (.int .i64 s) := k1.held (by simp)
    have c2 : w1.cell? ⟨w.heap.size, 2, none⟩ = some (.int .i64 ep) := k1.held (by simp)
    have c3 : w1.cell? ⟨w.heap.size, 3, none⟩ = some (.slice a1 N1 p1) := k1.held (by simp)
    have c4 : w1.cell? ⟨w.heap.size, 4, none⟩ = some (.slice a2 N2 p2) := k1.held (by simp)
    have K1 : Kp w w1 := ((Kp.refl w).alloc _).trans k1
    clear hG k1
    go_wp2
    go_ret
    exact ⟨by rw [HF.out]; rfl, K1⟩
  have hb2 : ((N2 : Int) != n) = false := by simpa using hl2
  have HL2 : Hid ((N2 : Int) = n) := hl2
  have h12 : N2 = N1 := by have := HL1.out; omega
  have HM : Hid (X = mg ⟨n, s, ep, sts, mks⟩ N1) := by
    show X = _
    rw [HX.out]
    cases e : mg ⟨n, s, ep, sts, mks⟩ N1 with
    | true => exact HI2.out.2 ⟨HG.out, he1, he2, HL1.out, hl2, e⟩
    | false => rw [Bool.eq_false_iff, ne_eq, HI2.out]; exact fun h => (by rw [e] at h; exact absurd h.2.2.2.2.2 (by simp))
  rw [h12] at hb2 i2 ⊢
  have g3 : 1 ≤ s := ((gg_iff _ _).1 HG.out).2.2.1
  have HN2b : Hid (N1 = mks.length) := by rw [← h12]; exact HN2.out
  clear hl2 HX HI2 HG HL2 HL1 h12 HN2
  go_enter Try.func15, Try.ntmps15
  go_wp2_with fail
  refine (hG _).mono ?_; rintro e w1 ⟨rfl, k1⟩
  have c0 : w1.cell? ⟨w.heap.size, 0, none⟩ = some (.int .i64 n) := k1.held (by simp)
  have c1 : w1.cell? ⟨w.heap.size, 1, none⟩ = some (.int .i64 s) := k1.held (by simp)
  have c2 : w1.cell? ⟨w.heap.size, 2, none⟩ = some (.int .i64 ep) := k1.held (by simp)
  have c3 : w1.cell? ⟨w.heap.size, 3, none⟩ = some (.slice a1 N1 p1) := k1.held (by simp)
  have c4 : w1.cell? ⟨w.heap.size, 4, none⟩ = some (.slice a2 N1 p2) := k1.held (by simp)
  have K1 : Kp w w1 := ((Kp.refl w).alloc _).trans k1
  clear hG k1
  have hLc : Lc w1 w.heap.size n s ep (.slice a1 N1 p1) (.slice a2 N1 p2) := ⟨c0, c1, c2, c3, c4⟩
  have HLc : Hid (Lc w1 w.heap.size n s ep (.slice a1 N1 p1) (.slice a2 N1 p2)) := hLc
  have hbw : w.heap.size < w1.heap.size := World.block_lt_of_cell? _ _ c0
  clear hLc
  go_wp2
  clear c0 c1 c2 c3 c4
  go_loopw [38] (fun i wr => ∃ k : Nat, k ≤ N1 ∧ i = .int .i64 k ∧ Hid (mg ⟨n, s, ep, sts, mks⟩ k = true) ∧ Kp w1 wr) (fun i _ => N1 - (intOf i).toNat)
  case atStart => exact ⟨0, Nat.zero_le _, rfl, HZ.out, Kp.refl w1⟩
  case round =>
    obtain ⟨k, hk, rfl, HK, hK⟩ := hrel
    by_cases hlt : k < N1
    · obtain rfl := i1 (by omega)
      obtain rfl := i2 (by omega)
      have d1 := (K1.trans hK).held (HA1.out.c k (by rw [← HN1.out]; exact hlt))
      have d2 := (K1.trans hK).held (HA2.out.c k (by rw [← HN2b.out]; omega))
      have hS := HS.out k HK.out
      obtain ⟨x, hx⟩ : ∃ x, x = sts.getD k 0 := ⟨_, rfl⟩
      obtain ⟨y, hy⟩ : ∃ y, y = mks.getD k 0 := ⟨_, rfl⟩
      rw [← hx] at d1 hS
      rw [← hy] at d2 hS
      have l := HLc.out.kept hK
      have hM := mayHave_any x y s
      clear hx hy
      obtain ⟨B, hB⟩ : ∃ B, B = mh x y s := ⟨_, rfl⟩
      rw [← hB] at hS hM
      have HS2 : Hid (mg ⟨n, s, ep, sts, mks⟩ (k + 1) = B) := hS
      clear hB hS
      have l0 := kpw_cell l.c0
      have l1 := kpw_cell l.c1
      have l2 := kpw_cell l.c2
      have l3 := kpw_cell l.c3
      have l4 := kpw_cell l.c4
      have f2 := kpw_cell d2
      clear l HK
      go_wp2_with fail
      refine wp_region_kp (by kernel_rfl) (by kernel_rfl) ?_
      repeat (first
        | go_big_quiet_skip
        | (go_big_quiet_want; go_big_quiet_op; go_big_quiet_on)
        | (go_big_quiet_want; go_big_quiet_op; apply Exists.intro; refine ⟨fun p => ?_, ?_⟩; (focus
            first
            | (go_at_call 33; exact kp_same (hM _))); go_big_quiet_on))
      refine wpQuiet_nil ?_
      rintro w2 ⟨p, rfl⟩
      have K2 := hK.trans (kpw_kp wr p)
      clear l0 l1 l2 l3 l4 f2 d1 d2 hM
      cases B with
      | true =>
        go_wp2
        go_roundw
        case rel => exact ⟨k + 1, by omega, by go_num, HS2, K2⟩
        case measure => simp [intOf]; omega
      | false =>
        have HF : Hid (X = false) := by rw [HM.out]; exact HN.out (k + 1) N1 HS2.out (by omega)
        go_wp2
        go_ret
        exact ⟨by rw [HF.out]; rfl, K1.trans K2⟩
    · obtain rfl : k = N1 := by omega
      have HF : Hid (X = true) := by rw [HM.out]; exact HK.out
      go_wp2
      go_ret
      exact ⟨by rw [HF.out]; rfl, K1.trans hK⟩
set_option maxRecDepth 100000 in
set_option maxHeartbeats 2000000 in
theorem rlgood_any (L : LB) (sv mv : Value) (w : World) (h1 : Nl w sv L.sts) (h2 : Nl w mv L.mks) : Calls Try.prog 16 #[lV L.n L.s L.ep sv mv] w fun e w' => e = .returned (.bool (lg L)) ∧ Kp w w' := by
  have hG := rgood_any L.n L.s
  obtain ⟨X, eX⟩ : ∃ X, X = lg L := ⟨_, rfl⟩
  rw [← eX]
  have HX : Hid (X = lg L) := eX
  have HI := lg_iff L
  have HS : Hid (∀ k, mg L k = true → mg L (k + 1) = mh (L.sts.getD k 0) (L.mks.getD k 0) L.s) := mg_step L
  have HN : Hid (∀ k m, mg L k = false → k ≤ m → mg L m = false) := mg_not L
  have HZ : Hid (mg L 0 = true) := mg_zero L
  obtain ⟨a1, g1, o1, p1, rfl, A1⟩ := h1
  obtain ⟨a2, g2, o2, p2, rfl, A2⟩ := h2
  obtain ⟨n, s, ep, sts, mks⟩ := L
  simp only at *
  obtain ⟨N1, hN1⟩ : ∃ N, N = sts.length := ⟨_, rfl⟩
  obtain ⟨N2, hN2⟩ : ∃ N, N = mks.length := ⟨_, rfl⟩
  have i1 := A1.ha
  have i2 := A2.ha
  have m1 : N1 ≤ 9223372036854775807 := by have := A1.le; have := A1.mx; omega
  have m2 : N2 ≤ 9223372036854775807 := by have := A2.le; have := A2.mx; omega
  rw [← hN1] at HI i1 ⊢
  rw [← hN2] at HI i2 ⊢
  have HA1 : Hid (Na w a1 g1 o1 p1 sts) := A1
  have HA2 : Hid (Na w a2 g2 o2 p2 mks) := A2
  have HN1 : Hid (N1 = sts.length) := hN1
  have HN2 : Hid (N2 = mks.length) := hN2
  have HI2 : Hid (lg ⟨n, s, ep, sts, mks⟩ = true ↔ gg n s = true ∧ 1 ≤ ep ∧ ep ≤ 9007199254740992 ∧ (N1 : Int) = n ∧ (N2 : Int) = n ∧ mg ⟨n, s, ep, sts, mks⟩ N1 = true) := HI
  clear eX HI A1 A2 hN1 hN2
  unfold lV
  cases e1 : gg n s with
  | false =>
    have HF : Hid (X = false) := by rw [HX.out, Bool.eq_false_iff, ne_eq, HI2.out]; exact fun h => (by rw [e1] at h; exact absurd h.1 (by simp))
    rw [e1] at hG
    clear e1
    unfold gV at hG
    go_enter Try.func16, Try.ntmps16
    go_wp2_with fail
    refine (hG _).mono ?_; rintro e w1 ⟨rfl, k1⟩
    have K1 : Kp w w1 := ((Kp.refl w).alloc _).trans k1
    clear hG k1
    go_wp2
    go_ret
    exact ⟨by rw [HF.out]; rfl, K1⟩
  | true =>
  rw [e1] at hG
  have HG : Hid (gg n s = true) := e1
  clear e1
  unfold gV at hG
  by_cases he1 : 1 ≤ ep
  case neg =>
    have HF : Hid (X = false) := by rw [HX.out, Bool.eq_false_iff, ne_eq, HI2.out]; exact fun h => he1 h.2.1
    go_enter Try.func16, Try.ntmps16
    go_wp2_with fail
    refine (hG _).mono ?_; rintro e w1 ⟨rfl, k1⟩
    have c0 : w1.cell? ⟨w.heap.size, 0, none⟩ = some (.int .i64 n) := k1.held (by simp)
    have c1 : w1.cell? ⟨w.heap.size, 1, none⟩ = some (.int .i64 s) := k1.held (by simp)
    have c2 : w1.cell? ⟨w.heap.size, 2, none⟩ = some (.int .i64 ep) := k1.held (by simp)
    have c3 : w1.cell? ⟨w.heap.size, 3, none⟩ = some (.slice a1 N1 p1) := k1.held (by simp)
    have c4 : w1.cell? ⟨w.heap.size, 4, none⟩ = some (.slice a2 N2 p2) := k1.held (by simp)
    have K1 : Kp w w1 := ((Kp.refl w).alloc _).trans k1
    clear hG k1
    go_wp2
    go_ret
    exact ⟨by rw [HF.out]; rfl, K1⟩
  by_cases he2 : ep ≤ 9007199254740992
  case neg =>
    have HF : Hid (X = false) := by rw [HX.out, Bool.eq_false_iff, ne_eq, HI2.out]; exact fun h => he2 h.2.2.1
    go_enter Try.func16, Try.ntmps16
    go_wp2_with fail
    refine (hG _).mono ?_; rintro e w1 ⟨rfl, k1⟩
    have c0 : w1.cell? ⟨w.heap.size, 0, none⟩ = some (.int .i64 n) := k1.held (by simp)
    have c1 : w1.cell? ⟨w.heap.size, 1, none⟩ = some (.int .i64 s) := k1.held (by simp)
    have c2 : w1.cell? ⟨w.heap.size, 2, none⟩ = some (.int .i64 ep) := k1.held (by simp)
    have c3 : w1.cell? ⟨w.heap.size, 3, none⟩ = some (.slice a1 N1 p1) := k1.held (by simp)
    have c4 : w1.cell? ⟨w.heap.size, 4, none⟩ = some (.slice a2 N2 p2) := k1.held (by simp)
    have K1 : Kp w w1 := ((Kp.refl w).alloc _).trans k1
    clear hG k1
    go_wp2
    go_ret
    exact ⟨by rw [HF.out]; rfl, K1⟩
  by_cases hl1 : (N1 : Int) = n
  case neg =>
    have HF : Hid (X = false) := by rw [HX.out, Bool.eq_false_iff, ne_eq, HI2.out]; exact fun h => hl1 h.2.2.2.1
    have hb1 : ((N1 : Int) != n) = true := by simpa using hl1
    clear hl1
    go_enter Try.func16, Try.ntmps16
    go_wp2_with fail
    refine (hG _).mono ?_; rintro e w1 ⟨rfl, k1⟩
    have c0 : w1.cell? ⟨w.heap.size, 0, none⟩ = some (.int .i64 n) := k1.held (by simp)
    have c1 : w1.cell? ⟨w.heap.size, 1, none⟩ = some (.int .i64 s) := k1.held (by simp)
    have c2 : w1.cell? ⟨w.heap.size, 2, none⟩ = some (.int .i64 ep) := k1.held (by simp)
    have c3 : w1.cell? ⟨w.heap.size, 3, none⟩ = some (.slice a1 N1 p1) := k1.held (by simp)
    have c4 : w1.cell? ⟨w.heap.size, 4, none⟩ = some (.slice a2 N2 p2) := k1.held (by simp)
    have K1 : Kp w w1 := ((Kp.refl w).alloc _).trans k1
    clear hG k1
    go_wp2
    go_ret
    exact ⟨by rw [HF.out]; rfl, K1⟩
  have hb1 : ((N1 : Int) != n) = false := by simpa using hl1
  have HL1 : Hid ((N1 : Int) = n) := hl1
  clear hl1
  by_cases hl2 : (N2 : Int) = n
  case neg =>
    have HF : Hid (X = false) := by rw [HX.out, Bool.eq_false_iff, ne_eq, HI2.out]; exact fun h => hl2 h.2.2.2.2.1
    have hb2 : ((N2 : Int) != n) = true := by simpa using hl2
    clear hl2
    go_enter Try.func16, Try.ntmps16
    go_wp2_with fail
    refine (hG _).mono ?_; rintro e w1 ⟨rfl, k1⟩
    have c0 : w1.cell? ⟨w.heap.size, 0, none⟩ = some (.int .i64 n) := k1.held (by simp)
    have c1 : w1.cell? ⟨w.heap.size, 1, none⟩ = some (.int .i64 s) := k1.held (by simp)
    have c2 : w1.cell? ⟨w.heap.size, 2, none⟩ = some (.int .i64 ep) := k1.held (by simp)
    have c3 : w1.cell? ⟨w.heap.size, 3, none⟩ = some (.slice a1 N1 p1) := k1.held (by simp)
    have c4 : w1.cell? ⟨w.heap.size, 4, none⟩ = some (.slice a2 N2 p2) := k1.held (by simp)
    have K1 : Kp w w1 := ((Kp.refl w).alloc _).trans k1
    clear hG k1
    go_wp2
    go_ret
    exact ⟨by rw [HF.out]; rfl, K1⟩
  have hb2 : ((N2 : Int) != n) = false := by simpa using hl2
  have HL2 : Hid ((N2 : Int) = n) := hl2
  have h12 : N2 = N1 := by have := HL1.out; omega
  have HM : Hid (X = mg ⟨n, s, ep, sts, mks⟩ N1) := by
    show X = _
    rw [HX.out]
    cases e : mg ⟨n, s, ep, sts, mks⟩ N1 with
    | true => exact HI2.out.2 ⟨HG.out, he1, he2, HL1.out, hl2, e⟩
    | false => rw [Bool.eq_false_iff, ne_eq, HI2.out]; exact fun h => (by rw [e] at h; exact absurd h.2.2.2.2.2 (by simp))
  rw [h12] at hb2 i2 ⊢
  have g3 : 1 ≤ s := ((gg_iff _ _).1 HG.out).2.2.1
  have HN2b : Hid (N1 = mks.length) := by rw [← h12]; exact HN2.out
  clear hl2 HX HI2 HG HL2 HL1 h12 HN2
  go_enter Try.func16, Try.ntmps16
  go_wp2_with fail
  refine (hG _).mono ?_; rintro e w1 ⟨rfl, k1⟩
  have c0 : w1.cell? ⟨w.heap.size, 0, none⟩ = some (.int .i64 n) := k1.held (by simp)
  have c1 : w1.cell? ⟨w.heap.size, 1, none⟩ = some (.int .i64 s) := k1.held (by simp)
  have c2 : w1.cell? ⟨w.heap.size, 2, none⟩ = some (.int .i64 ep) := k1.held (by simp)
  have c3 : w1.cell? ⟨w.heap.size, 3, none⟩ = some (.slice a1 N1 p1) := k1.held (by simp)
  have c4 : w1.cell? ⟨w.heap.size, 4, none⟩ = some (.slice a2 N1 p2) := k1.held (by simp)
  have K1 : Kp w w1 := ((Kp.refl w).alloc _).trans k1
  clear hG k1
  have hLc : Lc w1 w.heap.size n s ep (.slice a1 N1 p1) (.slice a2 N1 p2) := ⟨c0, c1, c2, c3, c4⟩
  have HLc : Hid (Lc w1 w.heap.size n s ep (.slice a1 N1 p1) (.slice a2 N1 p2)) := hLc
  have hbw : w.heap.size < w1.heap.size := World.block_lt_of_cell? _ _ c0
  clear hLc
  go_wp2
  clear c0 c1 c2 c3 c4
  go_loopw [4] (fun i wr => ∃ k : Nat, k ≤ N1 ∧ i = .int .i64 k ∧ Hid (mg ⟨n, s, ep, sts, mks⟩ k = true) ∧ Kp w1 wr) (fun i _ => N1 - (intOf i).toNat)
  case atStart => exact ⟨0, Nat.zero_le _, rfl, HZ.out, Kp.refl w1⟩
  case round =>
    obtain ⟨k, hk, rfl, HK, hK⟩ := hrel
    obtain ⟨c0, c1, c2, c3, c4⟩ := HLc.out.kept hK
    by_cases hlt : k < N1
    · obtain rfl := i1 (by omega)
      obtain rfl := i2 (by omega)
      have d1 := (K1.trans hK).held (HA1.out.c k (by rw [← HN1.out]; exact hlt))
      have d2 := (K1.trans hK).held (HA2.out.c k (by rw [← HN2b.out]; omega))
      have hS := HS.out k HK.out
      obtain ⟨x, hx⟩ : ∃ x, x = sts.getD k 0 := ⟨_, rfl⟩
      obtain ⟨y, hy⟩ : ∃ y, y = mks.getD k 0 := ⟨_, rfl⟩
      rw [← hx] at d1 hS
      rw [← hy] at d2 hS
      have HSk : Hid (mg ⟨n, s, ep, sts, mks⟩ (k + 1) = mh x y s) := hS
      clear hx hy hS HK
      by_cases q1 : 0 ≤ x
      case neg =>
        have HF : Hid (X = false) := by
          rw [HM.out]
          refine HN.out (k + 1) N1 ?_ (by omega)
          rw [HSk.out, Bool.eq_false_iff, ne_eq]
          intro hm
          have hbd := mh_bd hm g3
          omega
        have r1 : decide (x < 0) = true := decide_eq_true (by omega)
        clear q1
        go_wp2_with fail
        go_quiet (fail)
        go_wp2
        go_ret
        exact ⟨by rw [HF.out]; rfl, K1.trans (hK.drewN _)⟩
      have r1 : decide (x < 0) = false := decide_eq_false (by omega)
      by_cases q2 : x ≤ 2
      case neg =>
        have HF : Hid (X = false) := by
          rw [HM.out]
          refine HN.out (k + 1) N1 ?_ (by omega)
          rw [HSk.out, Bool.eq_false_iff, ne_eq]
          intro hm
          have hbd := mh_bd hm g3
          omega
        have r2 : decide (2 < x) = true := decide_eq_true (by omega)
        clear q2
        go_wp2_with fail
        go_quiet (fail)
        go_wp2
        go_ret
        exact ⟨by rw [HF.out]; rfl, K1.trans (hK.drewN _)⟩
      have r2 : decide (2 < x) = false := decide_eq_false (by omega)
      by_cases q3 : 0 ≤ y
      case neg =>
        have HF : Hid (X = false) := by
          rw [HM.out]
          refine HN.out (k + 1) N1 ?_ (by omega)
          rw [HSk.out, Bool.eq_false_iff, ne_eq]
          intro hm
          have hbd := mh_bd hm g3
          omega
        have r3 : decide (y < 0) = true := decide_eq_true (by omega)
        clear q3
        go_wp2_with fail
        go_quiet (fail)
        go_wp2
        go_ret
        exact ⟨by rw [HF.out]; rfl, K1.trans (hK.drewN _)⟩
      have r3 : decide (y < 0) = false := decide_eq_false (by omega)
      by_cases q4 : y < s
      case neg =>
        have HF : Hid (X = false) := by
          rw [HM.out]
          refine HN.out (k + 1) N1 ?_ (by omega)
          rw [HSk.out, Bool.eq_false_iff, ne_eq]
          intro hm
          have hbd := mh_bd hm g3
          omega
        have r4 : decide (s ≤ y) = true := decide_eq_true (by omega)
        clear q4
        go_wp2_with fail
        go_quiet (fail)
        go_wp2
        go_ret
        exact ⟨by rw [HF.out]; rfl, K1.trans (hK.drewN _)⟩
      have r4 : decide (s ≤ y) = false := decide_eq_false (by omega)
      by_cases q5 : 0 < y
      · have r5 : decide (0 < y) = true := decide_eq_true q5
        by_cases q6 : x = 2
        · have r6 : (x != 2) = false := by simpa using q6
          have HS2 : Hid (mg ⟨n, s, ep, sts, mks⟩ (k + 1) = true) := by
            show mg _ _ = _
            rw [HSk.out]
            exact mh_of (by omega) (by omega) (by omega) (by omega) (by omega)
          clear q6 q1 q2 q3 q4 q5
          go_wp2_with fail
          go_quiet (fail)
          go_wp2
          go_roundw
          case rel => exact ⟨k + 1, by omega, by go_num, HS2, hK.drewN _⟩
          case measure => simp [intOf]; omega
        · have r6 : (x != 2) = true := by simpa using q6
          have HF : Hid (X = false) := by
            rw [HM.out]
            refine HN.out (k + 1) N1 ?_ (by omega)
            rw [HSk.out, Bool.eq_false_iff, ne_eq]
            intro hm
            have hbd := mh_bd hm g3
            omega
          clear q6 q1 q2 q3 q4 q5
          go_wp2_with fail
          go_quiet (fail)
          go_wp2
          go_ret
          exact ⟨by rw [HF.out]; rfl, K1.trans (hK.drewN _)⟩
      · have r5 : decide (0 < y) = false := decide_eq_false q5
        have HS2 : Hid (mg ⟨n, s, ep, sts, mks⟩ (k + 1) = true) := by
          show mg _ _ = _
          rw [HSk.out]
          exact mh_of (by omega) (by omega) (by omega) (by omega) (by omega)
        clear q1 q2 q3 q4 q5
        go_wp2_with fail
        go_quiet (fail)
        go_wp2
        go_roundw
        case rel => exact ⟨k + 1, by omega, by go_num, HS2, hK.drewN _⟩
        case measure => simp [intOf]; omega
    · obtain rfl : k = N1 := by omega
      have HF : Hid (X = true) := by rw [HM.out]; exact HK.out
      go_wp2
      go_ret
      exact ⟨by rw [HF.out]; rfl, K1.trans hK⟩

end Go.Proofs.Ytobpgfnmhpgkeaa
