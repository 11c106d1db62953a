/-
  Contracts of label's Whole and Missing and of the document's. Conditions: that the label's lists lie in memory.
-/
import Derived.Test.YtobpgfnmhpgkeaaLbSame
namespace Go.Proofs.Ytobpgfnmhpgkeaa
open Go.RowKit Plain
set_option linter.unusedVariables false

theorem wh_no {L : LB} {m t : Int} (h : ¬ (lg L = true ∧ (0 ≤ m ∧ m < L.n) ∧ 0 ≤ t ∧ t < L.s)) : wh L m t = false := by
  rw [Bool.eq_false_iff, ne_eq]
  intro hh
  apply h
  unfold wh at hh
  simp only [Bool.and_eq_true, decide_eq_true_eq] at hh
  exact ⟨hh.1.1.1, hh.1.1.2, hh.1.2⟩
theorem wh_in {L : LB} {m t : Int} (h1 : lg L = true) (h2 : 0 ≤ m ∧ m < L.n) (h3 : 0 ≤ t ∧ t < L.s) : wh L m t = (decide (L.sts.getD m.toNat 0 = 0) || (decide (L.sts.getD m.toNat 0 = 2) && decide (t < L.mks.getD m.toNat 0))) := by
  unfold wh
  rw [h1, decide_eq_true h2, decide_eq_true h3]
  rfl
theorem col_in {n s t m : Int} (h : gg n s = true) (h2 : (0 ≤ t ∧ t < s) ∧ 0 ≤ m ∧ m < n) : col n s t m = (cM n t m, 0) := (if_pos h).trans (if_pos h2)
theorem col_out {n s t m : Int} (h : gg n s = true) (h2 : ¬ ((0 ≤ t ∧ t < s) ∧ 0 ≤ m ∧ m < n)) : col n s t m = (0, 3) := (if_pos h).trans (if_neg h2)
set_option maxRecDepth 100000 in
set_option maxHeartbeats 2000000 in
theorem lwhole_any (L : LB) (sv mv : Value) (m t : Int) (w : World) (h1 : Nl w sv L.sts) (h2 : Nl w mv L.mks) : Calls Try.prog 20 #[lV L.n L.s L.ep sv mv, .int .i64 m, .int .i64 t] w fun e w' => e = .returned (.bool (wh L m t)) ∧ Kp w w' := by
  have hG := fun w' (k : Kp w w') => lgood_any L sv mv w' (h1.kept k) (h2.kept k)
  obtain ⟨a1, g1, o1, p1, rfl, A1⟩ := h1
  obtain ⟨a2, g2, o2, p2, rfl, A2⟩ := h2
  have HN := @wh_no L m t
  have HI := @wh_in L m t
  have HL := @lg_gl L
  have HG2 : lg L = true → gg L.n L.s = true := fun h => ((lg_iff L).1 h).1
  obtain ⟨X, eX⟩ : ∃ X, X = wh L m t := ⟨_, rfl⟩
  rw [← eX] at HN HI ⊢
  clear eX
  obtain ⟨n, s, ep, sts, mks⟩ := L
  simp only at *
  obtain ⟨N1, hN1⟩ : ∃ N, N = sts.length := ⟨_, rfl⟩
  obtain ⟨N2, hN2⟩ : ∃ N, N = mks.length := ⟨_, rfl⟩
  rw [← hN1] at hG ⊢
  rw [← hN2] at hG ⊢
  unfold lV at hG ⊢
  cases e1 : lg ⟨n, s, ep, sts, mks⟩ with
  | false =>
    have HF : Hid (X = false) := HN (fun h => by rw [e1] at h; exact absurd h.1 (by simp))
    rw [e1] at hG
    clear HN HI HL HG2 e1 A1 A2 hN1 hN2
    go_enter Try.func20, Try.ntmps20
    go_wp2_with fail
    refine (hG _ ((Kp.refl w).alloc _)).mono ?_; rintro e w1 ⟨rfl, k1⟩
    obtain ⟨c0, c1, c2, c3, c4⟩ := (Lc.new w n s ep _ _ 29).kept k1
    have K1 : Kp w w1 := ((Kp.refl w).alloc _).trans k1
    clear hG k1
    go_wp2
    go_ret
    exact ⟨by rw [HF.out]; rfl, K1⟩
  | true =>
  rw [e1] at hG
  have hgg := HG2 e1
  have hL := HL e1
  have l1 := hL.l1
  have l2 := hL.l2
  have n1 := hL.n1
  have n2 := hL.n2
  simp only at l1 l2 n1 n2
  by_cases hr : (0 ≤ m ∧ m < n) ∧ 0 ≤ t ∧ t < s
  case neg =>
    have HF : Hid (X = false) := HN (fun h => hr h.2)
    clear HN HI HL HG2 e1 A1 A2 hN1 hN2 hL
    have hC := fun w' => column_any n s t m w'
    rw [col_out hgg (fun h => hr ⟨h.2, h.1⟩)] at hC
    unfold pT gV at hC
    clear hr hgg
    go_enter Try.func20, Try.ntmps20
    go_wp2_with fail
    refine (hG _ ((Kp.refl w).alloc _)).mono ?_; rintro e w1 ⟨rfl, k1⟩
    obtain ⟨c0, c1, c2, c3, c4⟩ := (Lc.new w n s ep _ _ 29).kept k1
    have K1 : Kp w w1 := ((Kp.refl w).alloc _).trans k1
    clear hG k1
    go_wp2_with fail
    refine (hC _).mono ?_; rintro e w2 ⟨rfl, k2⟩
    have K2 := K1.trans k2
    clear hC k2 c0 c1 c2 c3 c4 K1
    go_wp2
    go_ret
    exact ⟨by rw [HF.out]; rfl, K2⟩
  have hX := HI e1 hr.1 hr.2
  obtain ⟨⟨r1, r2⟩, r3, r4⟩ := hr
  obtain ⟨M, rfl⟩ : ∃ M : Nat, m = M := ⟨m.toNat, by omega⟩
  rw [Int.toNat_natCast] at hX
  have hM1 : M < N1 := by omega
  have hM2 : M < N2 := by omega
  obtain rfl := A1.ha (by omega)
  obtain rfl := A2.ha (by omega)
  have x0 := A1.c M (by omega)
  have y0 := A2.c M (by omega)
  obtain ⟨x, hx⟩ : ∃ x, x = sts.getD M 0 := ⟨_, rfl⟩
  obtain ⟨y, hy⟩ : ∃ y, y = mks.getD M 0 := ⟨_, rfl⟩
  rw [← hx] at x0 hX
  rw [← hy] at y0 hX
  have HX := hX
  have HXh : Hid (X = (decide (x = 0) || (decide (x = 2) && decide (t < y)))) := hX
  have hC := fun w' => column_any n s t (M : Int) w'
  rw [col_in hgg ⟨⟨r3, r4⟩, r1, r2⟩] at hC
  unfold pT gV at hC
  obtain ⟨cm, ecm⟩ : ∃ c, c = cM n t M := ⟨_, rfl⟩
  rw [← ecm] at hC
  clear ecm
  have HLN : Hid ((M : Int) < n) := r2
  clear HN HI HL HG2 e1 A1 A2 hN1 hN2 hL hx hy hX HX hgg l1 l2
  go_enter Try.func20, Try.ntmps20
  go_wp2_with fail
  refine (hG _ ((Kp.refl w).alloc _)).mono ?_; rintro e w1 ⟨rfl, k1⟩
  obtain ⟨c0, c1, c2, c3, c4⟩ := (Lc.new w n s ep _ _ 29).kept k1
  have K1 : Kp w w1 := ((Kp.refl w).alloc _).trans k1
  clear hG k1
  go_wp2_with fail
  refine (hC _).mono ?_; rintro e w2 ⟨rfl, k2⟩
  have K2 := K1.trans k2
  have d0 := K2.held x0
  have d1 := K2.held y0
  have e0 := k2.held c0
  have e1 := k2.held c1
  have e2 := k2.held c2
  have e3 := k2.held c3
  have e4 := k2.held c4
  clear hC k2 c0 c1 c2 c3 c4 K1 x0 y0
  by_cases q1 : x = 0
  · have HF : Hid (X = true) := by rw [HXh.out, decide_eq_true q1]; rfl
    have b1 : (x == 0) = true := beq_iff_eq.2 q1
    clear q1
    go_wp2
    go_ret
    exact ⟨by rw [HF.out]; rfl, K2⟩
  · have b1 : (x == 0) = false := beq_eq_false_iff_ne.2 q1
    by_cases q2 : x = 2
    · have HF : Hid (X = decide (t < y)) := by show X = _; rw [HXh.out, decide_eq_false q1, decide_eq_true q2]; simp
      have b2 : (x == 2) = true := beq_iff_eq.2 q2
      clear q1 q2
      go_wp2
      go_ret
      exact ⟨by rw [HF.out]; rfl, K2⟩
    · have HF : Hid (X = false) := by show X = _; rw [HXh.out, decide_eq_false q1, decide_eq_false q2]; rfl
      have b2 : (x == 2) = false := beq_eq_false_iff_ne.2 q2
      clear q1 q2
      go_wp2
      go_ret
      exact ⟨by rw [HF.out]; rfl, K2⟩
set_option maxRecDepth 100000 in
set_option maxHeartbeats 2000000 in
theorem rwhole_any (L : LB) (sv mv : Value) (m t : Int) (w : World) (h1 : Nl w sv L.sts) (h2 : Nl w mv L.mks) : Calls Try.prog 21 #[lV L.n L.s L.ep sv mv, .int .i64 m, .int .i64 t] w fun e w' => e = .returned (.bool (wh L m t)) ∧ Kp w w' := by
  have hG := fun w' (k : Kp w w') => rlgood_any L sv mv w' (h1.kept k) (h2.kept k)
  obtain ⟨a1, g1, o1, p1, rfl, A1⟩ := h1
  obtain ⟨a2, g2, o2, p2, rfl, A2⟩ := h2
  have HN := @wh_no L m t
  have HI := @wh_in L m t
  have HL := @lg_gl L
  have HG2 : lg L = true → gg L.n L.s = true := fun h => ((lg_iff L).1 h).1
  obtain ⟨X, eX⟩ : ∃ X, X = wh L m t := ⟨_, rfl⟩
  rw [← eX] at HN HI ⊢
  clear eX
  obtain ⟨n, s, ep, sts, mks⟩ := L
  simp only at *
  obtain ⟨N1, hN1⟩ : ∃ N, N = sts.length := ⟨_, rfl⟩
  obtain ⟨N2, hN2⟩ : ∃ N, N = mks.length := ⟨_, rfl⟩
  rw [← hN1] at hG ⊢
  rw [← hN2] at hG ⊢
  unfold lV at hG ⊢
  cases e1 : lg ⟨n, s, ep, sts, mks⟩ with
  | false =>
    have HF : Hid (X = false) := HN (fun h => by rw [e1] at h; exact absurd h.1 (by simp))
    rw [e1] at hG
    clear HN HI HL HG2 e1 A1 A2 hN1 hN2
    go_enter Try.func21, Try.ntmps21
    go_wp2_with fail
    refine (hG _ ((Kp.refl w).alloc _)).mono ?_; rintro e w1 ⟨rfl, k1⟩
    obtain ⟨c0, c1, c2, c3, c4⟩ := (Lc.new w n s ep _ _ 32).kept k1
    have K1 : Kp w w1 := ((Kp.refl w).alloc _).trans k1
    clear hG k1
    go_wp2
    go_ret
    exact ⟨by rw [HF.out]; rfl, K1⟩
  | true =>
  rw [e1] at hG
  have hgg := HG2 e1
  have hL := HL e1
  have l1 := hL.l1
  have l2 := hL.l2
  have n1 := hL.n1
  have n2 := hL.n2
  simp only at l1 l2 n1 n2
  by_cases hr : (0 ≤ m ∧ m < n) ∧ 0 ≤ t ∧ t < s
  case neg =>
    have HF : Hid (X = false) := HN (fun h => hr h.2)
    clear HN HI HL HG2 e1 A1 A2 hN1 hN2 hL
    clear hgg
    by_cases q1 : 0 ≤ m
    case neg =>
      clear hr
      go_enter Try.func21, Try.ntmps21
      go_wp2_with fail
      refine (hG _ ((Kp.refl w).alloc _)).mono ?_; rintro e w1 ⟨rfl, k1⟩
      obtain ⟨c0, c1, c2, c3, c4⟩ := (Lc.new w n s ep _ _ 32).kept k1
      have K1 : Kp w w1 := ((Kp.refl w).alloc _).trans k1
      clear hG k1
      go_wp2
      go_ret
      exact ⟨by rw [HF.out]; rfl, K1⟩
    by_cases q2 : m < n
    case neg =>
      clear hr
      go_enter Try.func21, Try.ntmps21
      go_wp2_with fail
      refine (hG _ ((Kp.refl w).alloc _)).mono ?_; rintro e w1 ⟨rfl, k1⟩
      obtain ⟨c0, c1, c2, c3, c4⟩ := (Lc.new w n s ep _ _ 32).kept k1
      have K1 : Kp w w1 := ((Kp.refl w).alloc _).trans k1
      clear hG k1
      go_wp2
      go_ret
      exact ⟨by rw [HF.out]; rfl, K1⟩
    by_cases q3 : 0 ≤ t
    case neg =>
      clear hr
      go_enter Try.func21, Try.ntmps21
      go_wp2_with fail
      refine (hG _ ((Kp.refl w).alloc _)).mono ?_; rintro e w1 ⟨rfl, k1⟩
      obtain ⟨c0, c1, c2, c3, c4⟩ := (Lc.new w n s ep _ _ 32).kept k1
      have K1 : Kp w w1 := ((Kp.refl w).alloc _).trans k1
      clear hG k1
      go_wp2
      go_ret
      exact ⟨by rw [HF.out]; rfl, K1⟩
    have q4 : ¬ t < s := fun h => hr ⟨⟨q1, q2⟩, q3, h⟩
    clear hr
    go_enter Try.func21, Try.ntmps21
    go_wp2_with fail
    refine (hG _ ((Kp.refl w).alloc _)).mono ?_; rintro e w1 ⟨rfl, k1⟩
    obtain ⟨c0, c1, c2, c3, c4⟩ := (Lc.new w n s ep _ _ 32).kept k1
    have K1 : Kp w w1 := ((Kp.refl w).alloc _).trans k1
    clear hG k1
    go_wp2
    go_ret
    exact ⟨by rw [HF.out]; rfl, K1⟩
  have hX := HI e1 hr.1 hr.2
  obtain ⟨⟨r1, r2⟩, r3, r4⟩ := hr
  obtain ⟨M, rfl⟩ : ∃ M : Nat, m = M := ⟨m.toNat, by omega⟩
  rw [Int.toNat_natCast] at hX
  have hM1 : M < N1 := by omega
  have hM2 : M < N2 := by omega
  obtain rfl := A1.ha (by omega)
  obtain rfl := A2.ha (by omega)
  have x0 := A1.c M (by omega)
  have y0 := A2.c M (by omega)
  obtain ⟨x, hx⟩ : ∃ x, x = sts.getD M 0 := ⟨_, rfl⟩
  obtain ⟨y, hy⟩ : ∃ y, y = mks.getD M 0 := ⟨_, rfl⟩
  rw [← hx] at x0 hX
  rw [← hy] at y0 hX
  have HX := hX
  have HXh : Hid (X = (decide (x = 0) || (decide (x = 2) && decide (t < y)))) := hX
  have HLN : Hid ((M : Int) < n) := r2
  clear HN HI HL HG2 e1 A1 A2 hN1 hN2 hL hx hy hX HX hgg l1 l2
  go_enter Try.func21, Try.ntmps21
  go_wp2_with fail
  refine (hG _ ((Kp.refl w).alloc _)).mono ?_; rintro e w1 ⟨rfl, k1⟩
  obtain ⟨c0, c1, c2, c3, c4⟩ := (Lc.new w n s ep _ _ 32).kept k1
  have K1 : Kp w w1 := ((Kp.refl w).alloc _).trans k1
  clear hG k1
  have K2 := K1
  have d0 := K1.held x0
  have d1 := K1.held y0
  clear K1 x0 y0
  by_cases q1 : x = 0
  · have HF : Hid (X = true) := by rw [HXh.out, decide_eq_true q1]; rfl
    have b1 : (x == 0) = true := beq_iff_eq.2 q1
    clear q1
    go_wp2
    go_ret
    exact ⟨by rw [HF.out]; rfl, K2⟩
  · have b1 : (x == 0) = false := beq_eq_false_iff_ne.2 q1
    by_cases q2 : x = 2
    · have HF : Hid (X = decide (t < y)) := by show X = _; rw [HXh.out, decide_eq_false q1, decide_eq_true q2]; simp
      have b2 : (x == 2) = true := beq_iff_eq.2 q2
      clear q1 q2
      go_wp2
      go_ret
      exact ⟨by rw [HF.out]; rfl, K2⟩
    · have HF : Hid (X = false) := by show X = _; rw [HXh.out, decide_eq_false q1, decide_eq_false q2]; rfl
      have b2 : (x == 2) = false := beq_eq_false_iff_ne.2 q2
      clear q1 q2
      go_wp2
      go_ret
      exact ⟨by rw [HF.out]; rfl, K2⟩
set_option maxRecDepth 100000 in
set_option maxHeartbeats 2000000 in
theorem lmiss_any (L : LB) (sv mv : Value) (w : World) (h1 : Nl w sv L.sts) (h2 : Nl w mv L.mks) : Calls Try.prog 22 #[lV L.n L.s L.ep sv mv] w fun e w' => e = .returned (.int .i64 (ms L : Nat)) ∧ Kp w w' := by
  have hG := fun w' (k : Kp w w') => lgood_any L sv mv w' (h1.kept k) (h2.kept k)
  obtain ⟨a1, g1, o1, p1, rfl, A1⟩ := h1
  obtain ⟨a2, g2, o2, p2, rfl, A2⟩ := h2
  have HN : lg L = false → ms L = 0 := fun h => if_neg (by rw [h]; simp)
  have HI : lg L = true → ms L = mc L.sts := fun h => if_pos h
  have HL := @lg_gl L
  obtain ⟨X, eX⟩ : ∃ X, X = ms L := ⟨_, rfl⟩
  rw [← eX] at HN HI ⊢
  clear eX
  obtain ⟨n, s, ep, sts, mks⟩ := L
  simp only at *
  obtain ⟨N1, hN1⟩ : ∃ N, N = sts.length := ⟨_, rfl⟩
  obtain ⟨N2, hN2⟩ : ∃ N, N = mks.length := ⟨_, rfl⟩
  rw [← hN1] at hG ⊢
  rw [← hN2] at hG ⊢
  unfold lV at hG ⊢
  cases e1 : lg ⟨n, s, ep, sts, mks⟩ with
  | false =>
    have HF : Hid (X = 0) := HN e1
    rw [e1] at hG
    clear HN HI HL e1 A1 A2 hN1 hN2
    go_enter Try.func22, Try.ntmps22
    go_wp2_with fail
    refine (hG _ ((Kp.refl w).alloc _)).mono ?_; rintro e w1 ⟨rfl, k1⟩
    have K1 : Kp w w1 := ((Kp.refl w).alloc _).trans k1
    clear hG k1
    go_wp2
    go_ret
    exact ⟨by rw [HF.out]; rfl, K1⟩
  | true =>
    rw [e1] at hG
    have hL := HL e1
    have hl1 := hL.l1
    have hn2 := hL.n2
    simp only at hl1 hn2
    have HF : Hid (X = mc sts) := HI e1
    have i1 := A1.ha
    rw [← hN1] at i1
    have HA1 : Hid (∀ j, j < N1 → w.cell? ⟨g1, o1 + j, none⟩ = some (.int .i64 (sts.getD j 0))) := fun j hj => A1.c j (by omega)
    have HS : Hid (∀ k, k < N1 → mc (sts.take (k + 1)) = mc (sts.take k) + (if sts.getD k 0 = 0 then 0 else 1)) := fun k hk => mc_step sts k (by omega)
    have HE : Hid (sts.take N1 = sts) := by show sts.take N1 = sts; rw [hN1, List.take_length]
    have HZ : Hid (mc (sts.take 0) = 0) := rfl
    have hm : N1 ≤ 32 := by omega
    clear HN HI HL e1 A1 A2 hN1 hN2 hL hl1 hn2
    go_enter Try.func22, Try.ntmps22
    go_wp2_with fail
    refine (hG _ ((Kp.refl w).alloc _)).mono ?_; rintro e w1 ⟨rfl, k1⟩
    have hl := (Lc.new w n s ep (.slice a1 N1 p1) (.slice a2 N2 p2) 29).kept k1
    have HLc : Hid (Lc w1 w.heap.size n s ep (.slice a1 N1 p1) (.slice a2 N2 p2)) := hl
    obtain ⟨c0, c1, c2, c3, c4⟩ := hl
    have K1 : Hid (Kp w w1) := ((Kp.refl w).alloc _).trans k1
    clear hG k1
    go_wp2
    clear c0 c1 c2 c3 c4
    go_loopw [3, 12] (fun c i wr => ∃ k q : Nat, k ≤ N1 ∧ i = .int .i64 k ∧ c = .int .i64 q ∧ q ≤ k ∧ Hid (q = mc (sts.take k)) ∧ Kp w1 wr) (fun _ i _ => N1 - (intOf i).toNat)
    case atStart => exact ⟨0, 0, Nat.zero_le _, rfl, rfl, Nat.zero_le _, HZ.out.symm, Kp.refl w1⟩
    case round =>
      obtain ⟨k, q, hk, rfl, rfl, hq, HQ, hK⟩ := hrel
      obtain ⟨c0, c1, c2, c3, c4⟩ := HLc.out.kept hK
      by_cases hlt : k < N1
      · obtain rfl := i1 (by omega)
        have d0 := (K1.out.trans hK).held (HA1.out k hlt)
        have hS := HS.out k hlt
        obtain ⟨x, hx⟩ : ∃ x, x = sts.getD k 0 := ⟨_, rfl⟩
        rw [← hx] at d0 hS
        by_cases h0 : x = 0
        · have HQ2 : Hid (q = mc (sts.take (k + 1))) := by show q = _; rw [hS, if_pos h0, HQ.out]; rfl
          have b0 : (x != 0) = false := by simpa using h0
          clear hx hS h0
          go_wp2
          go_roundw
          case rel => exact ⟨k + 1, q, by omega, by go_num, rfl, by omega, HQ2, hK⟩
          case measure => simp [intOf]; omega
        · have HQ2 : Hid (q + 1 = mc (sts.take (k + 1))) := by show q + 1 = _; rw [hS, if_neg h0, HQ.out]
          have b0 : (x != 0) = true := by simpa using h0
          clear hx hS h0
          go_wp2
          go_roundw
          case rel => exact ⟨k + 1, q + 1, by omega, by go_num, by go_num, by omega, HQ2, hK⟩
          case measure => simp [intOf]; omega
      · obtain rfl : N1 = k := by omega
        have HG : Hid (X = q) := by show X = q; rw [HF.out, HQ.out, HE.out]
        go_wp2
        go_ret
        exact ⟨by rw [HG.out]; rfl, K1.out.trans hK⟩
set_option maxRecDepth 100000 in
set_option maxHeartbeats 2000000 in
theorem rmiss_any (L : LB) (sv mv : Value) (w : World) (h1 : Nl w sv L.sts) (h2 : Nl w mv L.mks) : Calls Try.prog 23 #[lV L.n L.s L.ep sv mv] w fun e w' => e = .returned (.int .i64 (ms L : Nat)) ∧ Kp w w' := by
  have hG := fun w' (k : Kp w w') => rlgood_any L sv mv w' (h1.kept k) (h2.kept k)
  obtain ⟨a1, g1, o1, p1, rfl, A1⟩ := h1
  obtain ⟨a2, g2, o2, p2, rfl, A2⟩ := h2
  have HN : lg L = false → ms L = 0 := fun h => if_neg (by rw [h]; simp)
  have HI : lg L = true → ms L = mc L.sts := fun h => if_pos h
  have HL := @lg_gl L
  obtain ⟨X, eX⟩ : ∃ X, X = ms L := ⟨_, rfl⟩
  rw [← eX] at HN HI ⊢
  clear eX
  obtain ⟨n, s, ep, sts, mks⟩ := L
  simp only at *
  obtain ⟨N1, hN1⟩ : ∃ N, N = sts.length := ⟨_, rfl⟩
  obtain ⟨N2, hN2⟩ : ∃ N, N = mks.length := ⟨_, rfl⟩
  rw [← hN1] at hG ⊢
  rw [← hN2] at hG ⊢
  unfold lV at hG ⊢
  cases e1 : lg ⟨n, s, ep, sts, mks⟩ with
  | false =>
    have HF : Hid (X = 0) := HN e1
    rw [e1] at hG
    clear HN HI HL e1 A1 A2 hN1 hN2
    go_enter Try.func23, Try.ntmps23
    go_wp2_with fail
    refine (hG _ ((Kp.refl w).alloc _)).mono ?_; rintro e w1 ⟨rfl, k1⟩
    have K1 : Kp w w1 := ((Kp.refl w).alloc _).trans k1
    clear hG k1
    go_wp2
    go_loopw [4, 5] (fun c i wr => c = .int .i64 0 ∧ i = .int .i64 0 ∧ Kp w wr) (fun _ _ _ => 0)
    case atStart => exact ⟨rfl, rfl, K1⟩
    case round =>
      obtain ⟨rfl, rfl, hK⟩ := hrel
      go_wp2
      go_ret
      exact ⟨by rw [HF.out]; rfl, hK⟩
  | true =>
    rw [e1] at hG
    have hL := HL e1
    have hl1 := hL.l1
    have hn2 := hL.n2
    simp only at hl1 hn2
    have HF : Hid (X = mc sts) := HI e1
    have i1 := A1.ha
    rw [← hN1] at i1
    have HA1 : Hid (∀ j, j < N1 → w.cell? ⟨g1, o1 + j, none⟩ = some (.int .i64 (sts.getD j 0))) := fun j hj => A1.c j (by omega)
    have HS : Hid (∀ k, k < N1 → mc (sts.take (k + 1)) = mc (sts.take k) + (if sts.getD k 0 = 0 then 0 else 1)) := fun k hk => mc_step sts k (by omega)
    have HE : Hid (sts.take N1 = sts) := by show sts.take N1 = sts; rw [hN1, List.take_length]
    have HZ : Hid (mc (sts.take 0) = 0) := rfl
    have hm : N1 ≤ 32 := by omega
    clear HN HI HL e1 A1 A2 hN1 hN2 hL hl1 hn2
    go_enter Try.func23, Try.ntmps23
    go_wp2_with fail
    refine (hG _ ((Kp.refl w).alloc _)).mono ?_; rintro e w1 ⟨rfl, k1⟩
    have hl := (Lc.new w n s ep (.slice a1 N1 p1) (.slice a2 N2 p2) 32).kept k1
    have HLc : Hid (Lc w1 w.heap.size n s ep (.slice a1 N1 p1) (.slice a2 N2 p2)) := hl
    obtain ⟨c0, c1, c2, c3, c4⟩ := hl
    have K1 : Hid (Kp w w1) := ((Kp.refl w).alloc _).trans k1
    clear hG k1
    go_wp2
    clear c0 c1 c2 c3 c4
    go_loopw [4, 5] (fun c i wr => ∃ k q : Nat, k ≤ N1 ∧ i = .int .i64 k ∧ c = .int .i64 q ∧ q ≤ k ∧ Hid (q = mc (sts.take k)) ∧ Kp w1 wr) (fun _ i _ => N1 - (intOf i).toNat)
    case atStart => exact ⟨0, 0, Nat.zero_le _, rfl, rfl, Nat.zero_le _, HZ.out.symm, Kp.refl w1⟩
    case round =>
      obtain ⟨k, q, hk, rfl, rfl, hq, HQ, hK⟩ := hrel
      obtain ⟨c0, c1, c2, c3, c4⟩ := HLc.out.kept hK
      by_cases hlt : k < N1
      · obtain rfl := i1 (by omega)
        have d0 := (K1.out.trans hK).held (HA1.out k hlt)
        have hS := HS.out k hlt
        obtain ⟨x, hx⟩ : ∃ x, x = sts.getD k 0 := ⟨_, rfl⟩
        rw [← hx] at d0 hS
        by_cases h0 : x = 0
        · have HQ2 : Hid (q = mc (sts.take (k + 1))) := by show q = _; rw [hS, if_pos h0, HQ.out]; rfl
          have b0 : (x != 0) = false := by simpa using h0
          clear hx hS h0
          go_wp2
          go_roundw
          case rel => exact ⟨k + 1, q, by omega, by go_num, rfl, by omega, HQ2, hK⟩
          case measure => simp [intOf]; omega
        · have HQ2 : Hid (q + 1 = mc (sts.take (k + 1))) := by show q + 1 = _; rw [hS, if_neg h0, HQ.out]
          have b0 : (x != 0) = true := by simpa using h0
          clear hx hS h0
          go_wp2
          go_roundw
          case rel => exact ⟨k + 1, q + 1, by omega, by go_num, by go_num, by omega, HQ2, hK⟩
          case measure => simp [intOf]; omega
      · obtain rfl : N1 = k := by omega
        have HG : Hid (X = q) := by show X = q; rw [HF.out, HQ.out, HE.out]
        go_wp2
        go_ret
        exact ⟨by rw [HG.out]; rfl, K1.out.trans hK⟩

end Go.Proofs.Ytobpgfnmhpgkeaa
