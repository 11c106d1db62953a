/-
  Contracts of geom's Find, Block, Member, Column and Sector, for every geometry and every numbers. No condition.
-/
import Derived.Test.YtbagjfmhaclaeaaGmRefuse
import Derived.Deep.RegionWith
import Derived.Deep.RegionHeld3
import Derived.Deep.DeepCutAuto
namespace Go.Proofs.Ytbagjfmhaclaeaa
open Go.RowKit Plain
set_option linter.unusedVariables false

theorem refuse1 (n s x y : Int) (w : World) (t : TypeId) : Calls Try.prog 31 #[.agg #[.int .i64 n, .int .i64 s], .slice (some ⟨w.heap.size, 0, none⟩) 1 1] (w.alloc (.cells #[.int .i64 x, .int .i64 y] t)) fun e w' => e = .returned (.int .i64 (rfE n s [(x, y)])) ∧ Kp w w' :=
  (refuse_at n s _ _ 0 1 [(x, y)] _ (SpAt.new1 w x y t)).mono fun _ _ ⟨h, k⟩ => ⟨h, ((Kp.refl w).alloc _).trans k⟩
theorem refuse2 (n s x y u v : Int) (w : World) (t : TypeId) : Calls Try.prog 31 #[.agg #[.int .i64 n, .int .i64 s], .slice (some ⟨w.heap.size, 0, none⟩) 2 2] (w.alloc (.cells #[.int .i64 x, .int .i64 y, .int .i64 u, .int .i64 v] t)) fun e w' => e = .returned (.int .i64 (rfE n s [(x, y), (u, v)])) ∧ Kp w w' :=
  (refuse_at n s _ _ 0 2 [(x, y), (u, v)] _ (SpAt.new2 w x y u v t)).mono fun _ _ ⟨h, k⟩ => ⟨h, ((Kp.refl w).alloc _).trans k⟩
theorem refuse1b (n s x y : Int) (w : World) (t : TypeId) (k : Nat) (hk : k = w.heap.size) : Calls Try.prog 31 #[.agg #[.int .i64 n, .int .i64 s], .slice (some ⟨k, 0, none⟩) 1 1] (w.alloc (.cells #[.int .i64 x, .int .i64 y] t)) fun e w' => e = .returned (.int .i64 (rfE n s [(x, y)])) ∧ Kp w w' := by
  rw [hk]; exact refuse1 n s x y w t
theorem refuse2b (n s x y u v : Int) (w : World) (t : TypeId) (k : Nat) (hk : k = w.heap.size) : Calls Try.prog 31 #[.agg #[.int .i64 n, .int .i64 s], .slice (some ⟨k, 0, none⟩) 2 2] (w.alloc (.cells #[.int .i64 x, .int .i64 y, .int .i64 u, .int .i64 v] t)) fun e w' => e = .returned (.int .i64 (rfE n s [(x, y), (u, v)])) ∧ Kp w w' := by
  rw [hk]; exact refuse2 n s x y u v w t
def fT (p : Int × Int × Int) : Value := .tuple #[.int .i64 p.1, .int .i64 p.2.1, .int .i64 p.2.2]
def pT (p : Int × Int) : Value := .tuple #[.int .i64 p.1, .int .i64 p.2]
theorem rf_not {n s : Int} {l : List (Int × Int)} (h : gg n s = false) : rfE n s l = 4 := if_neg (by simp [h])
theorem rf_out {n s : Int} {l : List (Int × Int)} (h : gg n s = true) (hl : ¬ inR l = true) : rfE n s l = 3 := (if_pos h).trans (if_neg hl)
theorem rf_in {n s : Int} {l : List (Int × Int)} (h : gg n s = true) (hl : inR l = true) : rfE n s l = 0 := (if_pos h).trans (if_pos hl)
set_option maxRecDepth 100000 in
set_option maxHeartbeats 2000000 in
theorem find_any (n s b : Int) (w : World) : Calls Try.prog 17 #[gV n s, .int .i64 b] w fun e w' => e = .returned (fT (fnd n s b)) ∧ Kp w w' := by
  obtain ⟨X, eX⟩ : ∃ X, X = fnd n s b := ⟨_, rfl⟩
  rw [← eX]
  have HX : Hid (X = fnd n s b) := eX
  clear eX
  have HB : Hid (∀ w', Calls Try.prog 13 #[.agg #[.int .i64 n, .int .i64 s]] w' fun e w'' => e = .returned (.int .i64 (bI n s)) ∧ Kp w' w'') := blocks_any n s
  unfold gV
  obtain ⟨B, eB⟩ : ∃ B, B = bI n s := ⟨_, rfl⟩
  rw [← eB] at HB
  have EB : Hid (B = bI n s) := eB
  obtain ⟨R, eR⟩ : ∃ R, R = rfE n s [(b, B)] := ⟨_, rfl⟩
  have ER : Hid (R = rfE n s [(b, B)]) := eR
  clear eB eR
  go_enter Try.func17, Try.ntmps17
  go_wp2_with fail
  go_cut [7] (fun v wx => v = .int .i64 R ∧ Kp w wx ∧ wx.cell? ⟨w.heap.size, 0, none⟩ = some (.int .i64 n) ∧ wx.cell? ⟨w.heap.size, 1, none⟩ = some (.int .i64 s))
  case first =>
    go_region_held3 (fun W => W.cell? ⟨w.heap.size, 0, none⟩ = some (.int .i64 n) ∧ W.cell? ⟨w.heap.size, 1, none⟩ = some (.int .i64 s)) (first | go_keep | exact ⟨c0, c1⟩ | exact ⟨d0, d1⟩ | exact ⟨((Kp.refl _).alloc _).held c0, ((Kp.refl _).alloc _).held c1⟩)
      (first
      | (go_at_call 13; refine (HB.out _).mono ?_; rintro e w1 ⟨rfl, k1⟩; have c0 : w1.cell? ⟨w.heap.size, 0, none⟩ = some (.int .i64 n) := k1.held (by simp); have c1 : w1.cell? ⟨w.heap.size, 1, none⟩ = some (.int .i64 s) := k1.held (by simp); have K1 : Kp w w1 := ((Kp.refl w).alloc _).drew.trans k1; clear k1)
      | (go_at_call 31; refine (refuse1 n s b B w1 _).mono ?_; rintro e w2 ⟨rfl, k2⟩; have d0 := k2.held c0; have d1 := k2.held c1; have K2 := K1.trans k2; clear k2))
    go_wp2_with fail
    go_meet
    exact ⟨by rw [ER.out], K2, d0, d1⟩
  obtain ⟨rfl, K1, c0, c1⟩ := hcut
  obtain ⟨w1, hw1⟩ : ∃ w1, w1 = wc := ⟨_, rfl⟩
  rw [← hw1] at K1 c0 c1 ⊢
  have KH : Hid (Kp w w1) := K1
  clear hw1 K1
  clear HB
  cases e1 : gg n s with
  | false =>
    have HF : Hid (X = (0, 0, 4)) := HX.out.trans (if_neg (by simp [e1]))
    clear HX
    have hR : R = 4 := ER.out.trans (rf_not e1)
    subst hR
    clear e1 EB ER
    go_wp2
    go_ret3
    exact ⟨by rw [HF.out]; rfl, KH.out⟩
  | true =>
    obtain ⟨g1, g2, g3, g4⟩ := (gg_iff n s).1 e1
    have eB : B = (n - 2) * s := EB.out.trans (if_pos e1)
    by_cases hb : 0 ≤ b ∧ b < (n - 2) * s
    · have HF : Hid (X = (b / (n - 2), b % (n - 2), 0)) := HX.out.trans ((if_pos e1).trans (if_pos hb))
      clear HX
      have hR : R = 0 := ER.out.trans (rf_in e1 ((inR_one _ _).2 (by rw [eB]; exact hb)))
      subst hR
      have hd := div_facts (k := n - 2) hb.1 (by omega)
      have hD := data_any n s
      rw [show dI n s = n - 2 from if_pos e1] at hD
      unfold gV at hD
      have hbb := bI_bd n s
      rw [show bI n s = (n - 2) * s from if_pos e1] at hbb
      have t1 : b.tdiv (n - 2) = b / (n - 2) := Int.tdiv_eq_ediv_of_nonneg hb.1
      have t2 : b.tmod (n - 2) = b % (n - 2) := Int.tmod_eq_emod_of_nonneg hb.1
      have hb0 : 0 ≤ b := hb.1
      have hb1 : b ≤ 1920 := by omega
      obtain ⟨q, eq⟩ : ∃ q, q = b / (n - 2) := ⟨_, rfl⟩
      obtain ⟨r, er⟩ : ∃ r, r = b % (n - 2) := ⟨_, rfl⟩
      obtain ⟨k, ek⟩ : ∃ k, k = n - 2 := ⟨_, rfl⟩
      rw [← ek] at eq er t1 t2 hD hd
      rw [← ek, ← eq, ← er] at HF
      rw [← eq] at t1 hd
      rw [← er] at t2 hd
      obtain ⟨d1, d2, d3, d4, d5⟩ := hd
      have hk0 : (k == 0) = false := beq_eq_false_iff_ne.2 (by omega)
      have hk1 : 2 ≤ k := by omega
      have eq2 := eq.symm
      have er2 := er.symm
      have q0 := kpw_cell c0
      have q1 := kpw_cell c1
      clear e1 EB ER eB hb hbb eq er ek d5 c0 c1
      go_wp2_with fail
      refine wp_region_kp (by kernel_rfl) (by kernel_rfl) ?_
      repeat (first
        | go_big_quiet_skip
        | (go_big_quiet_want; go_big_quiet_op; go_big_quiet_on)
        | (go_big_quiet_want; go_big_quiet_op; apply Exists.intro; refine ⟨fun p => ?_, ?_⟩; (focus
            first
            | (go_at_call 12; exact kp_call (hD _))); go_big_quiet_on))
      refine wpQuiet_nil ?_
      rintro w2 ⟨p, rfl⟩
      go_wp2
      go_ret3
      exact ⟨by rw [HF.out]; rfl, KH.out.trans (kpw_kp w1 p)⟩
    · have HF : Hid (X = (0, 0, 3)) := HX.out.trans ((if_pos e1).trans (if_neg hb))
      clear HX
      have hR : R = 3 := ER.out.trans (rf_out e1 (by rw [inR_one, eB]; exact hb))
      subst hR
      clear e1 EB ER eB hb
      go_wp2
      go_ret3
      exact ⟨by rw [HF.out]; rfl, KH.out⟩
set_option maxRecDepth 100000 in
set_option maxHeartbeats 2000000 in
theorem sector_any (n s t : Int) (w : World) : Calls Try.prog 27 #[gV n s, .int .i64 t] w fun e w' => e = .returned (pT (sec n s t)) ∧ Kp w w' := by
  obtain ⟨X, eX⟩ : ∃ X, X = sec n s t := ⟨_, rfl⟩
  rw [← eX]
  have HX : Hid (X = sec n s t) := eX
  clear eX
  unfold gV
  obtain ⟨R, eR⟩ : ∃ R, R = rfE n s [(t, s)] := ⟨_, rfl⟩
  have ER : Hid (R = rfE n s [(t, s)]) := eR
  clear eR
  go_enter Try.func27, Try.ntmps27
  go_wp2_with fail
  refine (refuse1b n s t s (w.alloc _) _ (w.heap.size + 1) (by simp)).mono ?_; rintro e w1 ⟨rfl, k1⟩
  rw [← ER.out]
  have c0 : w1.cell? ⟨w.heap.size, 0, none⟩ = some (.int .i64 n) := k1.held (by simp)
  have c1 : w1.cell? ⟨w.heap.size, 1, none⟩ = some (.int .i64 s) := k1.held (by simp)
  have KH : Hid (Kp w w1) := ((Kp.refl w).alloc _).trans k1
  clear k1
  cases e1 : gg n s with
  | false =>
    have HF : Hid (X = (0, 4)) := HX.out.trans (if_neg (by simp [e1]))
    have hR : R = 4 := ER.out.trans (rf_not e1)
    subst hR
    clear e1 ER HX
    go_wp2
    go_ret2
    exact ⟨by rw [HF.out]; rfl, KH.out⟩
  | true =>
    obtain ⟨g1, g2, g3, g4⟩ := (gg_iff n s).1 e1
    by_cases hb : 0 ≤ t ∧ t < s
    · have HF : Hid (X = (100 + t, 0)) := HX.out.trans ((if_pos e1).trans (if_pos hb))
      have hR : R = 0 := ER.out.trans (rf_in e1 ((inR_one _ _).2 hb))
      subst hR
      clear HX ER
      obtain ⟨hb1, hb2⟩ := hb
      clear e1
      go_wp2
      go_ret2
      exact ⟨by rw [HF.out]; rfl, KH.out⟩
    · have HF : Hid (X = (0, 3)) := HX.out.trans ((if_pos e1).trans (if_neg hb))
      have hR : R = 3 := ER.out.trans (rf_out e1 (by rw [(inR_one _ _)]; exact hb))
      subst hR
      clear e1 ER HX hb
      go_wp2
      go_ret2
      exact ⟨by rw [HF.out]; rfl, KH.out⟩
set_option maxRecDepth 100000 in
set_option maxHeartbeats 2000000 in
theorem column_any (n s t m : Int) (w : World) : Calls Try.prog 23 #[gV n s, .int .i64 t, .int .i64 m] w fun e w' => e = .returned (pT (col n s t m)) ∧ Kp w w' := by
  obtain ⟨X, eX⟩ : ∃ X, X = col n s t m := ⟨_, rfl⟩
  rw [← eX]
  have HX : Hid (X = col n s t m) := eX
  clear eX
  unfold gV
  obtain ⟨R, eR⟩ : ∃ R, R = rfE n s [(t, s), (m, n)] := ⟨_, rfl⟩
  have ER : Hid (R = rfE n s [(t, s), (m, n)]) := eR
  clear eR
  go_enter Try.func23, Try.ntmps23
  go_wp2_with fail
  refine (refuse2b n s t s m n (w.alloc _) _ (w.heap.size + 1) (by simp)).mono ?_; rintro e w1 ⟨rfl, k1⟩
  rw [← ER.out]
  have c0 : w1.cell? ⟨w.heap.size, 0, none⟩ = some (.int .i64 n) := k1.held (by simp)
  have c1 : w1.cell? ⟨w.heap.size, 1, none⟩ = some (.int .i64 s) := k1.held (by simp)
  have KH : Hid (Kp w w1) := ((Kp.refl w).alloc _).trans k1
  clear k1
  cases e1 : gg n s with
  | false =>
    have HF : Hid (X = (0, 4)) := HX.out.trans (if_neg (by simp [e1]))
    have hR : R = 4 := ER.out.trans (rf_not e1)
    subst hR
    clear e1 ER HX
    go_wp2
    go_ret2
    exact ⟨by rw [HF.out]; rfl, KH.out⟩
  | true =>
    obtain ⟨g1, g2, g3, g4⟩ := (gg_iff n s).1 e1
    by_cases hb : (0 ≤ t ∧ t < s) ∧ 0 ≤ m ∧ m < n
    · have HF : Hid (X = (cM n t m, 0)) := HX.out.trans ((if_pos e1).trans (if_pos hb))
      have hR : R = 0 := ER.out.trans (rf_in e1 ((inR_two _ _ _ _).2 hb))
      subst hR
      clear HX ER
      obtain ⟨⟨t1, t2⟩, m1, m2⟩ := hb
      have hC := colOn_any n s t m w1 (by omega) g2 t1 m1 m2
      unfold gV at hC
      obtain ⟨r, er⟩ : ∃ r, r = cM n t m := ⟨_, rfl⟩
      rw [← er] at hC HF
      clear e1 er
      go_wp2_with fail
      refine hC.mono ?_; rintro e w2 ⟨rfl, k2⟩
      have K2 := KH.out.trans k2
      clear hC k2 KH c0 c1
      go_wp2
      go_ret2
      exact ⟨by rw [HF.out]; rfl, K2⟩
    · have HF : Hid (X = (0, 3)) := HX.out.trans ((if_pos e1).trans (if_neg hb))
      have hR : R = 3 := ER.out.trans (rf_out e1 (by rw [(inR_two _ _ _ _)]; exact hb))
      subst hR
      clear e1 ER HX hb
      go_wp2
      go_ret2
      exact ⟨by rw [HF.out]; rfl, KH.out⟩
set_option maxRecDepth 100000 in
set_option maxHeartbeats 2000000 in
theorem member_any (n s t c : Int) (w : World) : Calls Try.prog 21 #[gV n s, .int .i64 t, .int .i64 c] w fun e w' => e = .returned (pT (mem n s t c)) ∧ Kp w w' := by
  obtain ⟨X, eX⟩ : ∃ X, X = mem n s t c := ⟨_, rfl⟩
  rw [← eX]
  have HX : Hid (X = mem n s t c) := eX
  clear eX
  unfold gV
  obtain ⟨R, eR⟩ : ∃ R, R = rfE n s [(t, s), (c, n)] := ⟨_, rfl⟩
  have ER : Hid (R = rfE n s [(t, s), (c, n)]) := eR
  clear eR
  go_enter Try.func21, Try.ntmps21
  go_wp2_with fail
  refine (refuse2b n s t s c n (w.alloc _) _ (w.heap.size + 1) (by simp)).mono ?_; rintro e w1 ⟨rfl, k1⟩
  rw [← ER.out]
  have c0 : w1.cell? ⟨w.heap.size, 0, none⟩ = some (.int .i64 n) := k1.held (by simp)
  have c1 : w1.cell? ⟨w.heap.size, 1, none⟩ = some (.int .i64 s) := k1.held (by simp)
  have KH : Hid (Kp w w1) := ((Kp.refl w).alloc _).trans k1
  clear k1
  cases e1 : gg n s with
  | false =>
    have HF : Hid (X = (0, 4)) := HX.out.trans (if_neg (by simp [e1]))
    have hR : R = 4 := ER.out.trans (rf_not e1)
    subst hR
    clear e1 ER HX
    go_wp2
    go_ret2
    exact ⟨by rw [HF.out]; rfl, KH.out⟩
  | true =>
    obtain ⟨g1, g2, g3, g4⟩ := (gg_iff n s).1 e1
    by_cases hb : (0 ≤ t ∧ t < s) ∧ 0 ≤ c ∧ c < n
    · have HF : Hid (X = (mM n t c, 0)) := HX.out.trans ((if_pos e1).trans (if_pos hb))
      have hR : R = 0 := ER.out.trans (rf_in e1 ((inR_two _ _ _ _).2 hb))
      subst hR
      clear HX ER
      obtain ⟨⟨t1, t2⟩, m1, m2⟩ := hb
      have hS := fun w' => start_any n s t w' (by omega) g2 t1
      unfold gV at hS
      have hb := rem_bd t (n := n) (by omega)
      have hs : sM n t ≤ 33 ∧ 2 ≤ sM n t := by unfold sM; omega
      have hr : (sM n t + c).tmod n = mM n t c := Int.tmod_eq_emod_of_nonneg (by omega)
      have hr2 : (sM n t + c) % n = mM n t c := rfl
      obtain ⟨r, er⟩ : ∃ r, r = mM n t c := ⟨_, rfl⟩
      obtain ⟨a, ea⟩ : ∃ a, a = sM n t := ⟨_, rfl⟩
      rw [← er] at hr hr2 HF
      rw [← ea] at hS hs hr hr2
      obtain ⟨s1, s2⟩ := hs
      have hn0 : (n == 0) = false := beq_eq_false_iff_ne.2 (by omega)
      have q0 := kpw_cell c0
      have q1 := kpw_cell c1
      clear e1 er ea hb c0 c1
      go_wp2_with fail
      refine wp_region_kp (by kernel_rfl) (by kernel_rfl) ?_
      repeat (first
        | go_big_quiet_skip
        | (go_big_quiet_want; go_big_quiet_op; go_big_quiet_on)
        | (go_big_quiet_want; go_big_quiet_op; apply Exists.intro; refine ⟨fun p => ?_, ?_⟩; (focus
            first
            | (go_at_call 32; exact kp_call (hS _))); go_big_quiet_on))
      refine wpQuiet_nil ?_
      rintro w2 ⟨p, rfl⟩
      go_wp2
      go_ret2
      exact ⟨by rw [HF.out]; rfl, KH.out.trans (kpw_kp w1 p)⟩
    · have HF : Hid (X = (0, 3)) := HX.out.trans ((if_pos e1).trans (if_neg hb))
      have hR : R = 3 := ER.out.trans (rf_out e1 (by rw [(inR_two _ _ _ _)]; exact hb))
      subst hR
      clear e1 ER HX hb
      go_wp2
      go_ret2
      exact ⟨by rw [HF.out]; rfl, KH.out⟩
set_option maxRecDepth 100000 in
set_option maxHeartbeats 2000000 in
theorem block_any (n s t c : Int) (w : World) : Calls Try.prog 19 #[gV n s, .int .i64 t, .int .i64 c] w fun e w' => e = .returned (pT (blk n s t c)) ∧ Kp w w' := by
  obtain ⟨X, eX⟩ : ∃ X, X = blk n s t c := ⟨_, rfl⟩
  rw [← eX]
  have HX : Hid (X = blk n s t c) := eX
  clear eX
  have HB : Hid (∀ w', Calls Try.prog 12 #[.agg #[.int .i64 n, .int .i64 s]] w' fun e w'' => e = .returned (.int .i64 (dI n s)) ∧ Kp w' w'') := data_any n s
  unfold gV
  obtain ⟨B, eB⟩ : ∃ B, B = dI n s := ⟨_, rfl⟩
  rw [← eB] at HB
  have EB : Hid (B = dI n s) := eB
  obtain ⟨R, eR⟩ : ∃ R, R = rfE n s [(t, s), (c, B)] := ⟨_, rfl⟩
  have ER : Hid (R = rfE n s [(t, s), (c, B)]) := eR
  clear eB eR
  go_enter Try.func19, Try.ntmps19
  go_wp2_with fail
  go_cut [8] (fun v wx => v = .int .i64 R ∧ Kp w wx ∧ wx.cell? ⟨w.heap.size, 0, none⟩ = some (.int .i64 n) ∧ wx.cell? ⟨w.heap.size, 1, none⟩ = some (.int .i64 s))
  case first =>
    go_region_held3 (fun W => W.cell? ⟨w.heap.size, 0, none⟩ = some (.int .i64 n) ∧ W.cell? ⟨w.heap.size, 1, none⟩ = some (.int .i64 s)) (first | go_keep | exact ⟨c0, c1⟩ | exact ⟨d0, d1⟩ | exact ⟨((Kp.refl _).alloc _).held c0, ((Kp.refl _).alloc _).held c1⟩)
      (first
      | (go_at_call 12; refine (HB.out _).mono ?_; rintro e w1 ⟨rfl, k1⟩; have c0 : w1.cell? ⟨w.heap.size, 0, none⟩ = some (.int .i64 n) := k1.held (by simp); have c1 : w1.cell? ⟨w.heap.size, 1, none⟩ = some (.int .i64 s) := k1.held (by simp); have K1 : Kp w w1 := ((Kp.refl w).alloc _).drew.trans k1; clear k1)
      | (go_at_call 31; refine (refuse2 n s t s c B w1 _).mono ?_; rintro e w2 ⟨rfl, k2⟩; have d0 := k2.held c0; have d1 := k2.held c1; have K2 := K1.trans k2; clear k2))
    go_wp2_with fail
    go_meet
    exact ⟨by rw [ER.out], K2, d0, d1⟩
  obtain ⟨rfl, K1, c0, c1⟩ := hcut
  obtain ⟨w1, hw1⟩ : ∃ w1, w1 = wc := ⟨_, rfl⟩
  rw [← hw1] at K1 c0 c1 ⊢
  have KH : Hid (Kp w w1) := K1
  clear hw1 K1
  cases e1 : gg n s with
  | false =>
    have HF : Hid (X = (0, 4)) := HX.out.trans (if_neg (by simp [e1]))
    have hR : R = 4 := ER.out.trans (rf_not e1)
    subst hR
    clear e1 ER HX
    go_wp2
    go_ret2
    exact ⟨by rw [HF.out]; rfl, KH.out⟩
  | true =>
    obtain ⟨g1, g2, g3, g4⟩ := (gg_iff n s).1 e1
    by_cases hb : (0 ≤ t ∧ t < s) ∧ 0 ≤ c ∧ c < n - 2
    · have HF : Hid (X = (t * (n - 2) + c, 0)) := HX.out.trans ((if_pos e1).trans (if_pos hb))
      have hR : R = 0 := ER.out.trans (rf_in e1 ((inR_two _ _ _ _).2 (by rw [show B = n - 2 from EB.out.trans (if_pos e1)]; exact hb)))
      subst hR
      clear HX ER
      obtain ⟨⟨t1, t2⟩, m1, m2⟩ := hb
      have hk := mul_64 (a := t) (b := n - 2) (by omega) (by omega) (by omega) (by omega)
      have eB : B = n - 2 := EB.out.trans (if_pos e1)
      rw [← eB] at hk m2 HF
      obtain ⟨k1, k2⟩ := hk
      have hB : B ≤ 30 := by omega
      clear e1 eB EB
      go_wp2_with fail
      refine (HB.out _).mono ?_; rintro e w2 ⟨rfl, k3⟩
      have K2 := KH.out.trans k3
      clear k3 KH c0 c1 HB
      go_wp2
      go_ret2
      exact ⟨by rw [HF.out]; rfl, K2⟩
    · have HF : Hid (X = (0, 3)) := HX.out.trans ((if_pos e1).trans (if_neg hb))
      have hR : R = 3 := ER.out.trans (rf_out e1 (by rw [(inR_two _ _ _ _), show B = n - 2 from EB.out.trans (if_pos e1)]; exact hb))
      subst hR
      clear e1 ER HX hb
      go_wp2
      go_ret2
      exact ⟨by rw [HF.out]; rfl, KH.out⟩

end Go.Proofs.Ytbagjfmhaclaeaa
