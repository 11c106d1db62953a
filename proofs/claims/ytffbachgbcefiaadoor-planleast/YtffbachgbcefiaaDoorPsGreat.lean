/-
  Contract of State's great. Condition: that the number of data columns is an int, and two more.
-/
import Derived.Test.YtffbachgbcefiaaDoorPsIw
namespace Go.Proofs.YtffbachgbcefiaaDoor
open Go.RowKit Plain
set_option linter.unusedVariables false
set_option linter.unusedSimpArgs false

set_option maxRecDepth 100000 in
set_option maxHeartbeats 8000000 in
theorem great_any (s : PS) (hD1 : -9223372036854775808 ≤ s.D) (hD : s.D + 2 ≤ 9223372036854775807) (w : World) : Calls Tryd.prog 23 #[PV s] w fun e w' => e = .returned (.tuple #[SV (rdW s 1), .bool (mayW s 1)]) ∧ Kp w w' := by
  rw [rd1, may1]
  obtain ⟨w0, hw0⟩ : ∃ w0, w0 = (w.alloc (.cells (psA s) 30)).alloc (.cells (w4 no4) 28) := ⟨_, rfl⟩
  have h0 : Iw w w0 s no4 := by rw [hw0]; exact Iw.new w s
  have h1 : Iw w w0.drew s no4 := h0.kept ((Kp.refl w0).drew)
  have HW := hid hw0
  clear hw0
  go_enter Tryd.func23, Tryd.ntmps23
  go_upto_region 1 with fail
  change Code.wp _ _ _ _ ((w.alloc (.cells (psA s) 30)).alloc (.cells (w4 no4) 28))
  rw [← show w0 = (w.alloc (.cells (psA s) 30)).alloc (.cells (w4 no4) 28) from HW.out]
  clear HW
  rename_i Q' K0 cont
  have HK : ∀ X c, Iv w X s c (wd (lessF (upF s.D) s.h)) → K0 ⟨#[PV s, .pointer (some ⟨w.heap.size, 0, none⟩), .pointer (some ⟨w.heap.size + 1, 0, none⟩), .bool false, .pointer (some ⟨c, 0, none⟩), PV s, SV (upF s.D), .pointer (some ⟨w.heap.size, 5, none⟩), SV s.h, SV (lessF (upF s.D) s.h), undef, undef, undef, undef, undef, undef, undef, undef, undef, undef, undef], []⟩ X := by
    intro X c hx
    have hx1 := hx.kept (Kp.refl X).drew
    have hE := empty_any (lessF (upF s.D) s.h)
    refine cont _ _ ?_
    clear cont h0 h1
    go_upto_region 2 with fail
    cases he : emB (lessF (upF s.D) s.h) with
    | true =>
      rw [he] at hE
      refine wp_region_held_drew (S := fun X => Bx X w.heap.size s ∧ A4 X c (wd (lessF (upF s.D) s.h))) (by kernel_rfl) (⟨hx.iw.bx.kept (Kp.refl _).drew, hx.a.kept (Kp.refl _).drew⟩) (fun hHeld => ?_)
      change wpAnyH _ _ _ _ _ 13 #[false, false, false, false, false, false, false, false, false, false, false, false, false] _ _
      refine wpAnyH_takeD (i := 0) (oi := _) (v := _) 10 rfl (by rfl) (by kernel_rfl) (by kernel_rfl) (by kernel_rfl) (fun _ _ _ h => h) (yl_set (f := lessF (upF s.D) s.h) (by rfl) (by rfl) (by rfl) (fun _ h => h.2.range)) (by assumption) ?_
      try simp only [Act.put, List.setIfInBounds_toArray, List.set_cons_zero, List.set_cons_succ]
      change wpAnyH _ _ _ _ _ 12 #[true, false, false, false, false, false, false, false, false, false, false, false, false] _ _
      refine wpAnyH_takeD (i := 1) (oi := _) (v := _) 11 rfl (by rfl) (by kernel_rfl) (by kernel_rfl) (by kernel_rfl) (fun _ _ _ h => h) (yl_set (f := lessF (upF s.D) s.h) (by rfl) (by rfl) (by rfl) (fun _ h => h.2.range)) (by assumption) ?_
      try simp only [Act.put, List.setIfInBounds_toArray, List.set_cons_zero, List.set_cons_succ]
      change wpAnyH _ _ _ _ _ 11 #[true, true, false, false, false, false, false, false, false, false, false, false, false] _ _
      refine wpAnyH_ready (rs := [2]) (by kernel_rfl) (by simp) ?_
      refine AllReadyH.cons (o := _) rfl ?_ ?_
      rotate_left; exact AllReadyH.nil
      intro K hK
      go_simp
      go_at_call 16
      refine (hE _).mono ?_; rintro e X1 ⟨rfl, p1⟩
      have k1 := hx1.kept p1
      refine hK.out _ _ (⟨k1.iw.bx, k1.a⟩) (fun hHeld => ?_)
      clear hK K
      try simp only [Act.put, List.setIfInBounds_toArray, List.set_cons_zero, List.set_cons_succ]
      change wpAnyH _ _ _ _ _ 10 #[true, true, true, false, false, false, false, false, false, false, false, false, false] _ _
      refine wpAnyH_takeD (i := 3) (oi := _) (v := ?_) 13 rfl (by rfl) (by kernel_rfl) (by kernel_rfl) (by kernel_rfl) (fun _ _ _ h => h) (.inl ⟨by rfl, ?_⟩) (by assumption) ?_
      rotate_left; ((intro w hSw; (try dsimp only at hSw); go_simp); first | done | with_reducible rfl)
      try simp only [Act.put, List.setIfInBounds_toArray, List.set_cons_zero, List.set_cons_succ]
      change wpAnyH _ _ _ _ _ 9 #[true, true, true, true, false, false, false, false, false, false, false, false, false] _ _
      refine wpAnyH_takeD (i := 4) (oi := _) (v := ?_) 14 rfl (by rfl) (by kernel_rfl) (by kernel_rfl) (by kernel_rfl) (fun _ _ _ h => h) (.inl ⟨by rfl, ?_⟩) (by assumption) ?_
      rotate_left; ((intro w hSw; (try dsimp only at hSw); go_simp); first | done | with_reducible rfl)
      try simp only [Act.put, List.setIfInBounds_toArray, List.set_cons_zero, List.set_cons_succ]
      change wpAnyH _ _ _ _ _ 8 #[true, true, true, true, true, false, false, false, false, false, false, false, false] _ _
      refine wpAnyH_takeD (i := 5) (oi := _) (v := undef) 15 rfl (by rfl) (by kernel_rfl) (by kernel_rfl) (by kernel_rfl) (fun _ _ _ h => h) (.inr ⟨by rfl, rfl⟩) (by assumption) ?_
      try simp only [Act.put, List.setIfInBounds_toArray, List.set_cons_zero, List.set_cons_succ]
      change wpAnyH _ _ _ _ _ 7 #[true, true, true, true, true, true, false, false, false, false, false, false, false] _ _
      refine wpAnyH_takeD (i := 6) (oi := _) (v := undef) 16 rfl (by rfl) (by kernel_rfl) (by kernel_rfl) (by kernel_rfl) (fun _ _ _ h => h) (.inr ⟨by rfl, rfl⟩) (by assumption) ?_
      try simp only [Act.put, List.setIfInBounds_toArray, List.set_cons_zero, List.set_cons_succ]
      change wpAnyH _ _ _ _ _ 6 #[true, true, true, true, true, true, true, false, false, false, false, false, false] _ _
      refine wpAnyH_takeD (i := 7) (oi := _) (v := undef) 17 rfl (by rfl) (by kernel_rfl) (by kernel_rfl) (by kernel_rfl) (fun _ _ _ h => h) (.inr ⟨by rfl, rfl⟩) (by assumption) ?_
      try simp only [Act.put, List.setIfInBounds_toArray, List.set_cons_zero, List.set_cons_succ]
      change wpAnyH _ _ _ _ _ 5 #[true, true, true, true, true, true, true, true, false, false, false, false, false] _ _
      refine wpAnyH_takeD (i := 8) (oi := _) (v := undef) 18 rfl (by rfl) (by kernel_rfl) (by kernel_rfl) (by kernel_rfl) (fun _ _ _ h => h) (.inr ⟨by rfl, rfl⟩) (by assumption) ?_
      try simp only [Act.put, List.setIfInBounds_toArray, List.set_cons_zero, List.set_cons_succ]
      change wpAnyH _ _ _ _ _ 4 #[true, true, true, true, true, true, true, true, true, false, false, false, false] _ _
      refine wpAnyH_takeD (i := 9) (oi := _) (v := undef) 19 rfl (by rfl) (by kernel_rfl) (by kernel_rfl) (by kernel_rfl) (fun _ _ _ h => h) (.inr ⟨by rfl, rfl⟩) (by assumption) ?_
      try simp only [Act.put, List.setIfInBounds_toArray, List.set_cons_zero, List.set_cons_succ]
      change wpAnyH _ _ _ _ _ 3 #[true, true, true, true, true, true, true, true, true, true, false, false, false] _ _
      refine wpAnyH_takeD (i := 10) (oi := _) (v := ?_) 20 rfl (by rfl) (by kernel_rfl) (by kernel_rfl) (by kernel_rfl) (fun _ _ _ h => h) (.inl ⟨by rfl, ?_⟩) (by assumption) ?_
      rotate_left; ((intro w hSw; (try dsimp only at hSw); go_simp); first | done | with_reducible rfl)
      try simp only [Act.put, List.setIfInBounds_toArray, List.set_cons_zero, List.set_cons_succ]
      change wpAnyH _ _ _ _ _ 2 #[true, true, true, true, true, true, true, true, true, true, true, false, false] _ _
      have k2 := k1.put (wd (lessF (upF s.D) s.h))
      have e2 := k1.iw.put (wd (lessF (upF s.D) s.h))
      refine wpAnyH_store_set 11 (lessF (upF s.D) s.h) (by kernel_rfl) rfl (by rfl) (by rfl) (by rfl) (by rfl) (by rfl) (k1.iw.a4) (k2) (fun hHeld => ?_)
      change wpAnyH _ _ _ _ _ 1 #[true, true, true, true, true, true, true, true, true, true, true, true, false] _ _
      refine wpAnyH_takeD (i := 12) (oi := _) (v := ?_) 3 rfl (by rfl) (by kernel_rfl) (by kernel_rfl) (by kernel_rfl) (fun _ _ _ h => h) (.inl ⟨by rfl, ?_⟩) (by assumption) ?_
      rotate_left; ((intro w hSw; (try dsimp only at hSw); go_simp); first | done | with_reducible rfl)
      try simp only [Act.put, List.setIfInBounds_toArray, List.set_cons_zero, List.set_cons_succ]
      change wpAnyH _ _ _ _ _ 0 #[true, true, true, true, true, true, true, true, true, true, true, true, true] _ _
      refine wpAnyH_done (by kernel_rfl) ?_ _
      obtain ⟨e1, e2⟩ := e2
      go_wp2
      refine bodyPost_ret (res_cell_tmp rfl _ _ (w.heap.size + 1) (w4 (wd (lessF (upF s.D) s.h))) rfl rfl e1.range Tryd.underlying28 rfl (by rw [size_set']; rfl)) rfl ?_
      exact ⟨by rw [he]; simp only [Bool.not_false, Bool.true_and, Bool.not_true, Bool.false_and, SV_w4]; rfl, e2⟩
    | false =>
      rw [he] at hE
      refine wp_region_held_drew (S := fun X => Bx X w.heap.size s ∧ A4 X c (wd (lessF (upF s.D) s.h))) (by kernel_rfl) (⟨hx.iw.bx.kept (Kp.refl _).drew, hx.a.kept (Kp.refl _).drew⟩) (fun hHeld => ?_)
      change wpAnyH _ _ _ _ _ 13 #[false, false, false, false, false, false, false, false, false, false, false, false, false] _ _
      refine wpAnyH_takeD (i := 0) (oi := _) (v := _) 10 rfl (by rfl) (by kernel_rfl) (by kernel_rfl) (by kernel_rfl) (fun _ _ _ h => h) (yl_set (f := lessF (upF s.D) s.h) (by rfl) (by rfl) (by rfl) (fun _ h => h.2.range)) (by assumption) ?_
      try simp only [Act.put, List.setIfInBounds_toArray, List.set_cons_zero, List.set_cons_succ]
      change wpAnyH _ _ _ _ _ 12 #[true, false, false, false, false, false, false, false, false, false, false, false, false] _ _
      refine wpAnyH_takeD (i := 1) (oi := _) (v := _) 11 rfl (by rfl) (by kernel_rfl) (by kernel_rfl) (by kernel_rfl) (fun _ _ _ h => h) (yl_set (f := lessF (upF s.D) s.h) (by rfl) (by rfl) (by rfl) (fun _ h => h.2.range)) (by assumption) ?_
      try simp only [Act.put, List.setIfInBounds_toArray, List.set_cons_zero, List.set_cons_succ]
      change wpAnyH _ _ _ _ _ 11 #[true, true, false, false, false, false, false, false, false, false, false, false, false] _ _
      refine wpAnyH_ready (rs := [2]) (by kernel_rfl) (by simp) ?_
      refine AllReadyH.cons (o := _) rfl ?_ ?_
      rotate_left; exact AllReadyH.nil
      intro K hK
      go_simp
      go_at_call 16
      refine (hE _).mono ?_; rintro e X1 ⟨rfl, p1⟩
      have k1 := hx1.kept p1
      refine hK.out _ _ (⟨k1.iw.bx, k1.a⟩) (fun hHeld => ?_)
      clear hK K
      try simp only [Act.put, List.setIfInBounds_toArray, List.set_cons_zero, List.set_cons_succ]
      change wpAnyH _ _ _ _ _ 10 #[true, true, true, false, false, false, false, false, false, false, false, false, false] _ _
      refine wpAnyH_takeD (i := 3) (oi := _) (v := ?_) 13 rfl (by rfl) (by kernel_rfl) (by kernel_rfl) (by kernel_rfl) (fun _ _ _ h => h) (.inl ⟨by rfl, ?_⟩) (by assumption) ?_
      rotate_left; ((intro w hSw; (try dsimp only at hSw); go_simp); first | done | with_reducible rfl)
      try simp only [Act.put, List.setIfInBounds_toArray, List.set_cons_zero, List.set_cons_succ]
      change wpAnyH _ _ _ _ _ 9 #[true, true, true, true, false, false, false, false, false, false, false, false, false] _ _
      refine wpAnyH_takeD (i := 4) (oi := _) (v := ?_) 14 rfl (by rfl) (by kernel_rfl) (by kernel_rfl) (by kernel_rfl) (fun _ _ _ h => h) (.inl ⟨by rfl, ?_⟩) (by assumption) ?_
      rotate_left; ((intro w hSw; (try dsimp only at hSw); go_simp); first | done | with_reducible rfl)
      try simp only [Act.put, List.setIfInBounds_toArray, List.set_cons_zero, List.set_cons_succ]
      change wpAnyH _ _ _ _ _ 8 #[true, true, true, true, true, false, false, false, false, false, false, false, false] _ _
      refine wpAnyH_takeD (i := 5) (oi := _) (v := _) 15 rfl (by rfl) (by kernel_rfl) (by kernel_rfl) (by kernel_rfl) (fun _ _ _ h => h) (yl_set (f := lessF (upF s.D) s.h) (by rfl) (by rfl) (by rfl) (fun _ h => h.2.range)) (by assumption) ?_
      try simp only [Act.put, List.setIfInBounds_toArray, List.set_cons_zero, List.set_cons_succ]
      change wpAnyH _ _ _ _ _ 7 #[true, true, true, true, true, true, false, false, false, false, false, false, false] _ _
      refine wpAnyH_takeD (i := 6) (oi := _) (v := ?_) 16 rfl (by rfl) (by kernel_rfl) (by kernel_rfl) (by kernel_rfl) (fun _ _ _ h => h) (.inl ⟨by rfl, ?_⟩) (by assumption) ?_
      rotate_left; ((intro w hSw; (try dsimp only at hSw); go_simp); first | done | with_reducible rfl)
      try simp only [Act.put, List.setIfInBounds_toArray, List.set_cons_zero, List.set_cons_succ]
      change wpAnyH _ _ _ _ _ 6 #[true, true, true, true, true, true, true, false, false, false, false, false, false] _ _
      refine wpAnyH_takeD (i := 7) (oi := _) (v := _) 17 rfl (by rfl) (by kernel_rfl) (by kernel_rfl) (by kernel_rfl) (fun _ _ _ h => h) (yl_set (by rfl) (by rfl) (by rfl) (fun _ h => h.1.rl)) (by assumption) ?_
      try simp only [Act.put, List.setIfInBounds_toArray, List.set_cons_zero, List.set_cons_succ]
      change wpAnyH _ _ _ _ _ 5 #[true, true, true, true, true, true, true, true, false, false, false, false, false] _ _
      refine wpAnyH_ready (rs := [8]) (by kernel_rfl) (by simp) ?_
      refine AllReadyH.cons (o := _) rfl ?_ ?_
      rotate_left; exact AllReadyH.nil
      intro K hK
      go_simp
      go_at_call 15
      refine (and_any (lessF (upF s.D) s.h) s.l _).mono ?_; rintro e X2 ⟨rfl, p2⟩
      have k2 := k1.kept p2
      refine hK.out _ _ (⟨k2.iw.bx, k2.a⟩) (fun hHeld => ?_)
      clear hK K
      try simp only [Act.put, List.setIfInBounds_toArray, List.set_cons_zero, List.set_cons_succ]
      change wpAnyH _ _ _ _ _ 4 #[true, true, true, true, true, true, true, true, true, false, false, false, false] _ _
      refine wpAnyH_ready (rs := [9]) (by kernel_rfl) (by simp) ?_
      refine AllReadyH.cons (o := _) rfl ?_ ?_
      rotate_left; exact AllReadyH.nil
      intro K hK
      go_simp
      go_at_call 16
      refine (empty_any (andF (lessF (upF s.D) s.h) s.l) _).mono ?_; rintro e X3 ⟨rfl, p3⟩
      have k3 := k2.kept p3
      refine hK.out _ _ (⟨k3.iw.bx, k3.a⟩) (fun hHeld => ?_)
      clear hK K
      try simp only [Act.put, List.setIfInBounds_toArray, List.set_cons_zero, List.set_cons_succ]
      change wpAnyH _ _ _ _ _ 3 #[true, true, true, true, true, true, true, true, true, true, false, false, false] _ _
      refine wpAnyH_takeD (i := 10) (oi := _) (v := ?_) 20 rfl (by rfl) (by kernel_rfl) (by kernel_rfl) (by kernel_rfl) (fun _ _ _ h => h) (.inl ⟨by rfl, ?_⟩) (by assumption) ?_
      rotate_left; ((intro w hSw; (try dsimp only at hSw); go_simp); first | done | with_reducible rfl)
      try simp only [Act.put, List.setIfInBounds_toArray, List.set_cons_zero, List.set_cons_succ]
      change wpAnyH _ _ _ _ _ 2 #[true, true, true, true, true, true, true, true, true, true, true, false, false] _ _
      have k4 := k3.put (wd (lessF (upF s.D) s.h))
      have e2 := k3.iw.put (wd (lessF (upF s.D) s.h))
      refine wpAnyH_store_set 11 (lessF (upF s.D) s.h) (by kernel_rfl) rfl (by rfl) (by rfl) (by rfl) (by rfl) (by rfl) (k3.iw.a4) (k4) (fun hHeld => ?_)
      change wpAnyH _ _ _ _ _ 1 #[true, true, true, true, true, true, true, true, true, true, true, true, false] _ _
      refine wpAnyH_takeD (i := 12) (oi := _) (v := ?_) 3 rfl (by rfl) (by kernel_rfl) (by kernel_rfl) (by kernel_rfl) (fun _ _ _ h => h) (.inl ⟨by rfl, ?_⟩) (by assumption) ?_
      rotate_left; ((intro w hSw; (try dsimp only at hSw); go_simp); first | done | with_reducible rfl)
      try simp only [Act.put, List.setIfInBounds_toArray, List.set_cons_zero, List.set_cons_succ]
      change wpAnyH _ _ _ _ _ 0 #[true, true, true, true, true, true, true, true, true, true, true, true, true] _ _
      refine wpAnyH_done (by kernel_rfl) ?_ _
      obtain ⟨e1, e2⟩ := e2
      go_wp2
      refine bodyPost_ret (res_cell_tmp rfl _ _ (w.heap.size + 1) (w4 (wd (lessF (upF s.D) s.h))) rfl rfl e1.range Tryd.underlying28 rfl (by rw [size_set']; rfl)) rfl ?_
      exact ⟨by rw [he]; simp only [Bool.not_false, Bool.true_and, Bool.not_true, Bool.false_and, SV_w4]; rfl, e2⟩
  clear cont
  refine wp_region_held_drew (S := fun X => Bx X w.heap.size s) (by kernel_rfl) (h1.bx) (fun hHeld => ?_)
  change wpAnyH _ _ _ _ _ 7 #[false, false, false, false, false, false, false] _ _
  refine wpAnyH_takeD (i := 0) (oi := _) (v := _) 5 rfl (by rfl) (by kernel_rfl) (by kernel_rfl) (by kernel_rfl) (fun _ _ _ h => h) (yl_ps (by rfl) (by rfl) (by rfl) (fun _ h => h)) (by assumption) ?_
  try simp only [Act.put, List.setIfInBounds_toArray, List.set_cons_zero, List.set_cons_succ]
  change wpAnyH _ _ _ _ _ 6 #[true, false, false, false, false, false, false] _ _
  refine wpAnyH_takeD (i := 2) (oi := _) (v := ?_) 7 rfl (by rfl) (by kernel_rfl) (by kernel_rfl) (by kernel_rfl) (fun _ _ _ h => h) (.inl ⟨by rfl, ?_⟩) (by assumption) ?_
  rotate_left; ((intro w hSw; (try dsimp only at hSw); go_simp); first | done | with_reducible rfl)
  try simp only [Act.put, List.setIfInBounds_toArray, List.set_cons_zero, List.set_cons_succ]
  change wpAnyH _ _ _ _ _ 5 #[true, false, true, false, false, false, false] _ _
  refine wpAnyH_takeD (i := 3) (oi := _) (v := _) 8 rfl (by rfl) (by kernel_rfl) (by kernel_rfl) (by kernel_rfl) (fun _ _ _ h => h) (yl_set (by rfl) (by rfl) (by rfl) (fun _ h => h.rh)) (by assumption) ?_
  try simp only [Act.put, List.setIfInBounds_toArray, List.set_cons_zero, List.set_cons_succ]
  change wpAnyH _ _ _ _ _ 4 #[true, false, true, true, false, false, false] _ _
  refine wpAnyH_ready (rs := [1, 5]) (by kernel_rfl) (by simp) ?_
  refine AllReadyH.cons (o := _) rfl ?_ ?_
  · intro K hK
    go_simp
    go_at_call 37
    refine (data_any s (by omega) _).mono ?_; rintro e X1 ⟨rfl, p1⟩
    have k1 := h1.kept p1
    refine hK.out _ _ (k1.bx) (fun hHeld => ?_)
    clear hK K
    try simp only [Act.put, List.setIfInBounds_toArray, List.set_cons_zero, List.set_cons_succ]
    change wpAnyH _ _ _ _ _ 3 #[true, true, true, true, false, false, false] _ _
    refine wpAnyH_ready (rs := [4, 5]) (by kernel_rfl) (by simp) ?_
    refine AllReadyH.cons (o := _) rfl ?_ ?_
    · intro K hK
      go_simp
      go_at_call 39
      refine (less_any (upF s.D) s.h _).mono ?_; rintro e X2 ⟨rfl, p2⟩
      have k2 := k1.kept p2
      refine hK.out _ _ (k2.bx) (fun hHeld => ?_)
      clear hK K
      try simp only [Act.put, List.setIfInBounds_toArray, List.set_cons_zero, List.set_cons_succ]
      change wpAnyH _ _ _ _ _ 2 #[true, true, true, true, true, false, false] _ _
      refine wpAnyH_ready (rs := [5]) (by kernel_rfl) (by simp) ?_
      refine AllReadyH.cons (o := _) rfl ?_ ?_
      rotate_left; exact AllReadyH.nil
      intro K hK
      go_simp
      obtain ⟨Y3, hY⟩ : ∃ Y, Y = X2.alloc (.cells (w4 no4) 28) := ⟨_, rfl⟩
      have k3 : Iv w Y3 s X2.heap.size no4 := by rw [hY]; exact Iv.new k2
      refine hK.out _ _ (by have h9 := k3.iw.bx; rw [hY] at h9; exact h9) (fun hHeld => ?_)
      clear hK K
      try simp only [Act.put, List.setIfInBounds_toArray, List.set_cons_zero, List.set_cons_succ]
      change wpAnyH _ _ _ _ _ 1 #[true, true, true, true, true, true, false] _ _
      change wpAnyH _ _ _ _ _ _ _ _ (X2.alloc (.cells (w4 no4) 28))
      rw [← hY]
      have hHeld2 := k3.iw.bx
      clear hY hHeld
      have k4 := k3.set (wd (lessF (upF s.D) s.h))
      refine wpAnyH_store_set 6 (lessF (upF s.D) s.h) (by kernel_rfl) rfl (by rfl) (by rfl) (by rfl) (by rfl) (by rfl) (k3.a) (k4.iw.bx) (fun hHeld => ?_)
      change wpAnyH _ _ _ _ _ 0 #[true, true, true, true, true, true, true] _ _
      refine wpAnyH_done (by kernel_rfl) ?_ _
      exact HK _ _ k4
    refine AllReadyH.cons (o := _) rfl ?_ ?_
    · intro K hK
      go_simp
      obtain ⟨Y2, hY⟩ : ∃ Y, Y = X1.alloc (.cells (w4 no4) 28) := ⟨_, rfl⟩
      have k2 : Iv w Y2 s X1.heap.size no4 := by rw [hY]; exact Iv.new k1
      refine hK.out _ _ (by have h9 := k2.iw.bx; rw [hY] at h9; exact h9) (fun hHeld => ?_)
      clear hK K
      try simp only [Act.put, List.setIfInBounds_toArray, List.set_cons_zero, List.set_cons_succ]
      change wpAnyH _ _ _ _ _ 2 #[true, true, true, true, false, true, false] _ _
      change wpAnyH _ _ _ _ _ _ _ _ (X1.alloc (.cells (w4 no4) 28))
      rw [← hY]
      have hHeld2 := k2.iw.bx
      clear hY hHeld
      refine wpAnyH_ready (rs := [4]) (by kernel_rfl) (by simp) ?_
      refine AllReadyH.cons (o := _) rfl ?_ ?_
      rotate_left; exact AllReadyH.nil
      intro K hK
      go_simp
      go_at_call 39
      refine (less_any (upF s.D) s.h _).mono ?_; rintro e X3 ⟨rfl, p3⟩
      have k3 := k2.kept p3
      refine hK.out _ _ (k3.iw.bx) (fun hHeld => ?_)
      clear hK K
      try simp only [Act.put, List.setIfInBounds_toArray, List.set_cons_zero, List.set_cons_succ]
      change wpAnyH _ _ _ _ _ 1 #[true, true, true, true, true, true, false] _ _
      have k4 := k3.set (wd (lessF (upF s.D) s.h))
      refine wpAnyH_store_set 6 (lessF (upF s.D) s.h) (by kernel_rfl) rfl (by rfl) (by rfl) (by rfl) (by rfl) (by rfl) (k3.a) (k4.iw.bx) (fun hHeld => ?_)
      change wpAnyH _ _ _ _ _ 0 #[true, true, true, true, true, true, true] _ _
      refine wpAnyH_done (by kernel_rfl) ?_ _
      exact HK _ _ k4
    exact AllReadyH.nil
  refine AllReadyH.cons (o := _) rfl ?_ ?_
  · intro K hK
    go_simp
    obtain ⟨Y1, hY⟩ : ∃ Y, Y = w0.drew.alloc (.cells (w4 no4) 28) := ⟨_, rfl⟩
    have k1 : Iv w Y1 s w0.drew.heap.size no4 := by rw [hY]; exact Iv.new h1
    refine hK.out _ _ (by have h9 := k1.iw.bx; rw [hY] at h9; exact h9) (fun hHeld => ?_)
    clear hK K
    try simp only [Act.put, List.setIfInBounds_toArray, List.set_cons_zero, List.set_cons_succ]
    change wpAnyH _ _ _ _ _ 3 #[true, false, true, true, false, true, false] _ _
    change wpAnyH _ _ _ _ _ _ _ _ (w0.drew.alloc (.cells (w4 no4) 28))
    rw [← hY]
    have hHeld2 := k1.iw.bx
    clear hY hHeld
    refine wpAnyH_ready (rs := [1]) (by kernel_rfl) (by simp) ?_
    refine AllReadyH.cons (o := _) rfl ?_ ?_
    rotate_left; exact AllReadyH.nil
    intro K hK
    go_simp
    go_at_call 37
    refine (data_any s (by omega) _).mono ?_; rintro e X2 ⟨rfl, p2⟩
    have k2 := k1.kept p2
    refine hK.out _ _ (k2.iw.bx) (fun hHeld => ?_)
    clear hK K
    try simp only [Act.put, List.setIfInBounds_toArray, List.set_cons_zero, List.set_cons_succ]
    change wpAnyH _ _ _ _ _ 2 #[true, true, true, true, false, true, false] _ _
    refine wpAnyH_ready (rs := [4]) (by kernel_rfl) (by simp) ?_
    refine AllReadyH.cons (o := _) rfl ?_ ?_
    rotate_left; exact AllReadyH.nil
    intro K hK
    go_simp
    go_at_call 39
    refine (less_any (upF s.D) s.h _).mono ?_; rintro e X3 ⟨rfl, p3⟩
    have k3 := k2.kept p3
    refine hK.out _ _ (k3.iw.bx) (fun hHeld => ?_)
    clear hK K
    try simp only [Act.put, List.setIfInBounds_toArray, List.set_cons_zero, List.set_cons_succ]
    change wpAnyH _ _ _ _ _ 1 #[true, true, true, true, true, true, false] _ _
    have k4 := k3.set (wd (lessF (upF s.D) s.h))
    refine wpAnyH_store_set 6 (lessF (upF s.D) s.h) (by kernel_rfl) rfl (by rfl) (by rfl) (by rfl) (by rfl) (by rfl) (k3.a) (k4.iw.bx) (fun hHeld => ?_)
    change wpAnyH _ _ _ _ _ 0 #[true, true, true, true, true, true, true] _ _
    refine wpAnyH_done (by kernel_rfl) ?_ _
    exact HK _ _ k4
  exact AllReadyH.nil

end Go.Proofs.YtffbachgbcefiaaDoor
