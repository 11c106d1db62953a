/-
  Contract of State's small. Condition: that the number of data columns is an int, and two more.
-/
import Derived.Test.YtffbachgbcefiaaDoorPsPar
namespace Go.Proofs.YtffbachgbcefiaaDoor
open Go.RowKit Plain
set_option linter.unusedVariables false
set_option linter.unusedSimpArgs false

set_option maxRecDepth 100000 in
set_option maxHeartbeats 8000000 in
theorem small_any (s : PS) (hD1 : -9223372036854775808 ≤ s.D) (hD : s.D + 2 ≤ 9223372036854775807) (w : World) : Calls Tryd.prog 24 #[PV s] w fun e w' => e = .returned (.tuple #[SV (rdW s 2), .bool (mayW s 2)]) ∧ Kp w w' := by
  rw [rd2, may2]
  obtain ⟨w0, hw0⟩ : ∃ w0, w0 = (w.alloc (.cells (psA s) 30)).alloc (.cells (w4 no4) 28) := ⟨_, rfl⟩
  have h0 : Iw w w0 s no4 := by rw [hw0]; exact Iw.new w s
  have h1 : Iw w w0.drew s no4 := h0.kept ((Kp.refl w0).drew)
  have HW := hid hw0
  clear hw0
  go_enter Tryd.func24, Tryd.ntmps24
  go_upto_region 1 with fail
  change Code.wp _ _ _ _ ((w.alloc (.cells (psA s) 30)).alloc (.cells (w4 no4) 28))
  rw [← show w0 = (w.alloc (.cells (psA s) 30)).alloc (.cells (w4 no4) 28) from HW.out]
  clear HW
  rename_i Q' K0 cont
  have HK : ∀ X c d, Iu w X s c d (wd (lessF s.y s.k)) (wd (lessF (parF s.D) s.l)) → K0 ⟨#[PV s, .pointer (some ⟨w.heap.size, 0, none⟩), .pointer (some ⟨w.heap.size + 1, 0, none⟩), .bool false, .pointer (some ⟨c, 0, none⟩), .pointer (some ⟨d, 0, none⟩), .pointer (some ⟨w.heap.size, 1, none⟩), SV s.y, .pointer (some ⟨w.heap.size, 9, none⟩), SV s.k, SV (lessF s.y s.k), PV s, SV (parF s.D), .pointer (some ⟨w.heap.size, 13, none⟩), SV s.l, SV (lessF (parF s.D) s.l), undef, undef, undef, undef, undef, undef, undef, undef, undef, undef, undef, undef, undef], []⟩ X := by
    intro X c d hx
    have hx1 := hx.kept (Kp.refl X).drew
    have hE := empty_any (andF (lessF s.y s.k) s.l)
    refine cont _ _ ?_
    clear cont h0 h1
    go_upto_region 2 with fail
    cases he : emB (andF (lessF s.y s.k) s.l) with
    | false =>
      rw [he] at hE
      refine wp_region_held_drew (S := fun X => Bx X w.heap.size s ∧ A4 X c (wd (lessF s.y s.k)) ∧ A4 X d (wd (lessF (parF s.D) s.l))) (by kernel_rfl) (⟨hx.iw.bx.kept (Kp.refl _).drew, hx.a.kept (Kp.refl _).drew, hx.b.kept (Kp.refl _).drew⟩) (fun hHeld => ?_)
      change wpAnyH _ _ _ _ _ 15 #[false, false, false, false, false, false, false, false, false, false, false, false, false, false, false] _ _
      refine wpAnyH_takeD (i := 0) (oi := _) (v := _) 16 rfl (by rfl) (by kernel_rfl) (by kernel_rfl) (by kernel_rfl) (fun _ _ _ h => h) (yl_set (f := lessF s.y s.k) (by rfl) (by rfl) (by rfl) (fun _ h => h.2.1.range)) (by assumption) ?_
      try simp only [Act.put, List.setIfInBounds_toArray, List.set_cons_zero, List.set_cons_succ]
      change wpAnyH _ _ _ _ _ 14 #[true, false, false, false, false, false, false, false, false, false, false, false, false, false, false] _ _
      refine wpAnyH_takeD (i := 1) (oi := _) (v := _) 17 rfl (by rfl) (by kernel_rfl) (by kernel_rfl) (by kernel_rfl) (fun _ _ _ h => h) (yl_set (f := lessF (parF s.D) s.l) (by rfl) (by rfl) (by rfl) (fun _ h => h.2.2.range)) (by assumption) ?_
      try simp only [Act.put, List.setIfInBounds_toArray, List.set_cons_zero, List.set_cons_succ]
      change wpAnyH _ _ _ _ _ 13 #[true, true, false, false, false, false, false, false, false, false, false, false, false, false, false] _ _
      refine wpAnyH_takeD (i := 3) (oi := _) (v := _) 19 rfl (by rfl) (by kernel_rfl) (by kernel_rfl) (by kernel_rfl) (fun _ _ _ h => h) (yl_set (f := lessF s.y s.k) (by rfl) (by rfl) (by rfl) (fun _ h => h.2.1.range)) (by assumption) ?_
      try simp only [Act.put, List.setIfInBounds_toArray, List.set_cons_zero, List.set_cons_succ]
      change wpAnyH _ _ _ _ _ 12 #[true, true, false, true, false, false, false, false, false, false, false, false, false, false, false] _ _
      refine wpAnyH_takeD (i := 4) (oi := _) (v := ?_) 20 rfl (by rfl) (by kernel_rfl) (by kernel_rfl) (by kernel_rfl) (fun _ _ _ h => h) (.inl ⟨by rfl, ?_⟩) (by assumption) ?_
      rotate_left; ((intro w hSw; (try dsimp only at hSw); go_simp); first | done | with_reducible rfl)
      try simp only [Act.put, List.setIfInBounds_toArray, List.set_cons_zero, List.set_cons_succ]
      change wpAnyH _ _ _ _ _ 11 #[true, true, false, true, true, false, false, false, false, false, false, false, false, false, false] _ _
      refine wpAnyH_takeD (i := 5) (oi := _) (v := _) 21 rfl (by rfl) (by kernel_rfl) (by kernel_rfl) (by kernel_rfl) (fun _ _ _ h => h) (yl_set (by rfl) (by rfl) (by rfl) (fun _ h => h.1.rl)) (by assumption) ?_
      try simp only [Act.put, List.setIfInBounds_toArray, List.set_cons_zero, List.set_cons_succ]
      change wpAnyH _ _ _ _ _ 10 #[true, true, false, true, true, true, false, false, false, false, false, false, false, false, false] _ _
      refine wpAnyH_ready (rs := [2]) (by kernel_rfl) (by simp) ?_
      refine AllReadyH.cons (o := _) rfl ?_ ?_
      rotate_left; exact AllReadyH.nil
      intro K hK
      go_simp
      go_at_call 41
      refine (or_any (lessF s.y s.k) (lessF (parF s.D) s.l) _).mono ?_; rintro e X1 ⟨rfl, p1⟩
      have k1 := hx1.kept p1
      refine hK.out _ _ (⟨k1.iw.bx, k1.a, k1.b⟩) (fun hHeld => ?_)
      clear hK K
      try simp only [Act.put, List.setIfInBounds_toArray, List.set_cons_zero, List.set_cons_succ]
      change wpAnyH _ _ _ _ _ 9 #[true, true, true, true, true, true, false, false, false, false, false, false, false, false, false] _ _
      refine wpAnyH_ready (rs := [6]) (by kernel_rfl) (by simp) ?_
      refine AllReadyH.cons (o := _) rfl ?_ ?_
      rotate_left; exact AllReadyH.nil
      intro K hK
      go_simp
      go_at_call 15
      refine (and_any (lessF s.y s.k) s.l _).mono ?_; rintro e X2 ⟨rfl, p2⟩
      have k2 := k1.kept p2
      refine hK.out _ _ (⟨k2.iw.bx, k2.a, k2.b⟩) (fun hHeld => ?_)
      clear hK K
      try simp only [Act.put, List.setIfInBounds_toArray, List.set_cons_zero, List.set_cons_succ]
      change wpAnyH _ _ _ _ _ 8 #[true, true, true, true, true, true, true, false, false, false, false, false, false, false, false] _ _
      refine wpAnyH_ready (rs := [7]) (by kernel_rfl) (by simp) ?_
      refine AllReadyH.cons (o := _) rfl ?_ ?_
      rotate_left; exact AllReadyH.nil
      intro K hK
      go_simp
      go_at_call 16
      refine (hE _).mono ?_; rintro e X3 ⟨rfl, p3⟩
      have k3 := k2.kept p3
      refine hK.out _ _ (⟨k3.iw.bx, k3.a, k3.b⟩) (fun hHeld => ?_)
      clear hK K
      try simp only [Act.put, List.setIfInBounds_toArray, List.set_cons_zero, List.set_cons_succ]
      change wpAnyH _ _ _ _ _ 7 #[true, true, true, true, true, true, true, true, false, false, false, false, false, false, false] _ _
      refine wpAnyH_takeD (i := 8) (oi := _) (v := ?_) 24 rfl (by rfl) (by kernel_rfl) (by kernel_rfl) (by kernel_rfl) (fun _ _ _ h => h) (.inl ⟨by rfl, ?_⟩) (by assumption) ?_
      rotate_left; ((intro w hSw; (try dsimp only at hSw); go_simp); first | done | with_reducible rfl)
      try simp only [Act.put, List.setIfInBounds_toArray, List.set_cons_zero, List.set_cons_succ]
      change wpAnyH _ _ _ _ _ 6 #[true, true, true, true, true, true, true, true, true, false, false, false, false, false, false] _ _
      refine wpAnyH_takeD (i := 9) (oi := _) (v := undef) 25 rfl (by rfl) (by kernel_rfl) (by kernel_rfl) (by kernel_rfl) (fun _ _ _ h => h) (.inr ⟨by rfl, rfl⟩) (by assumption) ?_
      try simp only [Act.put, List.setIfInBounds_toArray, List.set_cons_zero, List.set_cons_succ]
      change wpAnyH _ _ _ _ _ 5 #[true, true, true, true, true, true, true, true, true, true, false, false, false, false, false] _ _
      refine wpAnyH_takeD (i := 10) (oi := _) (v := undef) 26 rfl (by rfl) (by kernel_rfl) (by kernel_rfl) (by kernel_rfl) (fun _ _ _ h => h) (.inr ⟨by rfl, rfl⟩) (by assumption) ?_
      try simp only [Act.put, List.setIfInBounds_toArray, List.set_cons_zero, List.set_cons_succ]
      change wpAnyH _ _ _ _ _ 4 #[true, true, true, true, true, true, true, true, true, true, true, false, false, false, false] _ _
      refine wpAnyH_takeD (i := 11) (oi := _) (v := undef) 27 rfl (by rfl) (by kernel_rfl) (by kernel_rfl) (by kernel_rfl) (fun _ _ _ h => h) (.inr ⟨by rfl, rfl⟩) (by assumption) ?_
      try simp only [Act.put, List.setIfInBounds_toArray, List.set_cons_zero, List.set_cons_succ]
      change wpAnyH _ _ _ _ _ 3 #[true, true, true, true, true, true, true, true, true, true, true, true, false, false, false] _ _
      refine wpAnyH_takeD (i := 12) (oi := _) (v := ?_) 28 rfl (by rfl) (by kernel_rfl) (by kernel_rfl) (by kernel_rfl) (fun _ _ _ h => h) (.inl ⟨by rfl, ?_⟩) (by assumption) ?_
      rotate_left; ((intro w hSw; (try dsimp only at hSw); go_simp); first | done | with_reducible rfl)
      try simp only [Act.put, List.setIfInBounds_toArray, List.set_cons_zero, List.set_cons_succ]
      change wpAnyH _ _ _ _ _ 2 #[true, true, true, true, true, true, true, true, true, true, true, true, true, false, false] _ _
      have k4 := k3.put (wd (orF (lessF s.y s.k) (lessF (parF s.D) s.l)))
      have e2 := k3.iw.put (wd (orF (lessF s.y s.k) (lessF (parF s.D) s.l)))
      refine wpAnyH_store_set 13 (orF (lessF s.y s.k) (lessF (parF s.D) s.l)) (by kernel_rfl) rfl (by rfl) (by rfl) (by rfl) (by rfl) (by rfl) (k3.iw.a4) (k4) (fun hHeld => ?_)
      change wpAnyH _ _ _ _ _ 1 #[true, true, true, true, true, true, true, true, true, true, true, true, true, true, false] _ _
      refine wpAnyH_takeD (i := 14) (oi := _) (v := ?_) 3 rfl (by rfl) (by kernel_rfl) (by kernel_rfl) (by kernel_rfl) (fun _ _ _ h => h) (.inl ⟨by rfl, ?_⟩) (by assumption) ?_
      rotate_left; ((intro w hSw; (try dsimp only at hSw); go_simp); first | done | with_reducible rfl)
      try simp only [Act.put, List.setIfInBounds_toArray, List.set_cons_zero, List.set_cons_succ]
      change wpAnyH _ _ _ _ _ 0 #[true, true, true, true, true, true, true, true, true, true, true, true, true, true, true] _ _
      refine wpAnyH_done (by kernel_rfl) ?_ _
      obtain ⟨e1, e2⟩ := e2
      go_wp2
      refine bodyPost_ret (res_cell_tmp rfl _ _ (w.heap.size + 1) (w4 (wd (orF (lessF s.y s.k) (lessF (parF s.D) s.l)))) rfl rfl e1.range Tryd.underlying28 rfl (by rw [size_set']; rfl)) rfl ?_
      exact ⟨by rw [he]; simp only [Bool.not_false, Bool.true_and, Bool.not_true, Bool.false_and, SV_w4]; rfl, e2⟩
    | true =>
      rw [he] at hE
      refine wp_region_held_drew (S := fun X => Bx X w.heap.size s ∧ A4 X c (wd (lessF s.y s.k)) ∧ A4 X d (wd (lessF (parF s.D) s.l))) (by kernel_rfl) (⟨hx.iw.bx.kept (Kp.refl _).drew, hx.a.kept (Kp.refl _).drew, hx.b.kept (Kp.refl _).drew⟩) (fun hHeld => ?_)
      change wpAnyH _ _ _ _ _ 15 #[false, false, false, false, false, false, false, false, false, false, false, false, false, false, false] _ _
      refine wpAnyH_takeD (i := 0) (oi := _) (v := _) 16 rfl (by rfl) (by kernel_rfl) (by kernel_rfl) (by kernel_rfl) (fun _ _ _ h => h) (yl_set (f := lessF s.y s.k) (by rfl) (by rfl) (by rfl) (fun _ h => h.2.1.range)) (by assumption) ?_
      try simp only [Act.put, List.setIfInBounds_toArray, List.set_cons_zero, List.set_cons_succ]
      change wpAnyH _ _ _ _ _ 14 #[true, false, false, false, false, false, false, false, false, false, false, false, false, false, false] _ _
      refine wpAnyH_takeD (i := 1) (oi := _) (v := _) 17 rfl (by rfl) (by kernel_rfl) (by kernel_rfl) (by kernel_rfl) (fun _ _ _ h => h) (yl_set (f := lessF (parF s.D) s.l) (by rfl) (by rfl) (by rfl) (fun _ h => h.2.2.range)) (by assumption) ?_
      try simp only [Act.put, List.setIfInBounds_toArray, List.set_cons_zero, List.set_cons_succ]
      change wpAnyH _ _ _ _ _ 13 #[true, true, false, false, false, false, false, false, false, false, false, false, false, false, false] _ _
      refine wpAnyH_takeD (i := 3) (oi := _) (v := _) 19 rfl (by rfl) (by kernel_rfl) (by kernel_rfl) (by kernel_rfl) (fun _ _ _ h => h) (yl_set (f := lessF s.y s.k) (by rfl) (by rfl) (by rfl) (fun _ h => h.2.1.range)) (by assumption) ?_
      try simp only [Act.put, List.setIfInBounds_toArray, List.set_cons_zero, List.set_cons_succ]
      change wpAnyH _ _ _ _ _ 12 #[true, true, false, true, false, false, false, false, false, false, false, false, false, false, false] _ _
      refine wpAnyH_takeD (i := 4) (oi := _) (v := ?_) 20 rfl (by rfl) (by kernel_rfl) (by kernel_rfl) (by kernel_rfl) (fun _ _ _ h => h) (.inl ⟨by rfl, ?_⟩) (by assumption) ?_
      rotate_left; ((intro w hSw; (try dsimp only at hSw); go_simp); first | done | with_reducible rfl)
      try simp only [Act.put, List.setIfInBounds_toArray, List.set_cons_zero, List.set_cons_succ]
      change wpAnyH _ _ _ _ _ 11 #[true, true, false, true, true, false, false, false, false, false, false, false, false, false, false] _ _
      refine wpAnyH_takeD (i := 5) (oi := _) (v := _) 21 rfl (by rfl) (by kernel_rfl) (by kernel_rfl) (by kernel_rfl) (fun _ _ _ h => h) (yl_set (by rfl) (by rfl) (by rfl) (fun _ h => h.1.rl)) (by assumption) ?_
      try simp only [Act.put, List.setIfInBounds_toArray, List.set_cons_zero, List.set_cons_succ]
      change wpAnyH _ _ _ _ _ 10 #[true, true, false, true, true, true, false, false, false, false, false, false, false, false, false] _ _
      refine wpAnyH_ready (rs := [2]) (by kernel_rfl) (by simp) ?_
      refine AllReadyH.cons (o := _) rfl ?_ ?_
      rotate_left; exact AllReadyH.nil
      intro K hK
      go_simp
      go_at_call 41
      refine (or_any (lessF s.y s.k) (lessF (parF s.D) s.l) _).mono ?_; rintro e X1 ⟨rfl, p1⟩
      have k1 := hx1.kept p1
      refine hK.out _ _ (⟨k1.iw.bx, k1.a, k1.b⟩) (fun hHeld => ?_)
      clear hK K
      try simp only [Act.put, List.setIfInBounds_toArray, List.set_cons_zero, List.set_cons_succ]
      change wpAnyH _ _ _ _ _ 9 #[true, true, true, true, true, true, false, false, false, false, false, false, false, false, false] _ _
      refine wpAnyH_ready (rs := [6]) (by kernel_rfl) (by simp) ?_
      refine AllReadyH.cons (o := _) rfl ?_ ?_
      rotate_left; exact AllReadyH.nil
      intro K hK
      go_simp
      go_at_call 15
      refine (and_any (lessF s.y s.k) s.l _).mono ?_; rintro e X2 ⟨rfl, p2⟩
      have k2 := k1.kept p2
      refine hK.out _ _ (⟨k2.iw.bx, k2.a, k2.b⟩) (fun hHeld => ?_)
      clear hK K
      try simp only [Act.put, List.setIfInBounds_toArray, List.set_cons_zero, List.set_cons_succ]
      change wpAnyH _ _ _ _ _ 8 #[true, true, true, true, true, true, true, false, false, false, false, false, false, false, false] _ _
      refine wpAnyH_ready (rs := [7]) (by kernel_rfl) (by simp) ?_
      refine AllReadyH.cons (o := _) rfl ?_ ?_
      rotate_left; exact AllReadyH.nil
      intro K hK
      go_simp
      go_at_call 16
      refine (hE _).mono ?_; rintro e X3 ⟨rfl, p3⟩
      have k3 := k2.kept p3
      refine hK.out _ _ (⟨k3.iw.bx, k3.a, k3.b⟩) (fun hHeld => ?_)
      clear hK K
      try simp only [Act.put, List.setIfInBounds_toArray, List.set_cons_zero, List.set_cons_succ]
      change wpAnyH _ _ _ _ _ 7 #[true, true, true, true, true, true, true, true, false, false, false, false, false, false, false] _ _
      refine wpAnyH_takeD (i := 8) (oi := _) (v := ?_) 24 rfl (by rfl) (by kernel_rfl) (by kernel_rfl) (by kernel_rfl) (fun _ _ _ h => h) (.inl ⟨by rfl, ?_⟩) (by assumption) ?_
      rotate_left; ((intro w hSw; (try dsimp only at hSw); go_simp); first | done | with_reducible rfl)
      try simp only [Act.put, List.setIfInBounds_toArray, List.set_cons_zero, List.set_cons_succ]
      change wpAnyH _ _ _ _ _ 6 #[true, true, true, true, true, true, true, true, true, false, false, false, false, false, false] _ _
      refine wpAnyH_takeD (i := 9) (oi := _) (v := _) 25 rfl (by rfl) (by kernel_rfl) (by kernel_rfl) (by kernel_rfl) (fun _ _ _ h => h) (yl_set (f := lessF (parF s.D) s.l) (by rfl) (by rfl) (by rfl) (fun _ h => h.2.2.range)) (by assumption) ?_
      try simp only [Act.put, List.setIfInBounds_toArray, List.set_cons_zero, List.set_cons_succ]
      change wpAnyH _ _ _ _ _ 5 #[true, true, true, true, true, true, true, true, true, true, false, false, false, false, false] _ _
      refine wpAnyH_ready (rs := [10]) (by kernel_rfl) (by simp) ?_
      refine AllReadyH.cons (o := _) rfl ?_ ?_
      rotate_left; exact AllReadyH.nil
      intro K hK
      go_simp
      go_at_call 16
      refine (empty_any (lessF (parF s.D) s.l) _).mono ?_; rintro e X4 ⟨rfl, p4⟩
      have k4 := k3.kept p4
      refine hK.out _ _ (⟨k4.iw.bx, k4.a, k4.b⟩) (fun hHeld => ?_)
      clear hK K
      try simp only [Act.put, List.setIfInBounds_toArray, List.set_cons_zero, List.set_cons_succ]
      change wpAnyH _ _ _ _ _ 4 #[true, true, true, true, true, true, true, true, true, true, true, false, false, false, false] _ _
      refine wpAnyH_takeD (i := 11) (oi := _) (v := ?_) 27 rfl (by rfl) (by kernel_rfl) (by kernel_rfl) (by kernel_rfl) (fun _ _ _ h => h) (.inl ⟨by rfl, ?_⟩) (by assumption) ?_
      rotate_left; ((intro w hSw; (try dsimp only at hSw); go_simp); first | done | with_reducible rfl)
      try simp only [Act.put, List.setIfInBounds_toArray, List.set_cons_zero, List.set_cons_succ]
      change wpAnyH _ _ _ _ _ 3 #[true, true, true, true, true, true, true, true, true, true, true, true, false, false, false] _ _
      refine wpAnyH_takeD (i := 12) (oi := _) (v := ?_) 28 rfl (by rfl) (by kernel_rfl) (by kernel_rfl) (by kernel_rfl) (fun _ _ _ h => h) (.inl ⟨by rfl, ?_⟩) (by assumption) ?_
      rotate_left; ((intro w hSw; (try dsimp only at hSw); go_simp); first | done | with_reducible rfl)
      try simp only [Act.put, List.setIfInBounds_toArray, List.set_cons_zero, List.set_cons_succ]
      change wpAnyH _ _ _ _ _ 2 #[true, true, true, true, true, true, true, true, true, true, true, true, true, false, false] _ _
      have k5 := k4.put (wd (orF (lessF s.y s.k) (lessF (parF s.D) s.l)))
      have e2 := k4.iw.put (wd (orF (lessF s.y s.k) (lessF (parF s.D) s.l)))
      refine wpAnyH_store_set 13 (orF (lessF s.y s.k) (lessF (parF s.D) s.l)) (by kernel_rfl) rfl (by rfl) (by rfl) (by rfl) (by rfl) (by rfl) (k4.iw.a4) (k5) (fun hHeld => ?_)
      change wpAnyH _ _ _ _ _ 1 #[true, true, true, true, true, true, true, true, true, true, true, true, true, true, false] _ _
      refine wpAnyH_takeD (i := 14) (oi := _) (v := ?_) 3 rfl (by rfl) (by kernel_rfl) (by kernel_rfl) (by kernel_rfl) (fun _ _ _ h => h) (.inl ⟨by rfl, ?_⟩) (by assumption) ?_
      rotate_left; ((intro w hSw; (try dsimp only at hSw); go_simp); first | done | with_reducible rfl)
      try simp only [Act.put, List.setIfInBounds_toArray, List.set_cons_zero, List.set_cons_succ]
      change wpAnyH _ _ _ _ _ 0 #[true, true, true, true, true, true, true, true, true, true, true, true, true, true, true] _ _
      refine wpAnyH_done (by kernel_rfl) ?_ _
      obtain ⟨e1, e2⟩ := e2
      go_wp2
      refine bodyPost_ret (res_cell_tmp rfl _ _ (w.heap.size + 1) (w4 (wd (orF (lessF s.y s.k) (lessF (parF s.D) s.l)))) rfl rfl e1.range Tryd.underlying28 rfl (by rw [size_set']; rfl)) rfl ?_
      exact ⟨by rw [he]; simp only [Bool.not_false, Bool.true_and, Bool.not_true, Bool.false_and, SV_w4]; rfl, e2⟩
  clear cont
  refine wp_region_held_drew (S := fun X => Bx X w.heap.size s) (by kernel_rfl) (h1.bx) (fun hHeld => ?_)
  change wpAnyH _ _ _ _ _ 14 #[false, false, false, false, false, false, false, false, false, false, false, false, false, false] _ _
  refine wpAnyH_takeD (i := 0) (oi := _) (v := ?_) 6 rfl (by rfl) (by kernel_rfl) (by kernel_rfl) (by kernel_rfl) (fun _ _ _ h => h) (.inl ⟨by rfl, ?_⟩) (by assumption) ?_
  rotate_left; ((intro w hSw; (try dsimp only at hSw); go_simp); first | done | with_reducible rfl)
  try simp only [Act.put, List.setIfInBounds_toArray, List.set_cons_zero, List.set_cons_succ]
  change wpAnyH _ _ _ _ _ 13 #[true, false, false, false, false, false, false, false, false, false, false, false, false, false] _ _
  refine wpAnyH_takeD (i := 1) (oi := _) (v := _) 7 rfl (by rfl) (by kernel_rfl) (by kernel_rfl) (by kernel_rfl) (fun _ _ _ h => h) (yl_set (by rfl) (by rfl) (by rfl) (fun _ h => h.ry)) (by assumption) ?_
  try simp only [Act.put, List.setIfInBounds_toArray, List.set_cons_zero, List.set_cons_succ]
  change wpAnyH _ _ _ _ _ 12 #[true, true, false, false, false, false, false, false, false, false, false, false, false, false] _ _
  refine wpAnyH_takeD (i := 2) (oi := _) (v := ?_) 8 rfl (by rfl) (by kernel_rfl) (by kernel_rfl) (by kernel_rfl) (fun _ _ _ h => h) (.inl ⟨by rfl, ?_⟩) (by assumption) ?_
  rotate_left; ((intro w hSw; (try dsimp only at hSw); go_simp); first | done | with_reducible rfl)
  try simp only [Act.put, List.setIfInBounds_toArray, List.set_cons_zero, List.set_cons_succ]
  change wpAnyH _ _ _ _ _ 11 #[true, true, true, false, false, false, false, false, false, false, false, false, false, false] _ _
  refine wpAnyH_takeD (i := 3) (oi := _) (v := _) 9 rfl (by rfl) (by kernel_rfl) (by kernel_rfl) (by kernel_rfl) (fun _ _ _ h => h) (yl_set (by rfl) (by rfl) (by rfl) (fun _ h => h.rk)) (by assumption) ?_
  try simp only [Act.put, List.setIfInBounds_toArray, List.set_cons_zero, List.set_cons_succ]
  change wpAnyH _ _ _ _ _ 10 #[true, true, true, true, false, false, false, false, false, false, false, false, false, false] _ _
  refine wpAnyH_takeD (i := 5) (oi := _) (v := _) 11 rfl (by rfl) (by kernel_rfl) (by kernel_rfl) (by kernel_rfl) (fun _ _ _ h => h) (yl_ps (by rfl) (by rfl) (by rfl) (fun _ h => h)) (by assumption) ?_
  try simp only [Act.put, List.setIfInBounds_toArray, List.set_cons_zero, List.set_cons_succ]
  change wpAnyH _ _ _ _ _ 9 #[true, true, true, true, false, true, false, false, false, false, false, false, false, false] _ _
  refine wpAnyH_takeD (i := 7) (oi := _) (v := ?_) 13 rfl (by rfl) (by kernel_rfl) (by kernel_rfl) (by kernel_rfl) (fun _ _ _ h => h) (.inl ⟨by rfl, ?_⟩) (by assumption) ?_
  rotate_left; ((intro w hSw; (try dsimp only at hSw); go_simp); first | done | with_reducible rfl)
  try simp only [Act.put, List.setIfInBounds_toArray, List.set_cons_zero, List.set_cons_succ]
  change wpAnyH _ _ _ _ _ 8 #[true, true, true, true, false, true, false, true, false, false, false, false, false, false] _ _
  refine wpAnyH_takeD (i := 8) (oi := _) (v := _) 14 rfl (by rfl) (by kernel_rfl) (by kernel_rfl) (by kernel_rfl) (fun _ _ _ h => h) (yl_set (by rfl) (by rfl) (by rfl) (fun _ h => h.rl)) (by assumption) ?_
  try simp only [Act.put, List.setIfInBounds_toArray, List.set_cons_zero, List.set_cons_succ]
  change wpAnyH _ _ _ _ _ 7 #[true, true, true, true, false, true, false, true, true, false, false, false, false, false] _ _
  refine wpAnyH_ready (rs := [4, 10, 11]) (by kernel_rfl) (by simp) ?_
  refine AllReadyH.cons (o := _) rfl ?_ ?_
  · intro K hK
    go_simp
    go_at_call 39
    refine (less_any s.y s.k _).mono ?_; rintro e X1 ⟨rfl, p1⟩
    have k1 := h1.kept p1
    refine hK.out _ _ (k1.bx) (fun hHeld => ?_)
    clear hK K
    try simp only [Act.put, List.setIfInBounds_toArray, List.set_cons_zero, List.set_cons_succ]
    change wpAnyH _ _ _ _ _ 6 #[true, true, true, true, true, true, false, true, true, false, false, false, false, false] _ _
    refine wpAnyH_ready (rs := [6, 10, 11]) (by kernel_rfl) (by simp) ?_
    refine AllReadyH.cons (o := _) rfl ?_ ?_
    · intro K hK
      go_simp
      go_at_call 40
      refine (parities_any s hD1 hD _).mono ?_; rintro e X2 ⟨rfl, p2⟩
      have k2 := k1.kept p2
      refine hK.out _ _ (k2.bx) (fun hHeld => ?_)
      clear hK K
      try simp only [Act.put, List.setIfInBounds_toArray, List.set_cons_zero, List.set_cons_succ]
      change wpAnyH _ _ _ _ _ 5 #[true, true, true, true, true, true, true, true, true, false, false, false, false, false] _ _
      refine wpAnyH_ready (rs := [9, 10, 11]) (by kernel_rfl) (by simp) ?_
      refine AllReadyH.cons (o := _) rfl ?_ ?_
      · intro K hK
        go_simp
        go_at_call 39
        refine (less_any (parF s.D) s.l _).mono ?_; rintro e X3 ⟨rfl, p3⟩
        have k3 := k2.kept p3
        refine hK.out _ _ (k3.bx) (fun hHeld => ?_)
        clear hK K
        try simp only [Act.put, List.setIfInBounds_toArray, List.set_cons_zero, List.set_cons_succ]
        change wpAnyH _ _ _ _ _ 4 #[true, true, true, true, true, true, true, true, true, true, false, false, false, false] _ _
        refine wpAnyH_ready (rs := [10, 11]) (by kernel_rfl) (by simp) ?_
        refine AllReadyH.cons (o := _) rfl ?_ ?_
        · intro K hK
          go_simp
          obtain ⟨Y4, hY⟩ : ∃ Y, Y = X3.alloc (.cells (w4 no4) 28) := ⟨_, rfl⟩
          have k4 : Iv w Y4 s X3.heap.size no4 := by rw [hY]; exact Iv.new k3
          refine hK.out _ _ (by have h9 := k4.iw.bx; rw [hY] at h9; exact h9) (fun hHeld => ?_)
          clear hK K
          try simp only [Act.put, List.setIfInBounds_toArray, List.set_cons_zero, List.set_cons_succ]
          change wpAnyH _ _ _ _ _ 3 #[true, true, true, true, true, true, true, true, true, true, true, false, false, false] _ _
          change wpAnyH _ _ _ _ _ _ _ _ (X3.alloc (.cells (w4 no4) 28))
          rw [← hY]
          have hHeld2 := k4.iw.bx
          clear hY hHeld
          refine wpAnyH_ready (rs := [11]) (by kernel_rfl) (by simp) ?_
          refine AllReadyH.cons (o := _) rfl ?_ ?_
          rotate_left; exact AllReadyH.nil
          intro K hK
          go_simp
          obtain ⟨Y5, hY⟩ : ∃ Y, Y = Y4.alloc (.cells (w4 no4) 28) := ⟨_, rfl⟩
          have k5 := Iu.new k4
          rw [← hY] at k5
          refine hK.out _ _ (by have h9 := k5.iw.bx; rw [hY] at h9; exact h9) (fun hHeld => ?_)
          clear hK K
          try simp only [Act.put, List.setIfInBounds_toArray, List.set_cons_zero, List.set_cons_succ]
          change wpAnyH _ _ _ _ _ 2 #[true, true, true, true, true, true, true, true, true, true, true, true, false, false] _ _
          change wpAnyH _ _ _ _ _ _ _ _ (Y4.alloc (.cells (w4 no4) 28))
          rw [← hY]
          have hHeld2 := k5.iw.bx
          clear hY hHeld
          have k6 := k5.setA (wd (lessF s.y s.k))
          refine wpAnyH_store_set 12 (lessF s.y s.k) (by kernel_rfl) rfl (by rfl) (by rfl) (by rfl) (by rfl) (by rfl) (k5.a) (k6.iw.bx) (fun hHeld => ?_)
          change wpAnyH _ _ _ _ _ 1 #[true, true, true, true, true, true, true, true, true, true, true, true, true, false] _ _
          have k7 := k6.setB (wd (lessF (parF s.D) s.l))
          refine wpAnyH_store_set 13 (lessF (parF s.D) s.l) (by kernel_rfl) rfl (by rfl) (by rfl) (by rfl) (by rfl) (by rfl) (k6.b) (k7.iw.bx) (fun hHeld => ?_)
          change wpAnyH _ _ _ _ _ 0 #[true, true, true, true, true, true, true, true, true, true, true, true, true, true] _ _
          refine wpAnyH_done (by kernel_rfl) ?_ _
          exact HK _ _ _ k7
        refine AllReadyH.cons (o := _) rfl ?_ ?_
        · intro K hK
          go_simp
          obtain ⟨Y4, hY⟩ : ∃ Y, Y = X3.alloc (.cells (w4 no4) 28) := ⟨_, rfl⟩
          have k4 : Iv w Y4 s X3.heap.size no4 := by rw [hY]; exact Iv.new k3
          refine hK.out _ _ (by have h9 := k4.iw.bx; rw [hY] at h9; exact h9) (fun hHeld => ?_)
          clear hK K
          try simp only [Act.put, List.setIfInBounds_toArray, List.set_cons_zero, List.set_cons_succ]
          change wpAnyH _ _ _ _ _ 3 #[true, true, true, true, true, true, true, true, true, true, false, true, false, false] _ _
          change wpAnyH _ _ _ _ _ _ _ _ (X3.alloc (.cells (w4 no4) 28))
          rw [← hY]
          have hHeld2 := k4.iw.bx
          clear hY hHeld
          refine wpAnyH_ready (rs := [10]) (by kernel_rfl) (by simp) ?_
          refine AllReadyH.cons (o := _) rfl ?_ ?_
          rotate_left; exact AllReadyH.nil
          intro K hK
          go_simp
          obtain ⟨Y5, hY⟩ : ∃ Y, Y = Y4.alloc (.cells (w4 no4) 28) := ⟨_, rfl⟩
          have k5 := Iu.new k4
          rw [← hY] at k5
          refine hK.out _ _ (by have h9 := k5.iw.bx; rw [hY] at h9; exact h9) (fun hHeld => ?_)
          clear hK K
          try simp only [Act.put, List.setIfInBounds_toArray, List.set_cons_zero, List.set_cons_succ]
          change wpAnyH _ _ _ _ _ 2 #[true, true, true, true, true, true, true, true, true, true, true, true, false, false] _ _
          change wpAnyH _ _ _ _ _ _ _ _ (Y4.alloc (.cells (w4 no4) 28))
          rw [← hY]
          have hHeld2 := k5.iw.bx
          clear hY hHeld
          have k6 := k5.setB (wd (lessF s.y s.k))
          refine wpAnyH_store_set 12 (lessF s.y s.k) (by kernel_rfl) rfl (by rfl) (by rfl) (by rfl) (by rfl) (by rfl) (k5.b) (k6.iw.bx) (fun hHeld => ?_)
          change wpAnyH _ _ _ _ _ 1 #[true, true, true, true, true, true, true, true, true, true, true, true, true, false] _ _
          have k7 := k6.setA (wd (lessF (parF s.D) s.l))
          refine wpAnyH_store_set 13 (lessF (parF s.D) s.l) (by kernel_rfl) rfl (by rfl) (by rfl) (by rfl) (by rfl) (by rfl) (k6.a) (k7.iw.bx) (fun hHeld => ?_)
          change wpAnyH _ _ _ _ _ 0 #[true, true, true, true, true, true, true, true, true, true, true, true, true, true] _ _
          refine wpAnyH_done (by kernel_rfl) ?_ _
          exact HK _ _ _ k7.swap
        exact AllReadyH.nil
      refine AllReadyH.cons (o := _) rfl ?_ ?_
      · intro K hK
        go_simp
        obtain ⟨Y3, hY⟩ : ∃ Y, Y = X2.alloc (.cells (w4 no4) 28) := ⟨_, rfl⟩
        have k3 : Iv w Y3 s X2.heap.size no4 := by rw [hY]; exact Iv.new k2
        refine hK.out _ _ (by have h9 := k3.iw.bx; rw [hY] at h9; exact h9) (fun hHeld => ?_)
        clear hK K
        try simp only [Act.put, List.setIfInBounds_toArray, List.set_cons_zero, List.set_cons_succ]
        change wpAnyH _ _ _ _ _ 4 #[true, true, true, true, true, true, true, true, true, false, true, false, false, false] _ _
        change wpAnyH _ _ _ _ _ _ _ _ (X2.alloc (.cells (w4 no4) 28))
        rw [← hY]
        have hHeld2 := k3.iw.bx
        clear hY hHeld
        refine wpAnyH_ready (rs := [9, 11]) (by kernel_rfl) (by simp) ?_
        refine AllReadyH.cons (o := _) rfl ?_ ?_
        · intro K hK
          go_simp
          go_at_call 39
          refine (less_any (parF s.D) s.l _).mono ?_; rintro e X4 ⟨rfl, p4⟩
          have k4 := k3.kept p4
          refine hK.out _ _ (k4.iw.bx) (fun hHeld => ?_)
          clear hK K
          try simp only [Act.put, List.setIfInBounds_toArray, List.set_cons_zero, List.set_cons_succ]
          change wpAnyH _ _ _ _ _ 3 #[true, true, true, true, true, true, true, true, true, true, true, false, false, false] _ _
          refine wpAnyH_ready (rs := [11]) (by kernel_rfl) (by simp) ?_
          refine AllReadyH.cons (o := _) rfl ?_ ?_
          rotate_left; exact AllReadyH.nil
          intro K hK
          go_simp
          obtain ⟨Y5, hY⟩ : ∃ Y, Y = X4.alloc (.cells (w4 no4) 28) := ⟨_, rfl⟩
          have k5 := Iu.new k4
          rw [← hY] at k5
          refine hK.out _ _ (by have h9 := k5.iw.bx; rw [hY] at h9; exact h9) (fun hHeld => ?_)
          clear hK K
          try simp only [Act.put, List.setIfInBounds_toArray, List.set_cons_zero, List.set_cons_succ]
          change wpAnyH _ _ _ _ _ 2 #[true, true, true, true, true, true, true, true, true, true, true, true, false, false] _ _
          change wpAnyH _ _ _ _ _ _ _ _ (X4.alloc (.cells (w4 no4) 28))
          rw [← hY]
          have hHeld2 := k5.iw.bx
          clear hY hHeld
          have k6 := k5.setA (wd (lessF s.y s.k))
          refine wpAnyH_store_set 12 (lessF s.y s.k) (by kernel_rfl) rfl (by rfl) (by rfl) (by rfl) (by rfl) (by rfl) (k5.a) (k6.iw.bx) (fun hHeld => ?_)
          change wpAnyH _ _ _ _ _ 1 #[true, true, true, true, true, true, true, true, true, true, true, true, true, false] _ _
          have k7 := k6.setB (wd (lessF (parF s.D) s.l))
          refine wpAnyH_store_set 13 (lessF (parF s.D) s.l) (by kernel_rfl) rfl (by rfl) (by rfl) (by rfl) (by rfl) (by rfl) (k6.b) (k7.iw.bx) (fun hHeld => ?_)
          change wpAnyH _ _ _ _ _ 0 #[true, true, true, true, true, true, true, true, true, true, true, true, true, true] _ _
          refine wpAnyH_done (by kernel_rfl) ?_ _
          exact HK _ _ _ k7
        refine AllReadyH.cons (o := _) rfl ?_ ?_
        · intro K hK
          go_simp
          obtain ⟨Y4, hY⟩ : ∃ Y, Y = Y3.alloc (.cells (w4 no4) 28) := ⟨_, rfl⟩
          have k4 := Iu.new k3
          rw [← hY] at k4
          refine hK.out _ _ (by have h9 := k4.iw.bx; rw [hY] at h9; exact h9) (fun hHeld => ?_)
          clear hK K
          try simp only [Act.put, List.setIfInBounds_toArray, List.set_cons_zero, List.set_cons_succ]
          change wpAnyH _ _ _ _ _ 3 #[true, true, true, true, true, true, true, true, true, false, true, true, false, false] _ _
          change wpAnyH _ _ _ _ _ _ _ _ (Y3.alloc (.cells (w4 no4) 28))
          rw [← hY]
          have hHeld2 := k4.iw.bx
          clear hY hHeld
          refine wpAnyH_ready (rs := [9]) (by kernel_rfl) (by simp) ?_
          refine AllReadyH.cons (o := _) rfl ?_ ?_
          rotate_left; exact AllReadyH.nil
          intro K hK
          go_simp
          go_at_call 39
          refine (less_any (parF s.D) s.l _).mono ?_; rintro e X5 ⟨rfl, p5⟩
          have k5 := k4.kept p5
          refine hK.out _ _ (k5.iw.bx) (fun hHeld => ?_)
          clear hK K
          try simp only [Act.put, List.setIfInBounds_toArray, List.set_cons_zero, List.set_cons_succ]
          change wpAnyH _ _ _ _ _ 2 #[true, true, true, true, true, true, true, true, true, true, true, true, false, false] _ _
          have k6 := k5.setA (wd (lessF s.y s.k))
          refine wpAnyH_store_set 12 (lessF s.y s.k) (by kernel_rfl) rfl (by rfl) (by rfl) (by rfl) (by rfl) (by rfl) (k5.a) (k6.iw.bx) (fun hHeld => ?_)
          change wpAnyH _ _ _ _ _ 1 #[true, true, true, true, true, true, true, true, true, true, true, true, true, false] _ _
          have k7 := k6.setB (wd (lessF (parF s.D) s.l))
          refine wpAnyH_store_set 13 (lessF (parF s.D) s.l) (by kernel_rfl) rfl (by rfl) (by rfl) (by rfl) (by rfl) (by rfl) (k6.b) (k7.iw.bx) (fun hHeld => ?_)
          change wpAnyH _ _ _ _ _ 0 #[true, true, true, true, true, true, true, true, true, true, true, true, true, true] _ _
          refine wpAnyH_done (by kernel_rfl) ?_ _
          exact HK _ _ _ k7
        exact AllReadyH.nil
      refine AllReadyH.cons (o := _) rfl ?_ ?_
      · intro K hK
        go_simp
        obtain ⟨Y3, hY⟩ : ∃ Y, Y = X2.alloc (.cells (w4 no4) 28) := ⟨_, rfl⟩
        have k3 : Iv w Y3 s X2.heap.size no4 := by rw [hY]; exact Iv.new k2
        refine hK.out _ _ (by have h9 := k3.iw.bx; rw [hY] at h9; exact h9) (fun hHeld => ?_)
        clear hK K
        try simp only [Act.put, List.setIfInBounds_toArray, List.set_cons_zero, List.set_cons_succ]
        change wpAnyH _ _ _ _ _ 4 #[true, true, true, true, true, true, true, true, true, false, false, true, false, false] _ _
        change wpAnyH _ _ _ _ _ _ _ _ (X2.alloc (.cells (w4 no4) 28))
        rw [← hY]
        have hHeld2 := k3.iw.bx
        clear hY hHeld
        refine wpAnyH_ready (rs := [9, 10]) (by kernel_rfl) (by simp) ?_
        refine AllReadyH.cons (o := _) rfl ?_ ?_
        · intro K hK
          go_simp
          go_at_call 39
          refine (less_any (parF s.D) s.l _).mono ?_; rintro e X4 ⟨rfl, p4⟩
          have k4 := k3.kept p4
          refine hK.out _ _ (k4.iw.bx) (fun hHeld => ?_)
          clear hK K
          try simp only [Act.put, List.setIfInBounds_toArray, List.set_cons_zero, List.set_cons_succ]
          change wpAnyH _ _ _ _ _ 3 #[true, true, true, true, true, true, true, true, true, true, false, true, false, false] _ _
          refine wpAnyH_ready (rs := [10]) (by kernel_rfl) (by simp) ?_
          refine AllReadyH.cons (o := _) rfl ?_ ?_
          rotate_left; exact AllReadyH.nil
          intro K hK
          go_simp
          obtain ⟨Y5, hY⟩ : ∃ Y, Y = X4.alloc (.cells (w4 no4) 28) := ⟨_, rfl⟩
          have k5 := Iu.new k4
          rw [← hY] at k5
          refine hK.out _ _ (by have h9 := k5.iw.bx; rw [hY] at h9; exact h9) (fun hHeld => ?_)
          clear hK K
          try simp only [Act.put, List.setIfInBounds_toArray, List.set_cons_zero, List.set_cons_succ]
          change wpAnyH _ _ _ _ _ 2 #[true, true, true, true, true, true, true, true, true, true, true, true, false, false] _ _
          change wpAnyH _ _ _ _ _ _ _ _ (X4.alloc (.cells (w4 no4) 28))
          rw [← hY]
          have hHeld2 := k5.iw.bx
          clear hY hHeld
          have k6 := k5.setB (wd (lessF s.y s.k))
          refine wpAnyH_store_set 12 (lessF s.y s.k) (by kernel_rfl) rfl (by rfl) (by rfl) (by rfl) (by rfl) (by rfl) (k5.b) (k6.iw.bx) (fun hHeld => ?_)
          change wpAnyH _ _ _ _ _ 1 #[true, true, true, true, true, true, true, true, true, true, true, true, true, false] _ _
          have k7 := k6.setA (wd (lessF (parF s.D) s.l))
          refine wpAnyH_store_set 13 (lessF (parF s.D) s.l) (by kernel_rfl) rfl (by rfl) (by rfl) (by rfl) (by rfl) (by rfl) (k6.a) (k7.iw.bx) (fun hHeld => ?_)
          change wpAnyH _ _ _ _ _ 0 #[true, true, true, true, true, true, true, true, true, true, true, true, true, true] _ _
          refine wpAnyH_done (by kernel_rfl) ?_ _
          exact HK _ _ _ k7.swap
        refine AllReadyH.cons (o := _) rfl ?_ ?_
        · intro K hK
          go_simp
          obtain ⟨Y4, hY⟩ : ∃ Y, Y = Y3.alloc (.cells (w4 no4) 28) := ⟨_, rfl⟩
          have k4 := Iu.new k3
          rw [← hY] at k4
          refine hK.out _ _ (by have h9 := k4.iw.bx; rw [hY] at h9; exact h9) (fun hHeld => ?_)
          clear hK K
          try simp only [Act.put, List.setIfInBounds_toArray, List.set_cons_zero, List.set_cons_succ]
          change wpAnyH _ _ _ _ _ 3 #[true, true, true, true, true, true, true, true, true, false, true, true, false, false] _ _
          change wpAnyH _ _ _ _ _ _ _ _ (Y3.alloc (.cells (w4 no4) 28))
          rw [← hY]
          have hHeld2 := k4.iw.bx
          clear hY hHeld
          refine wpAnyH_ready (rs := [9]) (by kernel_rfl) (by simp) ?_
          refine AllReadyH.cons (o := _) rfl ?_ ?_
          rotate_left; exact AllReadyH.nil
          intro K hK
          go_simp
          go_at_call 39
          refine (less_any (parF s.D) s.l _).mono ?_; rintro e X5 ⟨rfl, p5⟩
          have k5 := k4.kept p5
          refine hK.out _ _ (k5.iw.bx) (fun hHeld => ?_)
          clear hK K
          try simp only [Act.put, List.setIfInBounds_toArray, List.set_cons_zero, List.set_cons_succ]
          change wpAnyH _ _ _ _ _ 2 #[true, true, true, true, true, true, true, true, true, true, true, true, false, false] _ _
          have k6 := k5.setB (wd (lessF s.y s.k))
          refine wpAnyH_store_set 12 (lessF s.y s.k) (by kernel_rfl) rfl (by rfl) (by rfl) (by rfl) (by rfl) (by rfl) (k5.b) (k6.iw.bx) (fun hHeld => ?_)
          change wpAnyH _ _ _ _ _ 1 #[true, true, true, true, true, true, true, true, true, true, true, true, true, false] _ _
          have k7 := k6.setA (wd (lessF (parF s.D) s.l))
          refine wpAnyH_store_set 13 (lessF (parF s.D) s.l) (by kernel_rfl) rfl (by rfl) (by rfl) (by rfl) (by rfl) (by rfl) (k6.a) (k7.iw.bx) (fun hHeld => ?_)
          change wpAnyH _ _ _ _ _ 0 #[true, true, true, true, true, true, true, true, true, true, true, true, true, true] _ _
          refine wpAnyH_done (by kernel_rfl) ?_ _
          exact HK _ _ _ k7.swap
        exact AllReadyH.nil
      exact AllReadyH.nil
    refine AllReadyH.cons (o := _) rfl ?_ ?_
    · intro K hK
      go_simp
      obtain ⟨Y2, hY⟩ : ∃ Y, Y = X1.alloc (.cells (w4 no4) 28) := ⟨_, rfl⟩
      have k2 : Iv w Y2 s X1.heap.size no4 := by rw [hY]; exact Iv.new k1
      refine hK.out _ _ (by have h9 := k2.iw.bx; rw [hY] at h9; exact h9) (fun hHeld => ?_)
      clear hK K
      try simp only [Act.put, List.setIfInBounds_toArray, List.set_cons_zero, List.set_cons_succ]
      change wpAnyH _ _ _ _ _ 5 #[true, true, true, true, true, true, false, true, true, false, true, false, false, false] _ _
      change wpAnyH _ _ _ _ _ _ _ _ (X1.alloc (.cells (w4 no4) 28))
      rw [← hY]
      have hHeld2 := k2.iw.bx
      clear hY hHeld
      refine wpAnyH_ready (rs := [6, 11]) (by kernel_rfl) (by simp) ?_
      refine AllReadyH.cons (o := _) rfl ?_ ?_
      · intro K hK
        go_simp
        go_at_call 40
        refine (parities_any s hD1 hD _).mono ?_; rintro e X3 ⟨rfl, p3⟩
        have k3 := k2.kept p3
        refine hK.out _ _ (k3.iw.bx) (fun hHeld => ?_)
        clear hK K
        try simp only [Act.put, List.setIfInBounds_toArray, List.set_cons_zero, List.set_cons_succ]
        change wpAnyH _ _ _ _ _ 4 #[true, true, true, true, true, true, true, true, true, false, true, false, false, false] _ _
        refine wpAnyH_ready (rs := [9, 11]) (by kernel_rfl) (by simp) ?_
        refine AllReadyH.cons (o := _) rfl ?_ ?_
        · intro K hK
          go_simp
          go_at_call 39
          refine (less_any (parF s.D) s.l _).mono ?_; rintro e X4 ⟨rfl, p4⟩
          have k4 := k3.kept p4
          refine hK.out _ _ (k4.iw.bx) (fun hHeld => ?_)
          clear hK K
          try simp only [Act.put, List.setIfInBounds_toArray, List.set_cons_zero, List.set_cons_succ]
          change wpAnyH _ _ _ _ _ 3 #[true, true, true, true, true, true, true, true, true, true, true, false, false, false] _ _
          refine wpAnyH_ready (rs := [11]) (by kernel_rfl) (by simp) ?_
          refine AllReadyH.cons (o := _) rfl ?_ ?_
          rotate_left; exact AllReadyH.nil
          intro K hK
          go_simp
          obtain ⟨Y5, hY⟩ : ∃ Y, Y = X4.alloc (.cells (w4 no4) 28) := ⟨_, rfl⟩
          have k5 := Iu.new k4
          rw [← hY] at k5
          refine hK.out _ _ (by have h9 := k5.iw.bx; rw [hY] at h9; exact h9) (fun hHeld => ?_)
          clear hK K
          try simp only [Act.put, List.setIfInBounds_toArray, List.set_cons_zero, List.set_cons_succ]
          change wpAnyH _ _ _ _ _ 2 #[true, true, true, true, true, true, true, true, true, true, true, true, false, false] _ _
          change wpAnyH _ _ _ _ _ _ _ _ (X4.alloc (.cells (w4 no4) 28))
          rw [← hY]
          have hHeld2 := k5.iw.bx
          clear hY hHeld
          have k6 := k5.setA (wd (lessF s.y s.k))
          refine wpAnyH_store_set 12 (lessF s.y s.k) (by kernel_rfl) rfl (by rfl) (by rfl) (by rfl) (by rfl) (by rfl) (k5.a) (k6.iw.bx) (fun hHeld => ?_)
          change wpAnyH _ _ _ _ _ 1 #[true, true, true, true, true, true, true, true, true, true, true, true, true, false] _ _
          have k7 := k6.setB (wd (lessF (parF s.D) s.l))
          refine wpAnyH_store_set 13 (lessF (parF s.D) s.l) (by kernel_rfl) rfl (by rfl) (by rfl) (by rfl) (by rfl) (by rfl) (k6.b) (k7.iw.bx) (fun hHeld => ?_)
          change wpAnyH _ _ _ _ _ 0 #[true, true, true, true, true, true, true, true, true, true, true, true, true, true] _ _
          refine wpAnyH_done (by kernel_rfl) ?_ _
          exact HK _ _ _ k7
        refine AllReadyH.cons (o := _) rfl ?_ ?_
        · intro K hK
          go_simp
          obtain ⟨Y4, hY⟩ : ∃ Y, Y = X3.alloc (.cells (w4 no4) 28) := ⟨_, rfl⟩
          have k4 := Iu.new k3
          rw [← hY] at k4
          refine hK.out _ _ (by have h9 := k4.iw.bx; rw [hY] at h9; exact h9) (fun hHeld => ?_)
          clear hK K
          try simp only [Act.put, List.setIfInBounds_toArray, List.set_cons_zero, List.set_cons_succ]
          change wpAnyH _ _ _ _ _ 3 #[true, true, true, true, true, true, true, true, true, false, true, true, false, false] _ _
          change wpAnyH _ _ _ _ _ _ _ _ (X3.alloc (.cells (w4 no4) 28))
          rw [← hY]
          have hHeld2 := k4.iw.bx
          clear hY hHeld
          refine wpAnyH_ready (rs := [9]) (by kernel_rfl) (by simp) ?_
          refine AllReadyH.cons (o := _) rfl ?_ ?_
          rotate_left; exact AllReadyH.nil
          intro K hK
          go_simp
          go_at_call 39
          refine (less_any (parF s.D) s.l _).mono ?_; rintro e X5 ⟨rfl, p5⟩
          have k5 := k4.kept p5
          refine hK.out _ _ (k5.iw.bx) (fun hHeld => ?_)
          clear hK K
          try simp only [Act.put, List.setIfInBounds_toArray, List.set_cons_zero, List.set_cons_succ]
          change wpAnyH _ _ _ _ _ 2 #[true, true, true, true, true, true, true, true, true, true, true, true, false, false] _ _
          have k6 := k5.setA (wd (lessF s.y s.k))
          refine wpAnyH_store_set 12 (lessF s.y s.k) (by kernel_rfl) rfl (by rfl) (by rfl) (by rfl) (by rfl) (by rfl) (k5.a) (k6.iw.bx) (fun hHeld => ?_)
          change wpAnyH _ _ _ _ _ 1 #[true, true, true, true, true, true, true, true, true, true, true, true, true, false] _ _
          have k7 := k6.setB (wd (lessF (parF s.D) s.l))
          refine wpAnyH_store_set 13 (lessF (parF s.D) s.l) (by kernel_rfl) rfl (by rfl) (by rfl) (by rfl) (by rfl) (by rfl) (k6.b) (k7.iw.bx) (fun hHeld => ?_)
          change wpAnyH _ _ _ _ _ 0 #[true, true, true, true, true, true, true, true, true, true, true, true, true, true] _ _
          refine wpAnyH_done (by kernel_rfl) ?_ _
          exact HK _ _ _ k7
        exact AllReadyH.nil
      refine AllReadyH.cons (o := _) rfl ?_ ?_
      · intro K hK
        go_simp
        obtain ⟨Y3, hY⟩ : ∃ Y, Y = Y2.alloc (.cells (w4 no4) 28) := ⟨_, rfl⟩
        have k3 := Iu.new k2
        rw [← hY] at k3
        refine hK.out _ _ (by have h9 := k3.iw.bx; rw [hY] at h9; exact h9) (fun hHeld => ?_)
        clear hK K
        try simp only [Act.put, List.setIfInBounds_toArray, List.set_cons_zero, List.set_cons_succ]
        change wpAnyH _ _ _ _ _ 4 #[true, true, true, true, true, true, false, true, true, false, true, true, false, false] _ _
        change wpAnyH _ _ _ _ _ _ _ _ (Y2.alloc (.cells (w4 no4) 28))
        rw [← hY]
        have hHeld2 := k3.iw.bx
        clear hY hHeld
        refine wpAnyH_ready (rs := [6]) (by kernel_rfl) (by simp) ?_
        refine AllReadyH.cons (o := _) rfl ?_ ?_
        rotate_left; exact AllReadyH.nil
        intro K hK
        go_simp
        go_at_call 40
        refine (parities_any s hD1 hD _).mono ?_; rintro e X4 ⟨rfl, p4⟩
        have k4 := k3.kept p4
        refine hK.out _ _ (k4.iw.bx) (fun hHeld => ?_)
        clear hK K
        try simp only [Act.put, List.setIfInBounds_toArray, List.set_cons_zero, List.set_cons_succ]
        change wpAnyH _ _ _ _ _ 3 #[true, true, true, true, true, true, true, true, true, false, true, true, false, false] _ _
        refine wpAnyH_ready (rs := [9]) (by kernel_rfl) (by simp) ?_
        refine AllReadyH.cons (o := _) rfl ?_ ?_
        rotate_left; exact AllReadyH.nil
        intro K hK
        go_simp
        go_at_call 39
        refine (less_any (parF s.D) s.l _).mono ?_; rintro e X5 ⟨rfl, p5⟩
        have k5 := k4.kept p5
        refine hK.out _ _ (k5.iw.bx) (fun hHeld => ?_)
        clear hK K
        try simp only [Act.put, List.setIfInBounds_toArray, List.set_cons_zero, List.set_cons_succ]
        change wpAnyH _ _ _ _ _ 2 #[true, true, true, true, true, true, true, true, true, true, true, true, false, false] _ _
        have k6 := k5.setA (wd (lessF s.y s.k))
        refine wpAnyH_store_set 12 (lessF s.y s.k) (by kernel_rfl) rfl (by rfl) (by rfl) (by rfl) (by rfl) (by rfl) (k5.a) (k6.iw.bx) (fun hHeld => ?_)
        change wpAnyH _ _ _ _ _ 1 #[true, true, true, true, true, true, true, true, true, true, true, true, true, false] _ _
        have k7 := k6.setB (wd (lessF (parF s.D) s.l))
        refine wpAnyH_store_set 13 (lessF (parF s.D) s.l) (by kernel_rfl) rfl (by rfl) (by rfl) (by rfl) (by rfl) (by rfl) (k6.b) (k7.iw.bx) (fun hHeld => ?_)
        change wpAnyH _ _ _ _ _ 0 #[true, true, true, true, true, true, true, true, true, true, true, true, true, true] _ _
        refine wpAnyH_done (by kernel_rfl) ?_ _
        exact HK _ _ _ k7
      exact AllReadyH.nil
    refine AllReadyH.cons (o := _) rfl ?_ ?_
    · intro K hK
      go_simp
      obtain ⟨Y2, hY⟩ : ∃ Y, Y = X1.alloc (.cells (w4 no4) 28) := ⟨_, rfl⟩
      have k2 : Iv w Y2 s X1.heap.size no4 := by rw [hY]; exact Iv.new k1
      refine hK.out _ _ (by have h9 := k2.iw.bx; rw [hY] at h9; exact h9) (fun hHeld => ?_)
      clear hK K
      try simp only [Act.put, List.setIfInBounds_toArray, List.set_cons_zero, List.set_cons_succ]
      change wpAnyH _ _ _ _ _ 5 #[true, true, true, true, true, true, false, true, true, false, false, true, false, false] _ _
      change wpAnyH _ _ _ _ _ _ _ _ (X1.alloc (.cells (w4 no4) 28))
      rw [← hY]
      have hHeld2 := k2.iw.bx
      clear hY hHeld
      refine wpAnyH_ready (rs := [6, 10]) (by kernel_rfl) (by simp) ?_
      refine AllReadyH.cons (o := _) rfl ?_ ?_
      · intro K hK
        go_simp
        go_at_call 40
        refine (parities_any s hD1 hD _).mono ?_; rintro e X3 ⟨rfl, p3⟩
        have k3 := k2.kept p3
        refine hK.out _ _ (k3.iw.bx) (fun hHeld => ?_)
        clear hK K
        try simp only [Act.put, List.setIfInBounds_toArray, List.set_cons_zero, List.set_cons_succ]
        change wpAnyH _ _ _ _ _ 4 #[true, true, true, true, true, true, true, true, true, false, false, true, false, false] _ _
        refine wpAnyH_ready (rs := [9, 10]) (by kernel_rfl) (by simp) ?_
        refine AllReadyH.cons (o := _) rfl ?_ ?_
        · intro K hK
          go_simp
          go_at_call 39
          refine (less_any (parF s.D) s.l _).mono ?_; rintro e X4 ⟨rfl, p4⟩
          have k4 := k3.kept p4
          refine hK.out _ _ (k4.iw.bx) (fun hHeld => ?_)
          clear hK K
          try simp only [Act.put, List.setIfInBounds_toArray, List.set_cons_zero, List.set_cons_succ]
          change wpAnyH _ _ _ _ _ 3 #[true, true, true, true, true, true, true, true, true, true, false, true, false, false] _ _
          refine wpAnyH_ready (rs := [10]) (by kernel_rfl) (by simp) ?_
          refine AllReadyH.cons (o := _) rfl ?_ ?_
          rotate_left; exact AllReadyH.nil
          intro K hK
          go_simp
          obtain ⟨Y5, hY⟩ : ∃ Y, Y = X4.alloc (.cells (w4 no4) 28) := ⟨_, rfl⟩
          have k5 := Iu.new k4
          rw [← hY] at k5
          refine hK.out _ _ (by have h9 := k5.iw.bx; rw [hY] at h9; exact h9) (fun hHeld => ?_)
          clear hK K
          try simp only [Act.put, List.setIfInBounds_toArray, List.set_cons_zero, List.set_cons_succ]
          change wpAnyH _ _ _ _ _ 2 #[true, true, true, true, true, true, true, true, true, true, true, true, false, false] _ _
          change wpAnyH _ _ _ _ _ _ _ _ (X4.alloc (.cells (w4 no4) 28))
          rw [← hY]
          have hHeld2 := k5.iw.bx
          clear hY hHeld
          have k6 := k5.setB (wd (lessF s.y s.k))
          refine wpAnyH_store_set 12 (lessF s.y s.k) (by kernel_rfl) rfl (by rfl) (by rfl) (by rfl) (by rfl) (by rfl) (k5.b) (k6.iw.bx) (fun hHeld => ?_)
          change wpAnyH _ _ _ _ _ 1 #[true, true, true, true, true, true, true, true, true, true, true, true, true, false] _ _
          have k7 := k6.setA (wd (lessF (parF s.D) s.l))
          refine wpAnyH_store_set 13 (lessF (parF s.D) s.l) (by kernel_rfl) rfl (by rfl) (by rfl) (by rfl) (by rfl) (by rfl) (k6.a) (k7.iw.bx) (fun hHeld => ?_)
          change wpAnyH _ _ _ _ _ 0 #[true, true, true, true, true, true, true, true, true, true, true, true, true, true] _ _
          refine wpAnyH_done (by kernel_rfl) ?_ _
          exact HK _ _ _ k7.swap
        refine AllReadyH.cons (o := _) rfl ?_ ?_
        · intro K hK
          go_simp
          obtain ⟨Y4, hY⟩ : ∃ Y, Y = X3.alloc (.cells (w4 no4) 28) := ⟨_, rfl⟩
          have k4 := Iu.new k3
          rw [← hY] at k4
          refine hK.out _ _ (by have h9 := k4.iw.bx; rw [hY] at h9; exact h9) (fun hHeld => ?_)
          clear hK K
          try simp only [Act.put, List.setIfInBounds_toArray, List.set_cons_zero, List.set_cons_succ]
          change wpAnyH _ _ _ _ _ 3 #[true, true, true, true, true, true, true, true, true, false, true, true, false, false] _ _
          change wpAnyH _ _ _ _ _ _ _ _ (X3.alloc (.cells (w4 no4) 28))
          rw [← hY]
          have hHeld2 := k4.iw.bx
          clear hY hHeld
          refine wpAnyH_ready (rs := [9]) (by kernel_rfl) (by simp) ?_
          refine AllReadyH.cons (o := _) rfl ?_ ?_
          rotate_left; exact AllReadyH.nil
          intro K hK
          go_simp
          go_at_call 39
          refine (less_any (parF s.D) s.l _).mono ?_; rintro e X5 ⟨rfl, p5⟩
          have k5 := k4.kept p5
          refine hK.out _ _ (k5.iw.bx) (fun hHeld => ?_)
          clear hK K
          try simp only [Act.put, List.setIfInBounds_toArray, List.set_cons_zero, List.set_cons_succ]
          change wpAnyH _ _ _ _ _ 2 #[true, true, true, true, true, true, true, true, true, true, true, true, false, false] _ _
          have k6 := k5.setB (wd (lessF s.y s.k))
          refine wpAnyH_store_set 12 (lessF s.y s.k) (by kernel_rfl) rfl (by rfl) (by rfl) (by rfl) (by rfl) (by rfl) (k5.b) (k6.iw.bx) (fun hHeld => ?_)
          change wpAnyH _ _ _ _ _ 1 #[true, true, true, true, true, true, true, true, true, true, true, true, true, false] _ _
          have k7 := k6.setA (wd (lessF (parF s.D) s.l))
          refine wpAnyH_store_set 13 (lessF (parF s.D) s.l) (by kernel_rfl) rfl (by rfl) (by rfl) (by rfl) (by rfl) (by rfl) (k6.a) (k7.iw.bx) (fun hHeld => ?_)
          change wpAnyH _ _ _ _ _ 0 #[true, true, true, true, true, true, true, true, true, true, true, true, true, true] _ _
          refine wpAnyH_done (by kernel_rfl) ?_ _
          exact HK _ _ _ k7.swap
        exact AllReadyH.nil
      refine AllReadyH.cons (o := _) rfl ?_ ?_
      · intro K hK
        go_simp
        obtain ⟨Y3, hY⟩ : ∃ Y, Y = Y2.alloc (.cells (w4 no4) 28) := ⟨_, rfl⟩
        have k3 := Iu.new k2
        rw [← hY] at k3
        refine hK.out _ _ (by have h9 := k3.iw.bx; rw [hY] at h9; exact h9) (fun hHeld => ?_)
        clear hK K
        try simp only [Act.put, List.setIfInBounds_toArray, List.set_cons_zero, List.set_cons_succ]
        change wpAnyH _ _ _ _ _ 4 #[true, true, true, true, true, true, false, true, true, false, true, true, false, false] _ _
        change wpAnyH _ _ _ _ _ _ _ _ (Y2.alloc (.cells (w4 no4) 28))
        rw [← hY]
        have hHeld2 := k3.iw.bx
        clear hY hHeld
        refine wpAnyH_ready (rs := [6]) (by kernel_rfl) (by simp) ?_
        refine AllReadyH.cons (o := _) rfl ?_ ?_
        rotate_left; exact AllReadyH.nil
        intro K hK
        go_simp
        go_at_call 40
        refine (parities_any s hD1 hD _).mono ?_; rintro e X4 ⟨rfl, p4⟩
        have k4 := k3.kept p4
        refine hK.out _ _ (k4.iw.bx) (fun hHeld => ?_)
        clear hK K
        try simp only [Act.put, List.setIfInBounds_toArray, List.set_cons_zero, List.set_cons_succ]
        change wpAnyH _ _ _ _ _ 3 #[true, true, true, true, true, true, true, true, true, false, true, true, false, false] _ _
        refine wpAnyH_ready (rs := [9]) (by kernel_rfl) (by simp) ?_
        refine AllReadyH.cons (o := _) rfl ?_ ?_
        rotate_left; exact AllReadyH.nil
        intro K hK
        go_simp
        go_at_call 39
        refine (less_any (parF s.D) s.l _).mono ?_; rintro e X5 ⟨rfl, p5⟩
        have k5 := k4.kept p5
        refine hK.out _ _ (k5.iw.bx) (fun hHeld => ?_)
        clear hK K
        try simp only [Act.put, List.setIfInBounds_toArray, List.set_cons_zero, List.set_cons_succ]
        change wpAnyH _ _ _ _ _ 2 #[true, true, true, true, true, true, true, true, true, true, true, true, false, false] _ _
        have k6 := k5.setB (wd (lessF s.y s.k))
        refine wpAnyH_store_set 12 (lessF s.y s.k) (by kernel_rfl) rfl (by rfl) (by rfl) (by rfl) (by rfl) (by rfl) (k5.b) (k6.iw.bx) (fun hHeld => ?_)
        change wpAnyH _ _ _ _ _ 1 #[true, true, true, true, true, true, true, true, true, true, true, true, true, false] _ _
        have k7 := k6.setA (wd (lessF (parF s.D) s.l))
        refine wpAnyH_store_set 13 (lessF (parF s.D) s.l) (by kernel_rfl) rfl (by rfl) (by rfl) (by rfl) (by rfl) (by rfl) (k6.a) (k7.iw.bx) (fun hHeld => ?_)
        change wpAnyH _ _ _ _ _ 0 #[true, true, true, true, true, true, true, true, true, true, true, true, true, true] _ _
        refine wpAnyH_done (by kernel_rfl) ?_ _
        exact HK _ _ _ k7.swap
      exact AllReadyH.nil
    exact AllReadyH.nil
  refine AllReadyH.cons (o := _) rfl ?_ ?_
  · intro K hK
    go_simp
    obtain ⟨Y1, hY⟩ : ∃ Y, Y = w0.drew.alloc (.cells (w4 no4) 28) := ⟨_, rfl⟩
    have k1 : Iv w Y1 s w0.drew.heap.size no4 := by rw [hY]; exact Iv.new h1
    refine hK.out _ _ (by have h9 := k1.iw.bx; rw [hY] at h9; exact h9) (fun hHeld => ?_)
    clear hK K
    try simp only [Act.put, List.setIfInBounds_toArray, List.set_cons_zero, List.set_cons_succ]
    change wpAnyH _ _ _ _ _ 6 #[true, true, true, true, false, true, false, true, true, false, true, false, false, false] _ _
    change wpAnyH _ _ _ _ _ _ _ _ (w0.drew.alloc (.cells (w4 no4) 28))
    rw [← hY]
    have hHeld2 := k1.iw.bx
    clear hY hHeld
    refine wpAnyH_ready (rs := [4, 11]) (by kernel_rfl) (by simp) ?_
    refine AllReadyH.cons (o := _) rfl ?_ ?_
    · intro K hK
      go_simp
      go_at_call 39
      refine (less_any s.y s.k _).mono ?_; rintro e X2 ⟨rfl, p2⟩
      have k2 := k1.kept p2
      refine hK.out _ _ (k2.iw.bx) (fun hHeld => ?_)
      clear hK K
      try simp only [Act.put, List.setIfInBounds_toArray, List.set_cons_zero, List.set_cons_succ]
      change wpAnyH _ _ _ _ _ 5 #[true, true, true, true, true, true, false, true, true, false, true, false, false, false] _ _
      refine wpAnyH_ready (rs := [6, 11]) (by kernel_rfl) (by simp) ?_
      refine AllReadyH.cons (o := _) rfl ?_ ?_
      · intro K hK
        go_simp
        go_at_call 40
        refine (parities_any s hD1 hD _).mono ?_; rintro e X3 ⟨rfl, p3⟩
        have k3 := k2.kept p3
        refine hK.out _ _ (k3.iw.bx) (fun hHeld => ?_)
        clear hK K
        try simp only [Act.put, List.setIfInBounds_toArray, List.set_cons_zero, List.set_cons_succ]
        change wpAnyH _ _ _ _ _ 4 #[true, true, true, true, true, true, true, true, true, false, true, false, false, false] _ _
        refine wpAnyH_ready (rs := [9, 11]) (by kernel_rfl) (by simp) ?_
        refine AllReadyH.cons (o := _) rfl ?_ ?_
        · intro K hK
          go_simp
          go_at_call 39
          refine (less_any (parF s.D) s.l _).mono ?_; rintro e X4 ⟨rfl, p4⟩
          have k4 := k3.kept p4
          refine hK.out _ _ (k4.iw.bx) (fun hHeld => ?_)
          clear hK K
          try simp only [Act.put, List.setIfInBounds_toArray, List.set_cons_zero, List.set_cons_succ]
          change wpAnyH _ _ _ _ _ 3 #[true, true, true, true, true, true, true, true, true, true, true, false, false, false] _ _
          refine wpAnyH_ready (rs := [11]) (by kernel_rfl) (by simp) ?_
          refine AllReadyH.cons (o := _) rfl ?_ ?_
          rotate_left; exact AllReadyH.nil
          intro K hK
          go_simp
          obtain ⟨Y5, hY⟩ : ∃ Y, Y = X4.alloc (.cells (w4 no4) 28) := ⟨_, rfl⟩
          have k5 := Iu.new k4
          rw [← hY] at k5
          refine hK.out _ _ (by have h9 := k5.iw.bx; rw [hY] at h9; exact h9) (fun hHeld => ?_)
          clear hK K
          try simp only [Act.put, List.setIfInBounds_toArray, List.set_cons_zero, List.set_cons_succ]
          change wpAnyH _ _ _ _ _ 2 #[true, true, true, true, true, true, true, true, true, true, true, true, false, false] _ _
          change wpAnyH _ _ _ _ _ _ _ _ (X4.alloc (.cells (w4 no4) 28))
          rw [← hY]
          have hHeld2 := k5.iw.bx
          clear hY hHeld
          have k6 := k5.setA (wd (lessF s.y s.k))
          refine wpAnyH_store_set 12 (lessF s.y s.k) (by kernel_rfl) rfl (by rfl) (by rfl) (by rfl) (by rfl) (by rfl) (k5.a) (k6.iw.bx) (fun hHeld => ?_)
          change wpAnyH _ _ _ _ _ 1 #[true, true, true, true, true, true, true, true, true, true, true, true, true, false] _ _
          have k7 := k6.setB (wd (lessF (parF s.D) s.l))
          refine wpAnyH_store_set 13 (lessF (parF s.D) s.l) (by kernel_rfl) rfl (by rfl) (by rfl) (by rfl) (by rfl) (by rfl) (k6.b) (k7.iw.bx) (fun hHeld => ?_)
          change wpAnyH _ _ _ _ _ 0 #[true, true, true, true, true, true, true, true, true, true, true, true, true, true] _ _
          refine wpAnyH_done (by kernel_rfl) ?_ _
          exact HK _ _ _ k7
        refine AllReadyH.cons (o := _) rfl ?_ ?_
        · intro K hK
          go_simp
          obtain ⟨Y4, hY⟩ : ∃ Y, Y = X3.alloc (.cells (w4 no4) 28) := ⟨_, rfl⟩
          have k4 := Iu.new k3
          rw [← hY] at k4
          refine hK.out _ _ (by have h9 := k4.iw.bx; rw [hY] at h9; exact h9) (fun hHeld => ?_)
          clear hK K
          try simp only [Act.put, List.setIfInBounds_toArray, List.set_cons_zero, List.set_cons_succ]
          change wpAnyH _ _ _ _ _ 3 #[true, true, true, true, true, true, true, true, true, false, true, true, false, false] _ _
          change wpAnyH _ _ _ _ _ _ _ _ (X3.alloc (.cells (w4 no4) 28))
          rw [← hY]
          have hHeld2 := k4.iw.bx
          clear hY hHeld
          refine wpAnyH_ready (rs := [9]) (by kernel_rfl) (by simp) ?_
          refine AllReadyH.cons (o := _) rfl ?_ ?_
          rotate_left; exact AllReadyH.nil
          intro K hK
          go_simp
          go_at_call 39
          refine (less_any (parF s.D) s.l _).mono ?_; rintro e X5 ⟨rfl, p5⟩
          have k5 := k4.kept p5
          refine hK.out _ _ (k5.iw.bx) (fun hHeld => ?_)
          clear hK K
          try simp only [Act.put, List.setIfInBounds_toArray, List.set_cons_zero, List.set_cons_succ]
          change wpAnyH _ _ _ _ _ 2 #[true, true, true, true, true, true, true, true, true, true, true, true, false, false] _ _
          have k6 := k5.setA (wd (lessF s.y s.k))
          refine wpAnyH_store_set 12 (lessF s.y s.k) (by kernel_rfl) rfl (by rfl) (by rfl) (by rfl) (by rfl) (by rfl) (k5.a) (k6.iw.bx) (fun hHeld => ?_)
          change wpAnyH _ _ _ _ _ 1 #[true, true, true, true, true, true, true, true, true, true, true, true, true, false] _ _
          have k7 := k6.setB (wd (lessF (parF s.D) s.l))
          refine wpAnyH_store_set 13 (lessF (parF s.D) s.l) (by kernel_rfl) rfl (by rfl) (by rfl) (by rfl) (by rfl) (by rfl) (k6.b) (k7.iw.bx) (fun hHeld => ?_)
          change wpAnyH _ _ _ _ _ 0 #[true, true, true, true, true, true, true, true, true, true, true, true, true, true] _ _
          refine wpAnyH_done (by kernel_rfl) ?_ _
          exact HK _ _ _ k7
        exact AllReadyH.nil
      refine AllReadyH.cons (o := _) rfl ?_ ?_
      · intro K hK
        go_simp
        obtain ⟨Y3, hY⟩ : ∃ Y, Y = X2.alloc (.cells (w4 no4) 28) := ⟨_, rfl⟩
        have k3 := Iu.new k2
        rw [← hY] at k3
        refine hK.out _ _ (by have h9 := k3.iw.bx; rw [hY] at h9; exact h9) (fun hHeld => ?_)
        clear hK K
        try simp only [Act.put, List.setIfInBounds_toArray, List.set_cons_zero, List.set_cons_succ]
        change wpAnyH _ _ _ _ _ 4 #[true, true, true, true, true, true, false, true, true, false, true, true, false, false] _ _
        change wpAnyH _ _ _ _ _ _ _ _ (X2.alloc (.cells (w4 no4) 28))
        rw [← hY]
        have hHeld2 := k3.iw.bx
        clear hY hHeld
        refine wpAnyH_ready (rs := [6]) (by kernel_rfl) (by simp) ?_
        refine AllReadyH.cons (o := _) rfl ?_ ?_
        rotate_left; exact AllReadyH.nil
        intro K hK
        go_simp
        go_at_call 40
        refine (parities_any s hD1 hD _).mono ?_; rintro e X4 ⟨rfl, p4⟩
        have k4 := k3.kept p4
        refine hK.out _ _ (k4.iw.bx) (fun hHeld => ?_)
        clear hK K
        try simp only [Act.put, List.setIfInBounds_toArray, List.set_cons_zero, List.set_cons_succ]
        change wpAnyH _ _ _ _ _ 3 #[true, true, true, true, true, true, true, true, true, false, true, true, false, false] _ _
        refine wpAnyH_ready (rs := [9]) (by kernel_rfl) (by simp) ?_
        refine AllReadyH.cons (o := _) rfl ?_ ?_
        rotate_left; exact AllReadyH.nil
        intro K hK
        go_simp
        go_at_call 39
        refine (less_any (parF s.D) s.l _).mono ?_; rintro e X5 ⟨rfl, p5⟩
        have k5 := k4.kept p5
        refine hK.out _ _ (k5.iw.bx) (fun hHeld => ?_)
        clear hK K
        try simp only [Act.put, List.setIfInBounds_toArray, List.set_cons_zero, List.set_cons_succ]
        change wpAnyH _ _ _ _ _ 2 #[true, true, true, true, true, true, true, true, true, true, true, true, false, false] _ _
        have k6 := k5.setA (wd (lessF s.y s.k))
        refine wpAnyH_store_set 12 (lessF s.y s.k) (by kernel_rfl) rfl (by rfl) (by rfl) (by rfl) (by rfl) (by rfl) (k5.a) (k6.iw.bx) (fun hHeld => ?_)
        change wpAnyH _ _ _ _ _ 1 #[true, true, true, true, true, true, true, true, true, true, true, true, true, false] _ _
        have k7 := k6.setB (wd (lessF (parF s.D) s.l))
        refine wpAnyH_store_set 13 (lessF (parF s.D) s.l) (by kernel_rfl) rfl (by rfl) (by rfl) (by rfl) (by rfl) (by rfl) (k6.b) (k7.iw.bx) (fun hHeld => ?_)
        change wpAnyH _ _ _ _ _ 0 #[true, true, true, true, true, true, true, true, true, true, true, true, true, true] _ _
        refine wpAnyH_done (by kernel_rfl) ?_ _
        exact HK _ _ _ k7
      exact AllReadyH.nil
    refine AllReadyH.cons (o := _) rfl ?_ ?_
    · intro K hK
      go_simp
      obtain ⟨Y2, hY⟩ : ∃ Y, Y = Y1.alloc (.cells (w4 no4) 28) := ⟨_, rfl⟩
      have k2 := Iu.new k1
      rw [← hY] at k2
      refine hK.out _ _ (by have h9 := k2.iw.bx; rw [hY] at h9; exact h9) (fun hHeld => ?_)
      clear hK K
      try simp only [Act.put, List.setIfInBounds_toArray, List.set_cons_zero, List.set_cons_succ]
      change wpAnyH _ _ _ _ _ 5 #[true, true, true, true, false, true, false, true, true, false, true, true, false, false] _ _
      change wpAnyH _ _ _ _ _ _ _ _ (Y1.alloc (.cells (w4 no4) 28))
      rw [← hY]
      have hHeld2 := k2.iw.bx
      clear hY hHeld
      refine wpAnyH_ready (rs := [4]) (by kernel_rfl) (by simp) ?_
      refine AllReadyH.cons (o := _) rfl ?_ ?_
      rotate_left; exact AllReadyH.nil
      intro K hK
      go_simp
      go_at_call 39
      refine (less_any s.y s.k _).mono ?_; rintro e X3 ⟨rfl, p3⟩
      have k3 := k2.kept p3
      refine hK.out _ _ (k3.iw.bx) (fun hHeld => ?_)
      clear hK K
      try simp only [Act.put, List.setIfInBounds_toArray, List.set_cons_zero, List.set_cons_succ]
      change wpAnyH _ _ _ _ _ 4 #[true, true, true, true, true, true, false, true, true, false, true, true, false, false] _ _
      refine wpAnyH_ready (rs := [6]) (by kernel_rfl) (by simp) ?_
      refine AllReadyH.cons (o := _) rfl ?_ ?_
      rotate_left; exact AllReadyH.nil
      intro K hK
      go_simp
      go_at_call 40
      refine (parities_any s hD1 hD _).mono ?_; rintro e X4 ⟨rfl, p4⟩
      have k4 := k3.kept p4
      refine hK.out _ _ (k4.iw.bx) (fun hHeld => ?_)
      clear hK K
      try simp only [Act.put, List.setIfInBounds_toArray, List.set_cons_zero, List.set_cons_succ]
      change wpAnyH _ _ _ _ _ 3 #[true, true, true, true, true, true, true, true, true, false, true, true, false, false] _ _
      refine wpAnyH_ready (rs := [9]) (by kernel_rfl) (by simp) ?_
      refine AllReadyH.cons (o := _) rfl ?_ ?_
      rotate_left; exact AllReadyH.nil
      intro K hK
      go_simp
      go_at_call 39
      refine (less_any (parF s.D) s.l _).mono ?_; rintro e X5 ⟨rfl, p5⟩
      have k5 := k4.kept p5
      refine hK.out _ _ (k5.iw.bx) (fun hHeld => ?_)
      clear hK K
      try simp only [Act.put, List.setIfInBounds_toArray, List.set_cons_zero, List.set_cons_succ]
      change wpAnyH _ _ _ _ _ 2 #[true, true, true, true, true, true, true, true, true, true, true, true, false, false] _ _
      have k6 := k5.setA (wd (lessF s.y s.k))
      refine wpAnyH_store_set 12 (lessF s.y s.k) (by kernel_rfl) rfl (by rfl) (by rfl) (by rfl) (by rfl) (by rfl) (k5.a) (k6.iw.bx) (fun hHeld => ?_)
      change wpAnyH _ _ _ _ _ 1 #[true, true, true, true, true, true, true, true, true, true, true, true, true, false] _ _
      have k7 := k6.setB (wd (lessF (parF s.D) s.l))
      refine wpAnyH_store_set 13 (lessF (parF s.D) s.l) (by kernel_rfl) rfl (by rfl) (by rfl) (by rfl) (by rfl) (by rfl) (k6.b) (k7.iw.bx) (fun hHeld => ?_)
      change wpAnyH _ _ _ _ _ 0 #[true, true, true, true, true, true, true, true, true, true, true, true, true, true] _ _
      refine wpAnyH_done (by kernel_rfl) ?_ _
      exact HK _ _ _ k7
    exact AllReadyH.nil
  refine AllReadyH.cons (o := _) rfl ?_ ?_
  · intro K hK
    go_simp
    obtain ⟨Y1, hY⟩ : ∃ Y, Y = w0.drew.alloc (.cells (w4 no4) 28) := ⟨_, rfl⟩
    have k1 : Iv w Y1 s w0.drew.heap.size no4 := by rw [hY]; exact Iv.new h1
    refine hK.out _ _ (by have h9 := k1.iw.bx; rw [hY] at h9; exact h9) (fun hHeld => ?_)
    clear hK K
    try simp only [Act.put, List.setIfInBounds_toArray, List.set_cons_zero, List.set_cons_succ]
    change wpAnyH _ _ _ _ _ 6 #[true, true, true, true, false, true, false, true, true, false, false, true, false, false] _ _
    change wpAnyH _ _ _ _ _ _ _ _ (w0.drew.alloc (.cells (w4 no4) 28))
    rw [← hY]
    have hHeld2 := k1.iw.bx
    clear hY hHeld
    refine wpAnyH_ready (rs := [4, 10]) (by kernel_rfl) (by simp) ?_
    refine AllReadyH.cons (o := _) rfl ?_ ?_
    · intro K hK
      go_simp
      go_at_call 39
      refine (less_any s.y s.k _).mono ?_; rintro e X2 ⟨rfl, p2⟩
      have k2 := k1.kept p2
      refine hK.out _ _ (k2.iw.bx) (fun hHeld => ?_)
      clear hK K
      try simp only [Act.put, List.setIfInBounds_toArray, List.set_cons_zero, List.set_cons_succ]
      change wpAnyH _ _ _ _ _ 5 #[true, true, true, true, true, true, false, true, true, false, false, true, false, false] _ _
      refine wpAnyH_ready (rs := [6, 10]) (by kernel_rfl) (by simp) ?_
      refine AllReadyH.cons (o := _) rfl ?_ ?_
      · intro K hK
        go_simp
        go_at_call 40
        refine (parities_any s hD1 hD _).mono ?_; rintro e X3 ⟨rfl, p3⟩
        have k3 := k2.kept p3
        refine hK.out _ _ (k3.iw.bx) (fun hHeld => ?_)
        clear hK K
        try simp only [Act.put, List.setIfInBounds_toArray, List.set_cons_zero, List.set_cons_succ]
        change wpAnyH _ _ _ _ _ 4 #[true, true, true, true, true, true, true, true, true, false, false, true, false, false] _ _
        refine wpAnyH_ready (rs := [9, 10]) (by kernel_rfl) (by simp) ?_
        refine AllReadyH.cons (o := _) rfl ?_ ?_
        · intro K hK
          go_simp
          go_at_call 39
          refine (less_any (parF s.D) s.l _).mono ?_; rintro e X4 ⟨rfl, p4⟩
          have k4 := k3.kept p4
          refine hK.out _ _ (k4.iw.bx) (fun hHeld => ?_)
          clear hK K
          try simp only [Act.put, List.setIfInBounds_toArray, List.set_cons_zero, List.set_cons_succ]
          change wpAnyH _ _ _ _ _ 3 #[true, true, true, true, true, true, true, true, true, true, false, true, false, false] _ _
          refine wpAnyH_ready (rs := [10]) (by kernel_rfl) (by simp) ?_
          refine AllReadyH.cons (o := _) rfl ?_ ?_
          rotate_left; exact AllReadyH.nil
          intro K hK
          go_simp
          obtain ⟨Y5, hY⟩ : ∃ Y, Y = X4.alloc (.cells (w4 no4) 28) := ⟨_, rfl⟩
          have k5 := Iu.new k4
          rw [← hY] at k5
          refine hK.out _ _ (by have h9 := k5.iw.bx; rw [hY] at h9; exact h9) (fun hHeld => ?_)
          clear hK K
          try simp only [Act.put, List.setIfInBounds_toArray, List.set_cons_zero, List.set_cons_succ]
          change wpAnyH _ _ _ _ _ 2 #[true, true, true, true, true, true, true, true, true, true, true, true, false, false] _ _
          change wpAnyH _ _ _ _ _ _ _ _ (X4.alloc (.cells (w4 no4) 28))
          rw [← hY]
          have hHeld2 := k5.iw.bx
          clear hY hHeld
          have k6 := k5.setB (wd (lessF s.y s.k))
          refine wpAnyH_store_set 12 (lessF s.y s.k) (by kernel_rfl) rfl (by rfl) (by rfl) (by rfl) (by rfl) (by rfl) (k5.b) (k6.iw.bx) (fun hHeld => ?_)
          change wpAnyH _ _ _ _ _ 1 #[true, true, true, true, true, true, true, true, true, true, true, true, true, false] _ _
          have k7 := k6.setA (wd (lessF (parF s.D) s.l))
          refine wpAnyH_store_set 13 (lessF (parF s.D) s.l) (by kernel_rfl) rfl (by rfl) (by rfl) (by rfl) (by rfl) (by rfl) (k6.a) (k7.iw.bx) (fun hHeld => ?_)
          change wpAnyH _ _ _ _ _ 0 #[true, true, true, true, true, true, true, true, true, true, true, true, true, true] _ _
          refine wpAnyH_done (by kernel_rfl) ?_ _
          exact HK _ _ _ k7.swap
        refine AllReadyH.cons (o := _) rfl ?_ ?_
        · intro K hK
          go_simp
          obtain ⟨Y4, hY⟩ : ∃ Y, Y = X3.alloc (.cells (w4 no4) 28) := ⟨_, rfl⟩
          have k4 := Iu.new k3
          rw [← hY] at k4
          refine hK.out _ _ (by have h9 := k4.iw.bx; rw [hY] at h9; exact h9) (fun hHeld => ?_)
          clear hK K
          try simp only [Act.put, List.setIfInBounds_toArray, List.set_cons_zero, List.set_cons_succ]
          change wpAnyH _ _ _ _ _ 3 #[true, true, true, true, true, true, true, true, true, false, true, true, false, false] _ _
          change wpAnyH _ _ _ _ _ _ _ _ (X3.alloc (.cells (w4 no4) 28))
          rw [← hY]
          have hHeld2 := k4.iw.bx
          clear hY hHeld
          refine wpAnyH_ready (rs := [9]) (by kernel_rfl) (by simp) ?_
          refine AllReadyH.cons (o := _) rfl ?_ ?_
          rotate_left; exact AllReadyH.nil
          intro K hK
          go_simp
          go_at_call 39
          refine (less_any (parF s.D) s.l _).mono ?_; rintro e X5 ⟨rfl, p5⟩
          have k5 := k4.kept p5
          refine hK.out _ _ (k5.iw.bx) (fun hHeld => ?_)
          clear hK K
          try simp only [Act.put, List.setIfInBounds_toArray, List.set_cons_zero, List.set_cons_succ]
          change wpAnyH _ _ _ _ _ 2 #[true, true, true, true, true, true, true, true, true, true, true, true, false, false] _ _
          have k6 := k5.setB (wd (lessF s.y s.k))
          refine wpAnyH_store_set 12 (lessF s.y s.k) (by kernel_rfl) rfl (by rfl) (by rfl) (by rfl) (by rfl) (by rfl) (k5.b) (k6.iw.bx) (fun hHeld => ?_)
          change wpAnyH _ _ _ _ _ 1 #[true, true, true, true, true, true, true, true, true, true, true, true, true, false] _ _
          have k7 := k6.setA (wd (lessF (parF s.D) s.l))
          refine wpAnyH_store_set 13 (lessF (parF s.D) s.l) (by kernel_rfl) rfl (by rfl) (by rfl) (by rfl) (by rfl) (by rfl) (k6.a) (k7.iw.bx) (fun hHeld => ?_)
          change wpAnyH _ _ _ _ _ 0 #[true, true, true, true, true, true, true, true, true, true, true, true, true, true] _ _
          refine wpAnyH_done (by kernel_rfl) ?_ _
          exact HK _ _ _ k7.swap
        exact AllReadyH.nil
      refine AllReadyH.cons (o := _) rfl ?_ ?_
      · intro K hK
        go_simp
        obtain ⟨Y3, hY⟩ : ∃ Y, Y = X2.alloc (.cells (w4 no4) 28) := ⟨_, rfl⟩
        have k3 := Iu.new k2
        rw [← hY] at k3
        refine hK.out _ _ (by have h9 := k3.iw.bx; rw [hY] at h9; exact h9) (fun hHeld => ?_)
        clear hK K
        try simp only [Act.put, List.setIfInBounds_toArray, List.set_cons_zero, List.set_cons_succ]
        change wpAnyH _ _ _ _ _ 4 #[true, true, true, true, true, true, false, true, true, false, true, true, false, false] _ _
        change wpAnyH _ _ _ _ _ _ _ _ (X2.alloc (.cells (w4 no4) 28))
        rw [← hY]
        have hHeld2 := k3.iw.bx
        clear hY hHeld
        refine wpAnyH_ready (rs := [6]) (by kernel_rfl) (by simp) ?_
        refine AllReadyH.cons (o := _) rfl ?_ ?_
        rotate_left; exact AllReadyH.nil
        intro K hK
        go_simp
        go_at_call 40
        refine (parities_any s hD1 hD _).mono ?_; rintro e X4 ⟨rfl, p4⟩
        have k4 := k3.kept p4
        refine hK.out _ _ (k4.iw.bx) (fun hHeld => ?_)
        clear hK K
        try simp only [Act.put, List.setIfInBounds_toArray, List.set_cons_zero, List.set_cons_succ]
        change wpAnyH _ _ _ _ _ 3 #[true, true, true, true, true, true, true, true, true, false, true, true, false, false] _ _
        refine wpAnyH_ready (rs := [9]) (by kernel_rfl) (by simp) ?_
        refine AllReadyH.cons (o := _) rfl ?_ ?_
        rotate_left; exact AllReadyH.nil
        intro K hK
        go_simp
        go_at_call 39
        refine (less_any (parF s.D) s.l _).mono ?_; rintro e X5 ⟨rfl, p5⟩
        have k5 := k4.kept p5
        refine hK.out _ _ (k5.iw.bx) (fun hHeld => ?_)
        clear hK K
        try simp only [Act.put, List.setIfInBounds_toArray, List.set_cons_zero, List.set_cons_succ]
        change wpAnyH _ _ _ _ _ 2 #[true, true, true, true, true, true, true, true, true, true, true, true, false, false] _ _
        have k6 := k5.setB (wd (lessF s.y s.k))
        refine wpAnyH_store_set 12 (lessF s.y s.k) (by kernel_rfl) rfl (by rfl) (by rfl) (by rfl) (by rfl) (by rfl) (k5.b) (k6.iw.bx) (fun hHeld => ?_)
        change wpAnyH _ _ _ _ _ 1 #[true, true, true, true, true, true, true, true, true, true, true, true, true, false] _ _
        have k7 := k6.setA (wd (lessF (parF s.D) s.l))
        refine wpAnyH_store_set 13 (lessF (parF s.D) s.l) (by kernel_rfl) rfl (by rfl) (by rfl) (by rfl) (by rfl) (by rfl) (k6.a) (k7.iw.bx) (fun hHeld => ?_)
        change wpAnyH _ _ _ _ _ 0 #[true, true, true, true, true, true, true, true, true, true, true, true, true, true] _ _
        refine wpAnyH_done (by kernel_rfl) ?_ _
        exact HK _ _ _ k7.swap
      exact AllReadyH.nil
    refine AllReadyH.cons (o := _) rfl ?_ ?_
    · intro K hK
      go_simp
      obtain ⟨Y2, hY⟩ : ∃ Y, Y = Y1.alloc (.cells (w4 no4) 28) := ⟨_, rfl⟩
      have k2 := Iu.new k1
      rw [← hY] at k2
      refine hK.out _ _ (by have h9 := k2.iw.bx; rw [hY] at h9; exact h9) (fun hHeld => ?_)
      clear hK K
      try simp only [Act.put, List.setIfInBounds_toArray, List.set_cons_zero, List.set_cons_succ]
      change wpAnyH _ _ _ _ _ 5 #[true, true, true, true, false, true, false, true, true, false, true, true, false, false] _ _
      change wpAnyH _ _ _ _ _ _ _ _ (Y1.alloc (.cells (w4 no4) 28))
      rw [← hY]
      have hHeld2 := k2.iw.bx
      clear hY hHeld
      refine wpAnyH_ready (rs := [4]) (by kernel_rfl) (by simp) ?_
      refine AllReadyH.cons (o := _) rfl ?_ ?_
      rotate_left; exact AllReadyH.nil
      intro K hK
      go_simp
      go_at_call 39
      refine (less_any s.y s.k _).mono ?_; rintro e X3 ⟨rfl, p3⟩
      have k3 := k2.kept p3
      refine hK.out _ _ (k3.iw.bx) (fun hHeld => ?_)
      clear hK K
      try simp only [Act.put, List.setIfInBounds_toArray, List.set_cons_zero, List.set_cons_succ]
      change wpAnyH _ _ _ _ _ 4 #[true, true, true, true, true, true, false, true, true, false, true, true, false, false] _ _
      refine wpAnyH_ready (rs := [6]) (by kernel_rfl) (by simp) ?_
      refine AllReadyH.cons (o := _) rfl ?_ ?_
      rotate_left; exact AllReadyH.nil
      intro K hK
      go_simp
      go_at_call 40
      refine (parities_any s hD1 hD _).mono ?_; rintro e X4 ⟨rfl, p4⟩
      have k4 := k3.kept p4
      refine hK.out _ _ (k4.iw.bx) (fun hHeld => ?_)
      clear hK K
      try simp only [Act.put, List.setIfInBounds_toArray, List.set_cons_zero, List.set_cons_succ]
      change wpAnyH _ _ _ _ _ 3 #[true, true, true, true, true, true, true, true, true, false, true, true, false, false] _ _
      refine wpAnyH_ready (rs := [9]) (by kernel_rfl) (by simp) ?_
      refine AllReadyH.cons (o := _) rfl ?_ ?_
      rotate_left; exact AllReadyH.nil
      intro K hK
      go_simp
      go_at_call 39
      refine (less_any (parF s.D) s.l _).mono ?_; rintro e X5 ⟨rfl, p5⟩
      have k5 := k4.kept p5
      refine hK.out _ _ (k5.iw.bx) (fun hHeld => ?_)
      clear hK K
      try simp only [Act.put, List.setIfInBounds_toArray, List.set_cons_zero, List.set_cons_succ]
      change wpAnyH _ _ _ _ _ 2 #[true, true, true, true, true, true, true, true, true, true, true, true, false, false] _ _
      have k6 := k5.setB (wd (lessF s.y s.k))
      refine wpAnyH_store_set 12 (lessF s.y s.k) (by kernel_rfl) rfl (by rfl) (by rfl) (by rfl) (by rfl) (by rfl) (k5.b) (k6.iw.bx) (fun hHeld => ?_)
      change wpAnyH _ _ _ _ _ 1 #[true, true, true, true, true, true, true, true, true, true, true, true, true, false] _ _
      have k7 := k6.setA (wd (lessF (parF s.D) s.l))
      refine wpAnyH_store_set 13 (lessF (parF s.D) s.l) (by kernel_rfl) rfl (by rfl) (by rfl) (by rfl) (by rfl) (by rfl) (k6.a) (k7.iw.bx) (fun hHeld => ?_)
      change wpAnyH _ _ _ _ _ 0 #[true, true, true, true, true, true, true, true, true, true, true, true, true, true] _ _
      refine wpAnyH_done (by kernel_rfl) ?_ _
      exact HK _ _ _ k7.swap
    exact AllReadyH.nil
  exact AllReadyH.nil

end Go.Proofs.YtffbachgbcefiaaDoor
