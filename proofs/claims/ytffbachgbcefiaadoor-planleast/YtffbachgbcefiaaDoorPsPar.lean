/-
  Contracts of State's parities, full, whole. Condition: that the number of data columns is an int, and two more.
-/
import Derived.Test.YtffbachgbcefiaaDoorPsIw
namespace Go.Proofs.YtffbachgbcefiaaDoor
open Go.RowKit Plain
set_option linter.unusedVariables false
set_option linter.unusedSimpArgs false

set_option maxRecDepth 100000 in
set_option maxHeartbeats 8000000 in
theorem parities_any (s : PS) (hD1 : -9223372036854775808 ≤ s.D) (hD : s.D + 2 ≤ 9223372036854775807) (w : World) : Calls Tryd.prog 40 #[PV s] w fun e w' => e = .returned (SV (parF s.D)) ∧ Kp w w' := by
  obtain ⟨w0, hw0⟩ : ∃ w0, w0 = (w.alloc (.cells (psA s) 30)).alloc (.cells (w4 no4) 28) := ⟨_, rfl⟩
  have h0 : Iw w w0 s no4 := by rw [hw0]; exact Iw.new w s
  have h1 : Iw w w0.drew s no4 := h0.kept ((Kp.refl w0).drew)
  have HW := hid hw0
  clear hw0
  have hc := fun X (h : Iw w X s no4) => h.call (columns_any s hD1 hD X)
  have hd := fun X (h : Iw w X s no4) => h.call (data_any s (by omega) X)
  have hl := fun X (h : Iw w X s no4) => h.call (less_any (upF (s.D + 2)) (upF s.D) X)
  go_enter Tryd.func40, Tryd.ntmps40
  go_upto_region 1 with fail
  change Code.wp _ _ _ _ ((w.alloc (.cells (psA s) 30)).alloc (.cells (w4 no4) 28))
  rw [← show w0 = (w.alloc (.cells (psA s) 30)).alloc (.cells (w4 no4) 28) from HW.out]
  clear HW
  refine wp_region_held_drew (S := fun X => Bx X w.heap.size s) (by kernel_rfl) h1.bx (fun hHeld => ?_)
  change wpAnyH _ _ _ _ _ 6 #[false, false, false, false, false, false] _ _
  refine wpAnyH_takeD (i := 0) (oi := _) (v := _) 3 rfl (by rfl) (by kernel_rfl) (by kernel_rfl) (by kernel_rfl) (fun _ _ _ h => h) (yl_ps (by rfl) (by rfl) (by rfl) (fun _ h => h)) (by assumption) ?_
  try simp only [Act.put, List.setIfInBounds_toArray, List.set_cons_zero, List.set_cons_succ]
  change wpAnyH _ _ _ _ _ 5 #[true, false, false, false, false, false] _ _
  refine wpAnyH_takeD (i := 2) (oi := _) (v := _) 5 rfl (by rfl) (by kernel_rfl) (by kernel_rfl) (by kernel_rfl) (fun _ _ _ h => h) (yl_ps (by rfl) (by rfl) (by rfl) (fun _ h => h)) (by assumption) ?_
  try simp only [Act.put, List.setIfInBounds_toArray, List.set_cons_zero, List.set_cons_succ]
  change wpAnyH _ _ _ _ _ 4 #[true, false, true, false, false, false] _ _
  refine wpAnyH_ready (rs := [1]) (by kernel_rfl) (by simp) ?_
  refine AllReadyH.cons (o := _) rfl ?_ ?_
  rotate_left; exact AllReadyH.nil
  intro K hK
  go_simp
  go_at_call 38
  refine (hc _ (by assumption)).mono ?_; rintro e X1 ⟨rfl, k1⟩
  refine hK.out _ _ (Iw.bx (by assumption)) (fun hHeld => ?_)
  clear hK K
  try simp only [Act.put, List.setIfInBounds_toArray, List.set_cons_zero, List.set_cons_succ]
  change wpAnyH _ _ _ _ _ 3 #[true, true, true, false, false, false] _ _
  refine wpAnyH_ready (rs := [3]) (by kernel_rfl) (by simp) ?_
  refine AllReadyH.cons (o := _) rfl ?_ ?_
  rotate_left; exact AllReadyH.nil
  intro K hK
  go_simp
  go_at_call 37
  refine (hd _ (by assumption)).mono ?_; rintro e X2 ⟨rfl, k2⟩
  refine hK.out _ _ (Iw.bx (by assumption)) (fun hHeld => ?_)
  clear hK K
  try simp only [Act.put, List.setIfInBounds_toArray, List.set_cons_zero, List.set_cons_succ]
  change wpAnyH _ _ _ _ _ 2 #[true, true, true, true, false, false] _ _
  refine wpAnyH_ready (rs := [4]) (by kernel_rfl) (by simp) ?_
  refine AllReadyH.cons (o := _) rfl ?_ ?_
  rotate_left; exact AllReadyH.nil
  intro K hK
  go_simp
  go_at_call 39
  refine (hl _ (by assumption)).mono ?_; rintro e X3 ⟨rfl, k3⟩
  refine hK.out _ _ (Iw.bx (by assumption)) (fun hHeld => ?_)
  clear hK K
  try simp only [Act.put, List.setIfInBounds_toArray, List.set_cons_zero, List.set_cons_succ]
  change wpAnyH _ _ _ _ _ 1 #[true, true, true, true, true, false] _ _
  refine wpAnyH_store_set 5 (parF s.D) (by kernel_rfl) rfl (by rfl) (by rfl) (by rfl) (by rfl) (by rfl) (k3.a4) (k3.bx2 _) (fun hHeld => ?_)
  change wpAnyH _ _ _ _ _ 0 #[true, true, true, true, true, true] _ _
  refine wpAnyH_done (by kernel_rfl) ?_ _
  obtain ⟨e1, e2⟩ := k3.put (wd (parF s.D))
  go_wp2
  refine bodyPost_ret (results_set rfl _ _ (w.heap.size + 1) (wd (parF s.D)) rfl e1) rfl ?_
  exact ⟨rfl, e2⟩
set_option maxRecDepth 100000 in
set_option maxHeartbeats 8000000 in
theorem full_any (s : PS) (hD1 : -9223372036854775808 ≤ s.D) (hD : s.D + 2 ≤ 9223372036854775807) (w : World) : Calls Tryd.prog 22 #[PV s] w fun e w' => e = .returned (.tuple #[SV (rdW s 0), .bool (mayW s 0)]) ∧ Kp w w' := by
  rw [rd0, may0]
  obtain ⟨w0, hw0⟩ : ∃ w0, w0 = (w.alloc (.cells (psA s) 30)).alloc (.cells (w4 no4) 28) := ⟨_, rfl⟩
  have h0 : Iw w w0 s no4 := by rw [hw0]; exact Iw.new w s
  have h1 : Iw w w0.drew s no4 := h0.kept ((Kp.refl w0).drew)
  have HW := hid hw0
  clear hw0
  have ho := fun X (h : Iw w X s no4) => h.call (of_any (.slice none 0 0) [] X (.empty none 0 (by omega)))
  have hd := fun X (h : Iw w X s no4) => h.call (data_any s (by omega) X)
  have heq := eq_bin s.h (upF s.D)
  have heg := eq_guard s.h (upF s.D)
  go_enter Tryd.func22, Tryd.ntmps22
  go_upto_region 1 with fail
  change Code.wp _ _ _ _ ((w.alloc (.cells (psA s) 30)).alloc (.cells (w4 no4) 28))
  rw [← show w0 = (w.alloc (.cells (psA s) 30)).alloc (.cells (w4 no4) 28) from HW.out]
  clear HW
  refine wp_region_held_drew (S := fun X => Bx X w.heap.size s) (by kernel_rfl) h1.bx (fun hHeld => ?_)
  change wpAnyH _ _ _ _ _ 8 #[false, false, false, false, false, false, false, false] _ _
  refine wpAnyH_takeD (i := 1) (oi := _) (v := ?_) 5 rfl (by rfl) (by kernel_rfl) (by kernel_rfl) (by kernel_rfl) (fun _ _ _ h => h) (.inl ⟨by rfl, ?_⟩) (by assumption) ?_
  rotate_left; ((intro w hSw; (try dsimp only at hSw); go_simp); first | done | with_reducible rfl)
  try simp only [Act.put, List.setIfInBounds_toArray, List.set_cons_zero, List.set_cons_succ]
  change wpAnyH _ _ _ _ _ 7 #[false, true, false, false, false, false, false, false] _ _
  refine wpAnyH_takeD (i := 2) (oi := _) (v := _) 6 rfl (by rfl) (by kernel_rfl) (by kernel_rfl) (by kernel_rfl) (fun _ _ _ h => h) (yl_set (by rfl) (by rfl) (by rfl) (fun _ h => h.rh)) (by assumption) ?_
  try simp only [Act.put, List.setIfInBounds_toArray, List.set_cons_zero, List.set_cons_succ]
  change wpAnyH _ _ _ _ _ 6 #[false, true, true, false, false, false, false, false] _ _
  refine wpAnyH_takeD (i := 3) (oi := _) (v := _) 7 rfl (by rfl) (by kernel_rfl) (by kernel_rfl) (by kernel_rfl) (fun _ _ _ h => h) (yl_ps (by rfl) (by rfl) (by rfl) (fun _ h => h)) (by assumption) ?_
  try simp only [Act.put, List.setIfInBounds_toArray, List.set_cons_zero, List.set_cons_succ]
  change wpAnyH _ _ _ _ _ 5 #[false, true, true, true, false, false, false, false] _ _
  refine wpAnyH_ready (rs := [0]) (by kernel_rfl) (by simp) ?_
  refine AllReadyH.cons (o := _) rfl ?_ ?_
  rotate_left; exact AllReadyH.nil
  intro K hK
  go_simp
  go_at_call 32
  refine (ho _ (by assumption)).mono ?_; rintro e X1 ⟨rfl, k1⟩
  refine hK.out _ _ (Iw.bx (by assumption)) (fun hHeld => ?_)
  clear hK K
  try simp only [Act.put, List.setIfInBounds_toArray, List.set_cons_zero, List.set_cons_succ]
  change wpAnyH _ _ _ _ _ 4 #[true, true, true, true, false, false, false, false] _ _
  refine wpAnyH_ready (rs := [4]) (by kernel_rfl) (by simp) ?_
  refine AllReadyH.cons (o := _) rfl ?_ ?_
  rotate_left; exact AllReadyH.nil
  intro K hK
  go_simp
  go_at_call 37
  refine (hd _ (by assumption)).mono ?_; rintro e X2 ⟨rfl, k2⟩
  refine hK.out _ _ (Iw.bx (by assumption)) (fun hHeld => ?_)
  clear hK K
  try simp only [Act.put, List.setIfInBounds_toArray, List.set_cons_zero, List.set_cons_succ]
  change wpAnyH _ _ _ _ _ 3 #[true, true, true, true, true, false, false, false] _ _
  refine wpAnyH_takeD (i := 5) (oi := _) (v := ?_) 9 rfl (by rfl) (by kernel_rfl) (by kernel_rfl) (by kernel_rfl) (fun _ _ _ h => h) (.inl ⟨by rfl, ?_⟩) (by assumption) ?_
  rotate_left; ((intro w hSw; (try dsimp only at hSw); go_simp); first | done | with_reducible rfl)
  try simp only [Act.put, List.setIfInBounds_toArray, List.set_cons_zero, List.set_cons_succ]
  change wpAnyH _ _ _ _ _ 2 #[true, true, true, true, true, true, false, false] _ _
  refine wpAnyH_store_set 6 (inL []) (by kernel_rfl) rfl (by rfl) (by rfl) (by rfl) (by rfl) (by rfl) (k2.a4) (k2.bx2 _) (fun hHeld => ?_)
  change wpAnyH _ _ _ _ _ 1 #[true, true, true, true, true, true, true, false] _ _
  refine wpAnyH_takeD (i := 7) (oi := _) (v := ?_) 3 rfl (by rfl) (by kernel_rfl) (by kernel_rfl) (by kernel_rfl) (fun _ _ _ h => h) (.inl ⟨by rfl, ?_⟩) (by assumption) ?_
  rotate_left; ((intro w hSw; (try dsimp only at hSw); go_simp); first | done | with_reducible rfl)
  try simp only [Act.put, List.setIfInBounds_toArray, List.set_cons_zero, List.set_cons_succ]
  change wpAnyH _ _ _ _ _ 0 #[true, true, true, true, true, true, true, true] _ _
  refine wpAnyH_done (by kernel_rfl) ?_ _
  obtain ⟨e1, e2⟩ := k2.put (wd (inL []))
  go_wp2
  refine bodyPost_ret (res_cell_tmp rfl _ _ (w.heap.size + 1) (w4 (wd (inL []))) rfl rfl e1.range Tryd.underlying28 rfl (by rw [size_set']; rfl)) rfl ?_
  exact ⟨rfl, e2⟩
set_option maxRecDepth 100000 in
set_option maxHeartbeats 8000000 in
theorem whole_any (s : PS) (hD1 : -9223372036854775808 ≤ s.D) (hD : s.D + 2 ≤ 9223372036854775807) (w : World) : Calls Tryd.prog 25 #[PV s] w fun e w' => e = .returned (.tuple #[SV (rdW s 3), .bool (mayW s 3)]) ∧ Kp w w' := by
  rw [rd3, may3]
  obtain ⟨w0, hw0⟩ : ∃ w0, w0 = (w.alloc (.cells (psA s) 30)).alloc (.cells (w4 no4) 28) := ⟨_, rfl⟩
  have h0 : Iw w w0 s no4 := by rw [hw0]; exact Iw.new w s
  have h1 : Iw w w0.drew s no4 := h0.kept ((Kp.refl w0).drew)
  have HW := hid hw0
  clear hw0
  have hc := fun X (h : Iw w X s no4) => h.call (columns_any s hD1 hD X)
  have hl := fun X (h : Iw w X s no4) => h.call (less_any (upF (s.D + 2)) s.l X)
  go_enter Tryd.func25, Tryd.ntmps25
  go_upto_region 1 with fail
  change Code.wp _ _ _ _ ((w.alloc (.cells (psA s) 30)).alloc (.cells (w4 no4) 28))
  rw [← show w0 = (w.alloc (.cells (psA s) 30)).alloc (.cells (w4 no4) 28) from HW.out]
  clear HW
  refine wp_region_held_drew (S := fun X => Bx X w.heap.size s) (by kernel_rfl) h1.bx (fun hHeld => ?_)
  change wpAnyH _ _ _ _ _ 7 #[false, false, false, false, false, false, false] _ _
  refine wpAnyH_takeD (i := 0) (oi := _) (v := _) 4 rfl (by rfl) (by kernel_rfl) (by kernel_rfl) (by kernel_rfl) (fun _ _ _ h => h) (yl_ps (by rfl) (by rfl) (by rfl) (fun _ h => h)) (by assumption) ?_
  try simp only [Act.put, List.setIfInBounds_toArray, List.set_cons_zero, List.set_cons_succ]
  change wpAnyH _ _ _ _ _ 6 #[true, false, false, false, false, false, false] _ _
  refine wpAnyH_takeD (i := 2) (oi := _) (v := ?_) 6 rfl (by rfl) (by kernel_rfl) (by kernel_rfl) (by kernel_rfl) (fun _ _ _ h => h) (.inl ⟨by rfl, ?_⟩) (by assumption) ?_
  rotate_left; ((intro w hSw; (try dsimp only at hSw); go_simp); first | done | with_reducible rfl)
  try simp only [Act.put, List.setIfInBounds_toArray, List.set_cons_zero, List.set_cons_succ]
  change wpAnyH _ _ _ _ _ 5 #[true, false, true, false, false, false, false] _ _
  refine wpAnyH_takeD (i := 3) (oi := _) (v := _) 7 rfl (by rfl) (by kernel_rfl) (by kernel_rfl) (by kernel_rfl) (fun _ _ _ h => h) (yl_set (by rfl) (by rfl) (by rfl) (fun _ h => h.rl)) (by assumption) ?_
  try simp only [Act.put, List.setIfInBounds_toArray, List.set_cons_zero, List.set_cons_succ]
  change wpAnyH _ _ _ _ _ 4 #[true, false, true, true, false, false, false] _ _
  refine wpAnyH_ready (rs := [1]) (by kernel_rfl) (by simp) ?_
  refine AllReadyH.cons (o := _) rfl ?_ ?_
  rotate_left; exact AllReadyH.nil
  intro K hK
  go_simp
  go_at_call 38
  refine (hc _ (by assumption)).mono ?_; rintro e X1 ⟨rfl, k1⟩
  refine hK.out _ _ (Iw.bx (by assumption)) (fun hHeld => ?_)
  clear hK K
  try simp only [Act.put, List.setIfInBounds_toArray, List.set_cons_zero, List.set_cons_succ]
  change wpAnyH _ _ _ _ _ 3 #[true, true, true, true, false, false, false] _ _
  refine wpAnyH_ready (rs := [4]) (by kernel_rfl) (by simp) ?_
  refine AllReadyH.cons (o := _) rfl ?_ ?_
  rotate_left; exact AllReadyH.nil
  intro K hK
  go_simp
  go_at_call 39
  refine (hl _ (by assumption)).mono ?_; rintro e X2 ⟨rfl, k2⟩
  refine hK.out _ _ (Iw.bx (by assumption)) (fun hHeld => ?_)
  clear hK K
  try simp only [Act.put, List.setIfInBounds_toArray, List.set_cons_zero, List.set_cons_succ]
  change wpAnyH _ _ _ _ _ 2 #[true, true, true, true, true, false, false] _ _
  refine wpAnyH_store_set 5 (lessF (upF (s.D + 2)) s.l) (by kernel_rfl) rfl (by rfl) (by rfl) (by rfl) (by rfl) (by rfl) (k2.a4) (k2.bx2 _) (fun hHeld => ?_)
  change wpAnyH _ _ _ _ _ 1 #[true, true, true, true, true, true, false] _ _
  refine wpAnyH_takeD (i := 6) (oi := _) (v := ?_) 3 rfl (by rfl) (by kernel_rfl) (by kernel_rfl) (by kernel_rfl) (fun _ _ _ h => h) (.inl ⟨by rfl, ?_⟩) (by assumption) ?_
  rotate_left; ((intro w hSw; (try dsimp only at hSw); go_simp); first | done | with_reducible rfl)
  try simp only [Act.put, List.setIfInBounds_toArray, List.set_cons_zero, List.set_cons_succ]
  change wpAnyH _ _ _ _ _ 0 #[true, true, true, true, true, true, true] _ _
  refine wpAnyH_done (by kernel_rfl) ?_ _
  obtain ⟨e1, e2⟩ := k2.put (wd (lessF (upF (s.D + 2)) s.l))
  go_wp2
  refine bodyPost_ret (res_cell_tmp rfl _ _ (w.heap.size + 1) (w4 (wd (lessF (upF (s.D + 2)) s.l))) rfl rfl e1.range Tryd.underlying28 rfl (by rw [size_set']; rfl)) rfl ?_
  exact ⟨rfl, e2⟩

end Go.Proofs.YtffbachgbcefiaaDoor
