/-
  Contracts of cmp.Compare of ints, and of Choose's comparison. Condition: that both are ints.
-/
import Derived.Test.YtffbachgbcefiaaDoorPsWl
import Derived.Test.YtffbachgbcefiaaDoorMkNext
namespace Go.Proofs.YtffbachgbcefiaaDoor
open Go.RowKit Plain
set_option linter.unusedVariables false
set_option linter.unusedSimpArgs false

def cpI (x y : Int) : Int := if x < y then -1 else if y < x then 1 else 0
set_option maxRecDepth 100000 in
set_option maxHeartbeats 8000000 in
theorem nan_any (x : Int) (w : World) : Calls Tryd.prog 42 #[.int .i64 x] w fun e w' => e = .returned (.bool false) ∧ w' = w := by
  have h : (x != x) = false := by simp
  go_enter Tryd.func42, Tryd.ntmps42
  go_wp2_with fail
  go_ret
  exact ⟨rfl, rfl⟩
set_option maxRecDepth 100000 in
set_option maxHeartbeats 8000000 in
theorem compare_any (x y : Int) (w : World) : Calls Tryd.prog 30 #[.int .i64 x, .int .i64 y] w fun e w' => e = .returned (.int .i64 (cpI x y)) ∧ w' = w := by
  have h1 := nan_any x w
  have h2 := nan_any y w
  by_cases c1 : x < y
  · rw [show cpI x y = -1 by unfold cpI; rw [if_pos c1]]
    go_enter Tryd.func30, Tryd.ntmps30
    go_wp2_with fail
    refine h1.mono ?_; rintro e w1 ⟨rfl, rfl⟩
    go_wp2_with fail
    refine h2.mono ?_; rintro e w2 ⟨rfl, rfl⟩
    go_wp2
    go_ret
    exact ⟨rfl, rfl⟩
  · by_cases c2 : y < x
    · rw [show cpI x y = 1 by unfold cpI; rw [if_neg c1, if_pos c2]]
      have c3 : x > y := c2
      go_enter Tryd.func30, Tryd.ntmps30
      go_wp2_with fail
      refine h1.mono ?_; rintro e w1 ⟨rfl, rfl⟩
      go_wp2_with fail
      refine h2.mono ?_; rintro e w2 ⟨rfl, rfl⟩
      go_wp2
      go_ret
      exact ⟨rfl, rfl⟩
    · rw [show cpI x y = 0 by unfold cpI; rw [if_neg c1, if_neg c2]]
      have c3 : ¬ x > y := c2
      go_enter Tryd.func30, Tryd.ntmps30
      go_wp2_with fail
      refine h1.mono ?_; rintro e w1 ⟨rfl, rfl⟩
      go_wp2_with fail
      refine h2.mono ?_; rintro e w2 ⟨rfl, rfl⟩
      go_wp2
      go_ret
      exact ⟨rfl, rfl⟩
theorem Px.reads {w : World} {b : Nat} {p : Pn} (h : Px w b p) : w.rangeAt b 1 (w4 (wd p.2)).toList := fun j v hj => by
  have hj4 : j < 4 := (List.getElem?_eq_some_iff.1 hj).1
  have : (pA p).toList[1 + j]? = some v := by
    rw [Array.getElem?_toList, w4_at (wd p.2) j hj4] at hj
    rw [← hj]
    obtain rfl | rfl | rfl | rfl : j = 0 ∨ j = 1 ∨ j = 2 ∨ j = 3 := by omega
    · rfl
    · rfl
    · rfl
    · rfl
  have h2 := h.range (1 + j) v this
  rwa [Nat.zero_add] at h2
/-- two plans in blocks, nothing else changed. -/
structure Ip (w X : World) (p q : Pn) : Prop where
  a : Px X w.heap.size p
  b : Px X (w.heap.size + 1) q
  kp : Kp w X
theorem Ip.kept {w X X' : World} {p q : Pn} (h : Ip w X p q) (k : Kp X X') : Ip w X' p q := ⟨h.a.kept k, h.b.kept k, h.kp.trans k⟩
set_option maxRecDepth 100000 in
set_option maxHeartbeats 8000000 in
theorem least_any (p q : Pn) (w : World) : Calls Tryd.prog 29 #[pV p, pV q] w fun e w' => e = .returned (.int .i64 (cpI (cn 256 p.2 : Nat) (cn 256 q.2 : Nat))) ∧ Kp w w' := by
  obtain ⟨w0, hw0⟩ : ∃ w0, w0 = (w.alloc (.cells (pA p) 45)).alloc (.cells (pA q) 45) := ⟨_, rfl⟩
  have h1 : Ip w w0.drew p q := by
    rw [hw0]
    refine ⟨(Px.new w p).kept (((Kp.refl _).alloc _).drew), ?_, (((Kp.refl w).alloc _).alloc _).drew⟩
    have := Px.new (w.alloc (.cells (pA p) 45)) q
    rw [show (w.alloc (.cells (pA p) 45)).heap.size = w.heap.size + 1 by simp] at this
    exact this.kept ((Kp.refl _).drew)
  have HW := hid hw0
  clear hw0
  have hcmp := fun X => (compare_any (cn 256 p.2 : Nat) (cn 256 q.2 : Nat) X).mono (fun e X' (h : e = _ ∧ X' = X) => (⟨h.1, by rw [h.2]; exact Kp.refl X⟩ : e = .returned (.int .i64 (cpI (cn 256 p.2 : Nat) (cn 256 q.2 : Nat))) ∧ Kp X X'))
  go_enter Tryd.func29, Tryd.ntmps29
  go_upto_region 1 with fail
  change Code.wp _ _ _ _ ((w.alloc (.cells (pA p) 45)).alloc (.cells (pA q) 45))
  rw [← show w0 = (w.alloc (.cells (pA p) 45)).alloc (.cells (pA q) 45) from HW.out]
  clear HW
  refine wp_region_held_drew (S := fun X => Px X w.heap.size p ∧ Px X (w.heap.size + 1) q) (by kernel_rfl) (⟨h1.a, h1.b⟩) (fun hHeld => ?_)
  change wpAnyH _ _ _ _ _ 8 #[false, false, false, false, false, false, false, false] _ _
  refine wpAnyH_takeD (i := 0) (oi := _) (v := ?_) 5 rfl (by rfl) (by kernel_rfl) (by kernel_rfl) (by kernel_rfl) (fun _ _ _ h => h) (.inl ⟨by rfl, ?_⟩) (by assumption) ?_
  rotate_left; ((intro w hSw; (try dsimp only at hSw); go_simp); first | done | with_reducible rfl)
  try simp only [Act.put, List.setIfInBounds_toArray, List.set_cons_zero, List.set_cons_succ]
  change wpAnyH _ _ _ _ _ 7 #[true, false, false, false, false, false, false, false] _ _
  refine wpAnyH_takeD (i := 1) (oi := _) (v := _) 6 rfl (by rfl) (by kernel_rfl) (by kernel_rfl) (by kernel_rfl) (fun _ _ _ h => h) (yl_set (by rfl) (by rfl) (by rfl) (fun _ h => h.1.reads)) (by assumption) ?_
  try simp only [Act.put, List.setIfInBounds_toArray, List.set_cons_zero, List.set_cons_succ]
  change wpAnyH _ _ _ _ _ 6 #[true, true, false, false, false, false, false, false] _ _
  refine wpAnyH_takeD (i := 3) (oi := _) (v := ?_) 8 rfl (by rfl) (by kernel_rfl) (by kernel_rfl) (by kernel_rfl) (fun _ _ _ h => h) (.inl ⟨by rfl, ?_⟩) (by assumption) ?_
  rotate_left; ((intro w hSw; (try dsimp only at hSw); go_simp); first | done | with_reducible rfl)
  try simp only [Act.put, List.setIfInBounds_toArray, List.set_cons_zero, List.set_cons_succ]
  change wpAnyH _ _ _ _ _ 5 #[true, true, false, true, false, false, false, false] _ _
  refine wpAnyH_takeD (i := 4) (oi := _) (v := _) 9 rfl (by rfl) (by kernel_rfl) (by kernel_rfl) (by kernel_rfl) (fun _ _ _ h => h) (yl_set (by rfl) (by rfl) (by rfl) (fun _ h => h.2.reads)) (by assumption) ?_
  try simp only [Act.put, List.setIfInBounds_toArray, List.set_cons_zero, List.set_cons_succ]
  change wpAnyH _ _ _ _ _ 4 #[true, true, false, true, true, false, false, false] _ _
  refine wpAnyH_ready (rs := [2]) (by kernel_rfl) (by simp) ?_
  refine AllReadyH.cons (o := _) rfl ?_ ?_
  rotate_left; exact AllReadyH.nil
  intro K hK
  go_simp
  go_at_call 17
  refine (count_any p.2 _).mono ?_; rintro e X1 ⟨rfl, p1⟩
  have k1 := h1.kept p1
  refine hK.out _ _ (⟨k1.a, k1.b⟩) (fun hHeld => ?_)
  clear hK K
  try simp only [Act.put, List.setIfInBounds_toArray, List.set_cons_zero, List.set_cons_succ]
  change wpAnyH _ _ _ _ _ 3 #[true, true, true, true, true, false, false, false] _ _
  refine wpAnyH_ready (rs := [5]) (by kernel_rfl) (by simp) ?_
  refine AllReadyH.cons (o := _) rfl ?_ ?_
  rotate_left; exact AllReadyH.nil
  intro K hK
  go_simp
  go_at_call 17
  refine (count_any q.2 _).mono ?_; rintro e X2 ⟨rfl, p2⟩
  have k2 := k1.kept p2
  refine hK.out _ _ (⟨k2.a, k2.b⟩) (fun hHeld => ?_)
  clear hK K
  try simp only [Act.put, List.setIfInBounds_toArray, List.set_cons_zero, List.set_cons_succ]
  change wpAnyH _ _ _ _ _ 2 #[true, true, true, true, true, true, false, false] _ _
  refine wpAnyH_ready (rs := [6]) (by kernel_rfl) (by simp) ?_
  refine AllReadyH.cons (o := _) rfl ?_ ?_
  rotate_left; exact AllReadyH.nil
  intro K hK
  go_simp
  go_at_call 30
  refine (hcmp _).mono ?_; rintro e X3 ⟨rfl, p3⟩
  have k3 := k2.kept p3
  refine hK.out _ _ (⟨k3.a, k3.b⟩) (fun hHeld => ?_)
  clear hK K
  try simp only [Act.put, List.setIfInBounds_toArray, List.set_cons_zero, List.set_cons_succ]
  change wpAnyH _ _ _ _ _ 1 #[true, true, true, true, true, true, true, false] _ _
  refine wpAnyH_takeD (i := 7) (oi := _) (v := ?_) 4 rfl (by rfl) (by kernel_rfl) (by kernel_rfl) (by kernel_rfl) (fun _ _ _ h => h) (.inl ⟨by rfl, ?_⟩) (by assumption) ?_
  rotate_left; ((intro w hSw; (try dsimp only at hSw); go_simp); first | done | with_reducible rfl)
  try simp only [Act.put, List.setIfInBounds_toArray, List.set_cons_zero, List.set_cons_succ]
  change wpAnyH _ _ _ _ _ 0 #[true, true, true, true, true, true, true, true] _ _
  refine wpAnyH_done (by kernel_rfl) ?_ _
  have e9 := k3.kp
  go_wp2
  go_ret
  exact ⟨rfl, e9⟩

end Go.Proofs.YtffbachgbcefiaaDoor
