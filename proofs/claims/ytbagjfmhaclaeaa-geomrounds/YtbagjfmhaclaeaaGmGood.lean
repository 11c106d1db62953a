/-
  Contracts of geom's Good, Data, Blocks, Sectors, start and columnOn, and of the document's Good, Blocks and next. No condition but that start's numbers are those of a good geometry.
-/
import Derived.Test.YtbagjfmhaclaeaaGmMem
namespace Go.Proofs.Ytbagjfmhaclaeaa
open Go.RowKit Plain
set_option linter.unusedVariables false

def gV (n s : Int) : Value := .agg #[.int .i64 n, .int .i64 s]
set_option maxRecDepth 100000 in
theorem good_any (n s : Int) (w : World) : Calls Try.prog 11 #[gV n s] w fun e w' => e = .returned (.bool (gg n s)) ∧ Kp w w' := by
  unfold gV
  by_cases h1 : 4 ≤ n
  · by_cases h2 : n ≤ 32
    · by_cases h3 : 1 ≤ s
      · by_cases h4 : s ≤ 64
        · rw [show gg n s = true from (gg_iff _ _).2 ⟨h1, h2, h3, h4⟩]
          go_enter Try.func11, Try.ntmps11
          go_wp2
          go_ret
          exact ⟨rfl, (Kp.refl w).alloc _⟩
        · rw [show gg n s = false from by rw [Bool.eq_false_iff, ne_eq, gg_iff]; exact fun h => h4 h.2.2.2]
          go_enter Try.func11, Try.ntmps11
          go_wp2
          go_ret
          exact ⟨rfl, (Kp.refl w).alloc _⟩
      · rw [show gg n s = false from by rw [Bool.eq_false_iff, ne_eq, gg_iff]; exact fun h => h3 h.2.2.1]
        go_enter Try.func11, Try.ntmps11
        go_wp2
        go_ret
        exact ⟨rfl, (Kp.refl w).alloc _⟩
    · rw [show gg n s = false from by rw [Bool.eq_false_iff, ne_eq, gg_iff]; exact fun h => h2 h.2.1]
      go_enter Try.func11, Try.ntmps11
      go_wp2
      go_ret
      exact ⟨rfl, (Kp.refl w).alloc _⟩
  · rw [show gg n s = false from by rw [Bool.eq_false_iff, ne_eq, gg_iff]; exact fun h => h1 h.1]
    go_enter Try.func11, Try.ntmps11
    go_wp2
    go_ret
    exact ⟨rfl, (Kp.refl w).alloc _⟩
set_option maxRecDepth 100000 in
theorem rgood_any (n s : Int) (w : World) : Calls Try.prog 9 #[gV n s] w fun e w' => e = .returned (.bool (gg n s)) ∧ Kp w w' := by
  unfold gV
  by_cases h1 : 4 ≤ n
  · by_cases h2 : n ≤ 32
    · by_cases h3 : 1 ≤ s
      · by_cases h4 : s ≤ 64
        · rw [show gg n s = true from (gg_iff _ _).2 ⟨h1, h2, h3, h4⟩]
          go_enter Try.func9, Try.ntmps9
          go_wp2
          go_ret
          exact ⟨rfl, (Kp.refl w).alloc _⟩
        · rw [show gg n s = false from by rw [Bool.eq_false_iff, ne_eq, gg_iff]; exact fun h => h4 h.2.2.2]
          go_enter Try.func9, Try.ntmps9
          go_wp2
          go_ret
          exact ⟨rfl, (Kp.refl w).alloc _⟩
      · rw [show gg n s = false from by rw [Bool.eq_false_iff, ne_eq, gg_iff]; exact fun h => h3 h.2.2.1]
        go_enter Try.func9, Try.ntmps9
        go_wp2
        go_ret
        exact ⟨rfl, (Kp.refl w).alloc _⟩
    · rw [show gg n s = false from by rw [Bool.eq_false_iff, ne_eq, gg_iff]; exact fun h => h2 h.2.1]
      go_enter Try.func9, Try.ntmps9
      go_wp2
      go_ret
      exact ⟨rfl, (Kp.refl w).alloc _⟩
  · rw [show gg n s = false from by rw [Bool.eq_false_iff, ne_eq, gg_iff]; exact fun h => h1 h.1]
    go_enter Try.func9, Try.ntmps9
    go_wp2
    go_ret
    exact ⟨rfl, (Kp.refl w).alloc _⟩
set_option maxRecDepth 100000 in
theorem data_any (n s : Int) (w : World) : Calls Try.prog 12 #[gV n s] w fun e w' => e = .returned (.int .i64 (dI n s)) ∧ Kp w w' := by
  have hG := good_any n s
  cases e1 : gg n s with
  | true =>
    rw [show dI n s = n - 2 from if_pos e1]
    rw [e1] at hG
    obtain ⟨g1, g2, g3, g4⟩ := (gg_iff n s).1 e1
    clear e1
    unfold gV at hG ⊢
    go_enter Try.func12, Try.ntmps12
    go_wp2_with fail
    refine (hG _).mono ?_; rintro e w1 ⟨rfl, k1⟩
    have c0 : w1.cell? ⟨w.heap.size, 0, none⟩ = some (.int .i64 n) := k1.held (by simp)
    have c1 : w1.cell? ⟨w.heap.size, 1, none⟩ = some (.int .i64 s) := k1.held (by simp)
    have K : Kp w w1 := ((Kp.refl w).alloc _).trans k1
    clear hG k1
    go_wp2
    go_ret
    exact ⟨rfl, K⟩
  | false =>
    rw [show dI n s = 0 from if_neg (by simp [e1])]
    rw [e1] at hG
    clear e1
    unfold gV at hG ⊢
    go_enter Try.func12, Try.ntmps12
    go_wp2_with fail
    refine (hG _).mono ?_; rintro e w1 ⟨rfl, k1⟩
    have K : Kp w w1 := ((Kp.refl w).alloc _).trans k1
    clear hG k1
    go_wp2
    go_ret
    exact ⟨rfl, K⟩
set_option maxRecDepth 100000 in
theorem sectors_any (n s : Int) (w : World) : Calls Try.prog 15 #[gV n s] w fun e w' => e = .returned (.int .i64 (xI n s)) ∧ Kp w w' := by
  have hG := good_any n s
  cases e1 : gg n s with
  | true =>
    rw [show xI n s = 100 + s from if_pos e1]
    rw [e1] at hG
    obtain ⟨g1, g2, g3, g4⟩ := (gg_iff n s).1 e1
    clear e1
    unfold gV at hG ⊢
    go_enter Try.func15, Try.ntmps15
    go_wp2_with fail
    refine (hG _).mono ?_; rintro e w1 ⟨rfl, k1⟩
    have c0 : w1.cell? ⟨w.heap.size, 0, none⟩ = some (.int .i64 n) := k1.held (by simp)
    have c1 : w1.cell? ⟨w.heap.size, 1, none⟩ = some (.int .i64 s) := k1.held (by simp)
    have K : Kp w w1 := ((Kp.refl w).alloc _).trans k1
    clear hG k1
    go_wp2
    go_ret
    exact ⟨rfl, K⟩
  | false =>
    rw [show xI n s = 0 from if_neg (by simp [e1])]
    rw [e1] at hG
    clear e1
    unfold gV at hG ⊢
    go_enter Try.func15, Try.ntmps15
    go_wp2_with fail
    refine (hG _).mono ?_; rintro e w1 ⟨rfl, k1⟩
    have K : Kp w w1 := ((Kp.refl w).alloc _).trans k1
    clear hG k1
    go_wp2
    go_ret
    exact ⟨rfl, K⟩
set_option maxRecDepth 100000 in
theorem rblocks_any (n s : Int) (w : World) : Calls Try.prog 14 #[gV n s] w fun e w' => e = .returned (.int .i64 (bI n s)) ∧ Kp w w' := by
  have hG := rgood_any n s
  cases e1 : gg n s with
  | true =>
    rw [show bI n s = (n - 2) * s from if_pos e1]
    rw [e1] at hG
    obtain ⟨g1, g2, g3, g4⟩ := (gg_iff n s).1 e1
    clear e1
    unfold gV at hG ⊢
    have hm := mul_64 (a := s) (b := n - 2) (by omega) (by omega) (by omega) (by omega)
    rw [Int.mul_comm] at hm
    obtain ⟨m1, m2⟩ := hm
    go_enter Try.func14, Try.ntmps14
    go_wp2_with fail
    refine (hG _).mono ?_; rintro e w1 ⟨rfl, k1⟩
    have c0 : w1.cell? ⟨w.heap.size, 0, none⟩ = some (.int .i64 n) := k1.held (by simp)
    have c1 : w1.cell? ⟨w.heap.size, 1, none⟩ = some (.int .i64 s) := k1.held (by simp)
    have K : Kp w w1 := ((Kp.refl w).alloc _).trans k1
    clear hG k1
    go_wp2
    go_ret
    exact ⟨rfl, K⟩
  | false =>
    rw [show bI n s = 0 from if_neg (by simp [e1])]
    rw [e1] at hG
    clear e1
    unfold gV at hG ⊢
    go_enter Try.func14, Try.ntmps14
    go_wp2_with fail
    refine (hG _).mono ?_; rintro e w1 ⟨rfl, k1⟩
    have K : Kp w w1 := ((Kp.refl w).alloc _).trans k1
    clear hG k1
    go_wp2
    go_ret
    exact ⟨rfl, K⟩
theorem bI_mul (n s : Int) : dI n s * s = bI n s := by unfold dI bI; split <;> simp
theorem bI_bd (n s : Int) : 0 ≤ bI n s ∧ bI n s ≤ 1920 := by
  unfold bI
  split
  · rename_i h
    obtain ⟨g1, g2, g3, g4⟩ := (gg_iff n s).1 h
    have hm := mul_64 (a := s) (b := n - 2) (by omega) (by omega) (by omega) (by omega)
    rw [Int.mul_comm] at hm
    exact hm
  · omega
theorem dI_bd (n s : Int) : 0 ≤ dI n s ∧ dI n s ≤ 30 := by
  unfold dI
  split
  · rename_i h
    obtain ⟨g1, g2, g3, g4⟩ := (gg_iff n s).1 h
    omega
  · omega
set_option maxRecDepth 100000 in
theorem blocks_any (n s : Int) (w : World) : Calls Try.prog 13 #[gV n s] w fun e w' => e = .returned (.int .i64 (bI n s)) ∧ Kp w w' := by
  have hD := data_any n s
  have hm := bI_mul n s
  have hb := bI_bd n s
  obtain ⟨b, eb⟩ : ∃ b, b = bI n s := ⟨_, rfl⟩
  obtain ⟨d, ed⟩ : ∃ d, d = dI n s := ⟨_, rfl⟩
  rw [← eb] at hm hb ⊢
  rw [← ed] at hD hm
  obtain ⟨b1, b2⟩ := hb
  clear eb ed
  unfold gV at hD ⊢
  have c0 : (w.alloc (.cells #[.int .i64 n, .int .i64 s] 24)).cell? ⟨w.heap.size, 0, none⟩ = some (.int .i64 n) := by simp
  have c1 : (w.alloc (.cells #[.int .i64 n, .int .i64 s] 24)).cell? ⟨w.heap.size, 1, none⟩ = some (.int .i64 s) := by simp
  obtain ⟨w0, hw0⟩ : ∃ w0, w0 = w.alloc (.cells #[.int .i64 n, .int .i64 s] 24) := ⟨_, rfl⟩
  have K0 : Kp w w0 := by rw [hw0]; exact (Kp.refl w).alloc _
  have HW : Hid (w0 = w.alloc (.cells #[.int .i64 n, .int .i64 s] 24)) := hw0
  rw [← hw0] at c0 c1
  have q0 := kpw_cell c0
  have q1 := kpw_cell c1
  clear hw0 c0 c1
  go_enter Try.func13, Try.ntmps13
  go_wp2_with fail
  rw [← HW.out]
  clear HW
  refine wp_region_kp (by kernel_rfl) (by kernel_rfl) ?_
  repeat (first
    | go_big_quiet_skip
    | (go_big_quiet_want; go_big_quiet_op; go_big_quiet_on)
    | (go_big_quiet_want; go_big_quiet_op; apply Exists.intro; refine ⟨fun p => ?_, ?_⟩; (focus
        first
        | (go_at_call 12; exact kp_call (hD _))); go_big_quiet_on))
  refine wpQuiet_nil ?_
  rintro w1 ⟨p, rfl⟩
  go_wp2
  go_ret
  exact ⟨rfl, K0.trans (kpw_kp w0 p)⟩
set_option maxRecDepth 100000 in
theorem next_any (n s m : Int) (w : World) (h1 : 0 < n) (h2 : n ≤ 32) (h3 : 0 ≤ m) (h4 : m < n) : Calls Try.prog 34 #[gV n s, .int .i64 m] w fun e w' => e = .returned (.int .i64 (nxt n m)) ∧ Kp w w' := by
  unfold gV
  by_cases e : m = n - 1
  · rw [show nxt n m = 0 from if_pos e]
    have e2 : (m == n - 1) = true := beq_iff_eq.2 e
    clear e
    go_enter Try.func34, Try.ntmps34
    go_wp2
    go_ret
    exact ⟨rfl, (Kp.refl w).alloc _⟩
  · rw [show nxt n m = m + 1 from if_neg e]
    have e2 : (m == n - 1) = false := beq_eq_false_iff_ne.2 e
    clear e
    go_enter Try.func34, Try.ntmps34
    go_wp2
    go_ret
    exact ⟨rfl, (Kp.refl w).alloc _⟩
set_option maxRecDepth 100000 in
theorem start_any (n s t : Int) (w : World) (h1 : 0 < n) (h2 : n ≤ 32) (h3 : 0 ≤ t) : Calls Try.prog 32 #[gV n s, .int .i64 t] w fun e w' => e = .returned (.int .i64 (sM n t)) ∧ Kp w w' := by
  have hb := rem_bd t h1
  have hr : t.tmod n = t % n := Int.tmod_eq_emod_of_nonneg h3
  have e : sM n t = n - 1 - t % n + 2 := by unfold sM; omega
  rw [e]
  obtain ⟨r, er⟩ : ∃ r, r = t % n := ⟨_, rfl⟩
  rw [← er] at hb hr ⊢
  obtain ⟨b1, b2⟩ := hb
  have er2 := er.symm
  have hn0 : (n == 0) = false := beq_eq_false_iff_ne.2 (by omega)
  clear er e
  unfold gV
  go_enter Try.func32, Try.ntmps32
  go_wp2_with fail
  go_quiet (fail)
  go_wp2
  go_ret
  exact ⟨rfl, ((Kp.refl w).alloc _).drewN _⟩

end Go.Proofs.Ytbagjfmhaclaeaa
