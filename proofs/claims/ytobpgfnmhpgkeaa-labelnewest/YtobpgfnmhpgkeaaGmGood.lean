/-
  Contracts of geom's Good, Data, Blocks, Sectors, start and columnOn, and of the document's Good, Blocks and next. No condition but that start's numbers are those of a good geometry.
-/
import Derived.Test.YtobpgfnmhpgkeaaGmMem
namespace Go.Proofs.Ytobpgfnmhpgkeaa
open Go.RowKit Plain
set_option linter.unusedVariables false

def gV (n s : Int) : Value := .agg #[.int .i64 n, .int .i64 s]
set_option maxRecDepth 100000 in
theorem good_any (n s : Int) (w : World) : Calls Try.prog 31 #[gV n s] w fun e w' => e = .returned (.bool (gg n s)) ∧ Kp w w' := by
  unfold gV
  by_cases h1 : 4 ≤ n
  · by_cases h2 : n ≤ 32
    · by_cases h3 : 1 ≤ s
      · by_cases h4 : s ≤ 64
        · rw [show gg n s = true from (gg_iff _ _).2 ⟨h1, h2, h3, h4⟩]
          go_enter Try.func31, Try.ntmps31
          go_wp2
          go_ret
          exact ⟨rfl, (Kp.refl w).alloc _⟩
        · rw [show gg n s = false from by rw [Bool.eq_false_iff, ne_eq, gg_iff]; exact fun h => h4 h.2.2.2]
          go_enter Try.func31, Try.ntmps31
          go_wp2
          go_ret
          exact ⟨rfl, (Kp.refl w).alloc _⟩
      · rw [show gg n s = false from by rw [Bool.eq_false_iff, ne_eq, gg_iff]; exact fun h => h3 h.2.2.1]
        go_enter Try.func31, Try.ntmps31
        go_wp2
        go_ret
        exact ⟨rfl, (Kp.refl w).alloc _⟩
    · rw [show gg n s = false from by rw [Bool.eq_false_iff, ne_eq, gg_iff]; exact fun h => h2 h.2.1]
      go_enter Try.func31, Try.ntmps31
      go_wp2
      go_ret
      exact ⟨rfl, (Kp.refl w).alloc _⟩
  · rw [show gg n s = false from by rw [Bool.eq_false_iff, ne_eq, gg_iff]; exact fun h => h1 h.1]
    go_enter Try.func31, Try.ntmps31
    go_wp2
    go_ret
    exact ⟨rfl, (Kp.refl w).alloc _⟩
set_option maxRecDepth 100000 in
theorem rgood_any (n s : Int) (w : World) : Calls Try.prog 13 #[gV n s] w fun e w' => e = .returned (.bool (gg n s)) ∧ Kp w w' := by
  unfold gV
  by_cases h1 : 4 ≤ n
  · by_cases h2 : n ≤ 32
    · by_cases h3 : 1 ≤ s
      · by_cases h4 : s ≤ 64
        · rw [show gg n s = true from (gg_iff _ _).2 ⟨h1, h2, h3, h4⟩]
          go_enter Try.func13, Try.ntmps13
          go_wp2
          go_ret
          exact ⟨rfl, (Kp.refl w).alloc _⟩
        · rw [show gg n s = false from by rw [Bool.eq_false_iff, ne_eq, gg_iff]; exact fun h => h4 h.2.2.2]
          go_enter Try.func13, Try.ntmps13
          go_wp2
          go_ret
          exact ⟨rfl, (Kp.refl w).alloc _⟩
      · rw [show gg n s = false from by rw [Bool.eq_false_iff, ne_eq, gg_iff]; exact fun h => h3 h.2.2.1]
        go_enter Try.func13, Try.ntmps13
        go_wp2
        go_ret
        exact ⟨rfl, (Kp.refl w).alloc _⟩
    · rw [show gg n s = false from by rw [Bool.eq_false_iff, ne_eq, gg_iff]; exact fun h => h2 h.2.1]
      go_enter Try.func13, Try.ntmps13
      go_wp2
      go_ret
      exact ⟨rfl, (Kp.refl w).alloc _⟩
  · rw [show gg n s = false from by rw [Bool.eq_false_iff, ne_eq, gg_iff]; exact fun h => h1 h.1]
    go_enter Try.func13, Try.ntmps13
    go_wp2
    go_ret
    exact ⟨rfl, (Kp.refl w).alloc _⟩
theorem bI_mul (n s : Int) : dI n s * s = bI n s := by unfold dI bI; split <;> simp
theorem bI_bd (n s : Int) : 0 ≤ bI n s ∧ bI n s ≤ 1920 := by
  unfold bI
  split
  · rename_i h
    obtain ⟨g1, g2, g3, g4⟩ := (gg_iff n s).1 h
    have hm := mul_64 (a := s) (b := n - 2) (by omega) (by omega) (by omega) (by omega)
    rw [Int.mul_comm] at hm
    exact hm
  · omega
theorem dI_bd (n s : Int) : 0 ≤ dI n s ∧ dI n s ≤ 30 := by
  unfold dI
  split
  · rename_i h
    obtain ⟨g1, g2, g3, g4⟩ := (gg_iff n s).1 h
    omega
  · omega
set_option maxRecDepth 100000 in
theorem start_any (n s t : Int) (w : World) (h1 : 0 < n) (h2 : n ≤ 32) (h3 : 0 ≤ t) : Calls Try.prog 49 #[gV n s, .int .i64 t] w fun e w' => e = .returned (.int .i64 (sM n t)) ∧ Kp w w' := by
  have hb := rem_bd t h1
  have hr : t.tmod n = t % n := Int.tmod_eq_emod_of_nonneg h3
  have e : sM n t = n - 1 - t % n + 2 := by unfold sM; omega
  rw [e]
  obtain ⟨r, er⟩ : ∃ r, r = t % n := ⟨_, rfl⟩
  rw [← er] at hb hr ⊢
  obtain ⟨b1, b2⟩ := hb
  have er2 := er.symm
  have hn0 : (n == 0) = false := beq_eq_false_iff_ne.2 (by omega)
  clear er e
  unfold gV
  go_enter Try.func49, Try.ntmps49
  go_wp2_with fail
  go_quiet (fail)
  go_wp2
  go_ret
  exact ⟨rfl, ((Kp.refl w).alloc _).drewN _⟩

end Go.Proofs.Ytobpgfnmhpgkeaa
