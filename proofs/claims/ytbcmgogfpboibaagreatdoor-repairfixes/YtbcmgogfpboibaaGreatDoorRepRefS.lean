/-
  The document's Sort and Name (layer 5), as called. Conditions: that the list's cells hold the numbers.
-/
import Derived.Test.YtbcmgogfpboibaaGreatDoorRepRef
namespace Go.Proofs.YtbcmgogfpboibaaGreatDoor
open Go.RowKit Plain
set_option linter.unusedVariables false

theorem dst_has (l : List Int) (x : Int) : (dst l).contains x = decide (x ∈ l) := by
  rw [Bool.eq_iff_iff, List.contains_iff_mem, decide_eq_true_iff, dst_mem]
theorem sr_kd {k : Nat} {l : List Int} (h : srE (k : Int) l = 0) : srK (k : Int) l = kdB (lsB l k) (lsB l (k + 1)) ((gn (k + 2) l).length == 2) ((gn (k + 2) l).length == 1) ∧ (gn (k + 2) l).length ≤ 2 ∧ ((gn (k + 2) l).length = 0 → lsB l k = false ∧ lsB l (k + 1) = false) := by
  obtain ⟨h1, h2, hin, hl⟩ := sr_zero h
  have hall : ∀ x, x ∈ l → 0 ≤ x ∧ x < ((k + 2 : Nat) : Int) := fun x hx => by have := in_all hin x hx; omega
  have hdl : (dst l).length = (gn (k + 2) l).length := by rw [dst_gn (k + 2) l hall, List.length_map]
  refine ⟨?_, by omega, fun h0 => ?_⟩
  · unfold srK kdG
    rw [if_pos h, dst_has, dst_has, hdl]; rfl
  · have hnil : gn (k + 2) l = [] := List.eq_nil_of_length_eq_zero h0
    have hno : ∀ i, i < k + 2 → lsB l i = false := fun i hi => by
      unfold lsB
      rw [decide_eq_false_iff_not]
      intro hm
      have : i ∈ gn (k + 2) l := (gn_mem _ _ _).2 ⟨hi, hm⟩
      rw [hnil] at this
      cases this
    exact ⟨hno k (by omega), hno (k + 1) (by omega)⟩

set_option maxRecDepth 100000 in
set_option maxHeartbeats 4000000 in
theorem rsort_any (d : Int) (v : Value) (l : List Int) (hl : l.length * 8 ≤ 140737488355328) (w : World) (h : IntsIn w v l) :
    Calls Tryz.prog 10 #[.int .i64 d, v] w fun e w' => e = .returned (.tuple #[.int .i64 (srK d l), .int .i64 (srE d l)]) ∧ Kp w w' := by
  have H := rlost_any d v l hl w h
  by_cases hE : srE d l = 0
  · obtain ⟨h1, h2, _, _⟩ := sr_zero hE
    obtain ⟨k, rfl⟩ : ∃ k : Nat, d = k := ⟨d.toNat, by omega⟩
    obtain ⟨e1, e2, e3⟩ := sr_kd hE
    rw [e1, hE]
    rw [hE] at H
    rw [show ((k : Nat) : Int).toNat = k by omega] at H
    have i1 : 2 ≤ k := by omega
    have i2 : k ≤ 30 := by omega
    clear e1 hE h
    obtain ⟨n, hn⟩ : ∃ n, n = (gn (k + 2) l).length := ⟨_, rfl⟩
    rw [← hn] at H e2 e3 ⊢
    obtain ⟨p, hp⟩ : ∃ p, p = lsB l k := ⟨_, rfl⟩
    obtain ⟨q, hq⟩ : ∃ q, q = lsB l (k + 1) := ⟨_, rfl⟩
    rw [← hp, ← hq] at e3 ⊢
    have HP : Hid (p = lsB l k) := hp
    have HQ : Hid (q = lsB l (k + 1)) := hq
    clear hn hp hq h1 h2
    go_enter Tryz.func10, Tryz.ntmps10
    go_wp2_with fail
    refine H.mono ?_; rintro e w1 ⟨u, n', rfl, hG, k1⟩
    obtain ⟨G, rfl, _, _, hB, rfl⟩ := hG (by trivial)
    have c1 := hB.c k (by omega)
    have c2 := hB.c (k + 1) (by omega)
    rw [← HP.out] at c1
    rw [← HQ.out] at c2
    clear H hG hB HP HQ
    have hn : n = 0 ∨ n = 1 ∨ n = 2 := by omega
    rcases hn with rfl | rfl | rfl
    · obtain ⟨rfl, rfl⟩ := e3 rfl
      go_wp2
      go_ret2
      exact ⟨rfl, k1⟩
    · cases p <;> cases q
      all_goals
        go_wp2
        go_ret2
        exact ⟨rfl, k1⟩
    · cases p <;> cases q
      all_goals
        go_wp2
        go_ret2
        exact ⟨rfl, k1⟩
  · have e2 : srK d l = 0 := by unfold srK; rw [if_neg hE]
    rw [e2]
    obtain ⟨E, hE'⟩ : ∃ E, E = srE d l := ⟨_, rfl⟩
    rw [← hE'] at H hE ⊢
    have hEn : (E == 0) = false := by rw [beq_eq_false_iff_ne]; exact hE
    clear hE' e2 h
    go_enter Tryz.func10, Tryz.ntmps10
    go_wp2_with fail
    refine H.mono ?_; rintro e w1 ⟨u, n', rfl, _, k1⟩
    go_wp2
    go_ret2
    exact ⟨rfl, k1⟩

set_option maxRecDepth 100000 in
set_option maxHeartbeats 4000000 in
theorem rname_any (k : Int) (w : World) : Calls Tryz.prog 13 #[.int .i64 k] w fun e w' => e = .returned (.string (nameI k)) ∧ Kp w w' := by
  unfold nameI
  by_cases h1 : 0 ≤ k
  · by_cases h2 : k < 8
    · rw [if_pos ⟨h1, h2⟩]
      have h : k = 0 ∨ k = 1 ∨ k = 2 ∨ k = 3 ∨ k = 4 ∨ k = 5 ∨ k = 6 ∨ k = 7 := by omega
      rcases h with rfl | rfl | rfl | rfl | rfl | rfl | rfl | rfl
      all_goals
        go_enter Tryz.func13, Tryz.ntmps13
        go_wp2
        go_ret
        exact ⟨rfl, (Kp.refl w).alloc _⟩
    · rw [if_neg (by omega)]
      have h2' : 8 ≤ k := by omega
      clear h2
      go_enter Tryz.func13, Tryz.ntmps13
      go_wp2
      go_ret
      exact ⟨rfl, (Kp.refl w).alloc _⟩
  · rw [if_neg (by omega)]
    have h1' : k < 0 := by omega
    clear h1
    go_enter Tryz.func13, Tryz.ntmps13
    go_wp2
    go_ret
    exact ⟨rfl, (Kp.refl w).alloc _⟩

theorem IntsIn.cut {w : World} {a : Option Addr} {len cap : Nat} {l : List Int} (h : IntsIn w (.slice a len cap) l) (n : Nat) : len = l.length ∧ len ≤ cap ∧ cap ≤ maxLen ∧ (n < len → IntsIn w (.slice a n cap) (l.take n)) := by
  cases h with
  | empty a cap h => exact ⟨rfl, by omega, h, fun hn => absurd hn (by omega)⟩
  | some b off cap l h0 h1 h2 hc =>
    refine ⟨rfl, h1, h2, fun hn => ?_⟩
    by_cases hn0 : n = 0
    · subst hn0; exact .empty _ _ h2
    · have hl : (l.take n).length = n := by rw [List.length_take]; omega
      have H := IntsIn.some (w := w) b off cap (l.take n) (by omega) (by omega) h2 (fun i hi => by
        rw [hc i (by omega), List.getD_eq_getElem?_getD, List.getD_eq_getElem?_getD, List.getElem?_take_of_lt (by omega)])
      rwa [hl] at H

end Go.Proofs.YtbcmgogfpboibaaGreatDoor
