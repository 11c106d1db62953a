/-
  Contracts of the laws' own functions: wakes (the chapter's example) and equal (two lists with the same numbers). Conditions: that the library's table reads as its text lays it, that the lists' cells hold the numbers.
-/
import Derived.Test.YtekbhgcnobiplaaDoorMkRun
import Derived.RegionTactic
import Derived.BigRegion
namespace Go.Proofs.YtekbhgcnobiplaaDoor
open Go.RowKit Plain Go.BigFrame
set_option linter.unusedVariables false

def wkL : List Int := [3, 1, 2, 70]
def wkF (i : Nat) : Bool := inL wkL i
theorem wk_next : nx wkF 4 = 70 := by decide +kernel
theorem wk_runs : rn 256 wkF = [(1, 3), (70, 1)] := by decide +kernel
theorem wk_count : cn 256 wkF = 4 := by decide +kernel
theorem wk_has : hasB wkF 70 = true := by decide +kernel
theorem wk_ints (w : World) (t : TypeId) : IntsIn (w.alloc (.cells #[.int .i64 3, .int .i64 1, .int .i64 2, .int .i64 70] t)) (.slice (some ⟨w.heap.size, 0, none⟩) 4 4) wkL :=
  IntsIn.some w.heap.size 0 4 wkL (by decide) (by decide) (by unfold maxLen; omega) (fun i hi => by
    have h : i = 0 ∨ i = 1 ∨ i = 2 ∨ i = 3 := by simp [wkL] at hi; omega
    rcases h with rfl | rfl | rfl | rfl <;> (rw [World.cell?_alloc_at _ _ _ _ rfl]; rfl))
theorem PairsIn.two {w : World} {v : Value} {A B : Nat × Nat} (h : PairsIn w v [A, B]) : ∃ b cap, v = .slice (Option.some ⟨b, 0, none⟩) 2 cap ∧ 2 ≤ cap ∧ cap ≤ 9223372036854775807 ∧ w.cell? ⟨b, 0, none⟩ = Option.some (.int .i64 (A.1 : Nat)) ∧ w.cell? ⟨b, 1, none⟩ = Option.some (.int .i64 (A.2 : Nat)) ∧ w.cell? ⟨b, 2, none⟩ = Option.some (.int .i64 (B.1 : Nat)) ∧ w.cell? ⟨b, 3, none⟩ = Option.some (.int .i64 (B.2 : Nat)) := by
  obtain ⟨l, hl⟩ : ∃ l, l = [A, B] := ⟨_, rfl⟩
  rw [← hl] at h
  cases h with
  | empty a cap h => cases hl
  | some b cap l h0 h1 h2 hc =>
    subst hl
    have c0 := hc 0 (by simp)
    have c1 := hc 1 (by simp)
    exact ⟨b, cap, rfl, h1, by unfold maxLen at h2; omega, c0.1, c0.2, c1.1, c1.2⟩
theorem build_wk1 (w : World) : (Instr.build 47 #[(0, .int .i64 1), (1, .int .i64 3)]).run Tryd.prog w = .ok (.agg #[.int .i64 1, .int .i64 3]) w := run_build w 47 _ _ (by kernel_rfl)
theorem build_wk2 (w : World) : (Instr.build 47 #[(0, .int .i64 70), (1, .int .i64 1)]).run Tryd.prog w = .ok (.agg #[.int .i64 70, .int .i64 1]) w := run_build w 47 _ _ (by kernel_rfl)
set_option maxRecDepth 100000 in
set_option maxHeartbeats 4000000 in
theorem wakes_any (w : World) (hT : Tab w) : Calls Tryd.prog 15 #[] w fun e w' => e = .returned (.bool true) ∧ Kp w w' := by
  have hO := of_any _ _ _ (wk_ints w 3)
  have K0 : Kp w (w.alloc (.cells #[.int .i64 3, .int .i64 1, .int .i64 2, .int .i64 70] 3)) := (Kp.refl w).alloc _
  rw [show SV (inL wkL) = SV wkF from rfl] at hO
  have hN := fun W hW => next_any wkF 4 (by omega) W hW
  have hR := runs_any wkF
  have hC := count_any wkF
  have hH := has_any wkF 70
  have h1 := build_wk1
  have h2 := build_wk2
  have e1 := eq2 1 3 1 3
  have e2 := eq2 70 1 70 1
  rw [wk_next] at hN
  rw [wk_runs] at hR
  rw [wk_count] at hC
  rw [wk_has] at hH
  obtain ⟨g, hg⟩ : ∃ g, g = wkF := ⟨_, rfl⟩
  rw [← hg] at hO hN hR hC hH
  clear hg
  unfold SV at hO hN hR hC hH
  go_enter Tryd.func15, Tryd.ntmps15
  go_wp2_with fail
  refine hO.mono ?_; rintro e w1 ⟨rfl, k1⟩
  have K1 := K0.trans k1
  clear hO K0 k1
  have a1 := A4.new w1 (wd g) 25
  have K2 : Kp w (w1.alloc (.cells (w4 (wd g)) 25)) := K1.alloc _
  go_wp2_with fail
  refine (hN _ (hT.kp K2)).mono ?_; rintro e w2 ⟨rfl, k2⟩
  have a2 := a1.kept k2
  have K3 := K2.trans k2
  clear a1 K1 K2 k2 hN
  obtain ⟨c0, c1, c2, c3⟩ := a2.cells
  go_wp2_with fail
  refine (hR _ (hT.kp K3)).mono ?_; rintro e w3 ⟨v, rfl, hP, k3⟩
  have a3 := a2.kept k3
  have K4 := K3.trans k3
  obtain ⟨b, cap, rfl, hcap, hcap2, p0, p1, p2, p3⟩ := hP.two
  clear a2 K3 k3 hR c0 c1 c2 c3 hP
  obtain ⟨c0, c1, c2, c3⟩ := a3.cells
  go_wp2_with fail
  refine (hC _).mono ?_; rintro e w4 ⟨rfl, k4⟩
  have a4 := a3.kept k4
  have K5 := K4.trans k4
  have q0 := k4.held p0
  have q1 := k4.held p1
  have q2 := k4.held p2
  have q3 := k4.held p3
  clear a3 K4 k4 hC c0 c1 c2 c3 p0 p1 p2 p3
  obtain ⟨c0, c1, c2, c3⟩ := a4.cells
  go_wp2_with fail
  refine (hH _).mono ?_; rintro e w5 ⟨rfl, k5⟩
  go_wp2
  go_ret
  exact ⟨rfl, K5.trans k5⟩

set_option maxRecDepth 100000 in
set_option maxHeartbeats 4000000 in
theorem equal_at (a1 a2 : Option Addr) (b1 o1 p1 b2 o2 p2 n : Nat) (x : Nat → Int) (hn : n ≤ 9223372036854775807) (h1 : 0 < n → a1 = some ⟨b1, o1, none⟩) (h2 : 0 < n → a2 = some ⟨b2, o2, none⟩) (w : World) (hc1 : ∀ i, i < n → w.cell? ⟨b1, o1 + i, none⟩ = some (.int .i64 (x i))) (hc2 : ∀ i, i < n → w.cell? ⟨b2, o2 + i, none⟩ = some (.int .i64 (x i))) :
    Calls Tryd.prog 30 #[.slice a1 n p1, .slice a2 n p2] w fun e w' => e = .returned (.bool true) ∧ Kp w w' := by
  have HC1 : Hid (∀ i, i < n → w.cell? ⟨b1, o1 + i, none⟩ = some (.int .i64 (x i))) := hc1
  have HC2 : Hid (∀ i, i < n → w.cell? ⟨b2, o2 + i, none⟩ = some (.int .i64 (x i))) := hc2
  clear hc1 hc2
  go_enter Tryd.func30, Tryd.ntmps30
  go_wp2
  go_loopw [13] (fun i wr => ∃ k : Nat, k ≤ n ∧ i = .int .i64 k ∧ Kp w wr) (fun i _ => n - (intOf i).toNat)
  case atStart => exact ⟨0, by omega, rfl, Kp.refl w⟩
  case round =>
    obtain ⟨k, hk, rfl, hK⟩ := hrel
    by_cases hlt : k < n
    · obtain rfl := h1 (by omega)
      obtain rfl := h2 (by omega)
      have c1 := hK.held (HC1.out k hlt)
      have c2 := hK.held (HC2.out k hlt)
      obtain ⟨y, hy⟩ : ∃ y, y = x k := ⟨_, rfl⟩
      rw [← hy] at c1 c2
      have HK : Hid (Kp w wr.drew) := hK.drew
      clear hy hK h1 h2
      go_wp2_with fail
      go_region
      all_goals (go_wp2_with fail; go_roundw)
      all_goals first | exact ⟨k + 1, by omega, by go_num, HK.out⟩ | (simp [intOf]; omega)
    · obtain rfl : k = n := by omega
      clear h1 h2
      go_wp2
      go_ret
      exact ⟨rfl, hK⟩
theorem equal_any (v1 v2 : Value) (l : List Int) (w : World) (h1 : IntsIn w v1 l) (h2 : IntsIn w v2 l) : Calls Tryd.prog 30 #[v1, v2] w fun e w' => e = .returned (.bool true) ∧ Kp w w' := by
  cases h1 with
  | empty a cap h =>
    cases h2 with
    | empty a' cap' h' => exact equal_at a a' 0 0 cap 0 0 cap' 0 (fun _ => 0) (by omega) (fun h => absurd h (by omega)) (fun h => absurd h (by omega)) w (fun i hi => absurd hi (by omega)) (fun i hi => absurd hi (by omega))
    | some b off cap' l h0 => simp at h0
  | some b off cap l h0 h1 h2' hc =>
    cases h2 with
    | empty a' cap' h' => simp at h0
    | some b' off' cap' l h0' h1' h2'' hc' => exact equal_at _ _ b off cap b' off' cap' l.length (fun i => l.getD i 0) (by unfold maxLen at h2'; omega) (fun _ => rfl) (fun _ => rfl) w hc hc'

end Go.Proofs.YtekbhgcnobiplaaDoor
