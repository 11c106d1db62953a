/-
  The contract of the laws' function wakes (layer 5): true. Conditions: that the kinds' names read as they are listed.
-/
import Derived.Test.YtbcmgogfpboibaaGreatDoorRepDoor
namespace Go.Proofs.YtbcmgogfpboibaaGreatDoor
open Go.RowKit Plain
set_option linter.unusedVariables false

theorem StrsIn.five {w : World} {v : Value} {A B C D E : ByteArray} (h : StrsIn w v [A, B, C, D, E]) : ∃ b off cap, v = .slice (Option.some ⟨b, off, none⟩) 5 cap ∧ 5 ≤ cap ∧ cap ≤ 9223372036854775807 ∧ w.cell? ⟨b, off, none⟩ = Option.some (.string A) ∧ w.cell? ⟨b, off + 2, none⟩ = Option.some (.string C) ∧ w.cell? ⟨b, off + 4, none⟩ = Option.some (.string E) := by
  obtain ⟨l, hl⟩ : ∃ l, l = [A, B, C, D, E] := ⟨_, rfl⟩
  rw [← hl] at h
  cases h with
  | empty a cap h => cases hl
  | some b off cap l h0 h1 h2 hc =>
    subst hl
    exact ⟨b, off, cap, rfl, h1, by unfold maxLen at h2; omega, hc 0 (by simp), hc 2 (by simp), hc 4 (by simp)⟩
theorem wkL_in (w : World) (t : TypeId) : StrsIn (w.alloc (.cells #[.string ⟨#[63]⟩, .string ⟨#[1]⟩, .string ⟨#[109, 111, 114, 101]⟩, .string ⟨#[1]⟩, .string ⟨#[7]⟩] t)) (.slice (some ⟨w.heap.size, 0, none⟩) 5 5) wkL :=
  .some w.heap.size 0 5 wkL (by decide) (by decide) (by unfold maxLen; omega) (fun i hi => by
    have h : i = 0 ∨ i = 1 ∨ i = 2 ∨ i = 3 ∨ i = 4 := by simp [wkL] at hi; omega
    rcases h with rfl | rfl | rfl | rfl | rfl <;> (rw [World.cell?_alloc_at _ _ _ _ rfl]; rfl))
theorem IntsIn.lit2 (w : World) (x y : Int) (t : TypeId) : IntsIn (w.alloc (.cells #[.int .i64 x, .int .i64 y] t)) (.slice (Option.some ⟨w.heap.size, 0, none⟩) 2 2) [x, y] :=
  .some w.heap.size 0 2 [x, y] (by simp) (by simp) (by unfold maxLen; omega) (fun i hi => by
    have h : i = 0 ∨ i = 1 := by simp at hi; omega
    rcases h with rfl | rfl <;> (rw [World.cell?_alloc_at _ _ _ _ rfl]; rfl))
theorem IntsIn.lit3 (w : World) (x y z : Int) (t : TypeId) : IntsIn (w.alloc (.cells #[.int .i64 x, .int .i64 y, .int .i64 z] t)) (.slice (Option.some ⟨w.heap.size, 0, none⟩) 3 3) [x, y, z] :=
  .some w.heap.size 0 3 [x, y, z] (by simp) (by simp) (by unfold maxLen; omega) (fun i hi => by
    have h : i = 0 ∨ i = 1 ∨ i = 2 := by simp at hi; omega
    rcases h with rfl | rfl | rfl <;> (rw [World.cell?_alloc_at _ _ _ _ rfl]; rfl))
theorem wkL_sz : ∀ i, i < wkL.length → (wkL.getD i noS).size ≤ maxLen := fun i hi => by
  have h : i = 0 ∨ i = 1 ∨ i = 2 ∨ i = 3 ∨ i = 4 := by simp [wkL] at hi; omega
  unfold maxLen
  rcases h with rfl | rfl | rfl | rfl | rfl <;> decide
theorem cnt_zero : ∀ j, j < 8 → 0 ≤ (fun _ : Nat => (0 : Int)) j ∧ (fun _ : Nat => (0 : Int)) j < 4611686018427387904 := fun _ _ => ⟨Int.le_refl 0, by show (0 : Int) < 4611686018427387904; decide⟩

set_option maxRecDepth 100000 in
set_option maxHeartbeats 4000000 in
theorem wakes5 (w : World) (hN : Names w) : Calls Tryz.prog 11 #[] w fun e w' => e = .returned (.bool true) ∧ Kp w w' := by
  have hnew := fnew_any w
  go_enter Tryz.func11, Tryz.ntmps11
  go_wp2_with fail
  refine hnew.mono ?_; rintro e w1 ⟨f, b, rfl, hF, k1, f1, b1⟩
  have ka : Kp w1 ((w1.alloc (.cells #[.string ⟨#[63]⟩, .string ⟨#[1]⟩, .string ⟨#[109, 111, 114, 101]⟩, .string ⟨#[1]⟩, .string ⟨#[7]⟩] 9)).alloc (.cells #[.int .i64 2, .int .i64 0] 3)) := ((Kp.refl w1).alloc _).alloc _
  have hI := IntsIn.lit2 (w1.alloc (.cells #[.string ⟨#[63]⟩, .string ⟨#[1]⟩, .string ⟨#[109, 111, 114, 101]⟩, .string ⟨#[1]⟩, .string ⟨#[7]⟩] 9)) 2 0 3
  rw [World.size_alloc] at hI
  have hX := fix_any _ f b _ (hF.kp ka) cnt_zero _ _ wkL [2, 0] ((wkL_in w1 9).kept ((Kp.refl _).alloc _)) wkL_sz hI (by decide)
  rw [wk5_e, wk5_fx] at hX
  have K2 := k1.trans ka
  clear hnew hI hF k1 ka
  go_wp2_with fail
  refine hX.mono ?_; rintro e w2 ⟨v, rfl, hv, _, s2⟩
  have K3 := s2.kp K2 (by intro t ht; simp at ht; rcases ht with rfl | rfl <;> assumption)
  obtain ⟨g, off, cap, rfl, c1, c2, g0, g2, g4⟩ := hv.five
  clear hX s2 hv K2
  have hS := sort_any 3 _ _ (by decide) _ (IntsIn.lit3 w2 2 0 2 3)
  rw [wk5_sr.1, wk5_sr.2] at hS
  go_wp2_with fail
  refine hS.mono ?_; rintro e w3 ⟨rfl, k3⟩
  have k3' := ((Kp.refl w2).alloc _).trans k3
  have K4 := K3.trans k3'
  have h0 := k3'.held g0
  have h2 := k3'.held g2
  have h4 := k3'.held g4
  have hM := name_any 7 w3 (hN.kp K4)
  rw [wk5_nm] at hM
  clear hS g0 g2 g4 k3 k3' K3
  go_wp2_with fail
  refine hM.mono ?_; rintro e w4 ⟨rfl, rfl⟩
  go_wp2
  go_ret
  exact ⟨rfl, K4⟩

end Go.Proofs.YtbcmgogfpboibaaGreatDoor
