/-
  Contracts of geom's Find, Block, Member, Column and Sector, for every geometry and every numbers. No condition.
-/
import Derived.Test.YtobpgfnmhpgkeaaGmRefuse
import Derived.Deep.RegionWith
import Derived.Deep.RegionHeld3
import Derived.Deep.DeepCutAuto
namespace Go.Proofs.Ytobpgfnmhpgkeaa
open Go.RowKit Plain
set_option linter.unusedVariables false

theorem refuse1 (n s x y : Int) (w : World) (t : TypeId) : Calls Try.prog 44 #[.agg #[.int .i64 n, .int .i64 s], .slice (some ⟨w.heap.size, 0, none⟩) 1 1] (w.alloc (.cells #[.int .i64 x, .int .i64 y] t)) fun e w' => e = .returned (.int .i64 (rfE n s [(x, y)])) ∧ Kp w w' :=
  (refuse_at n s _ _ 0 1 [(x, y)] _ (SpAt.new1 w x y t)).mono fun _ _ ⟨h, k⟩ => ⟨h, ((Kp.refl w).alloc _).trans k⟩
theorem refuse2 (n s x y u v : Int) (w : World) (t : TypeId) : Calls Try.prog 44 #[.agg #[.int .i64 n, .int .i64 s], .slice (some ⟨w.heap.size, 0, none⟩) 2 2] (w.alloc (.cells #[.int .i64 x, .int .i64 y, .int .i64 u, .int .i64 v] t)) fun e w' => e = .returned (.int .i64 (rfE n s [(x, y), (u, v)])) ∧ Kp w w' :=
  (refuse_at n s _ _ 0 2 [(x, y), (u, v)] _ (SpAt.new2 w x y u v t)).mono fun _ _ ⟨h, k⟩ => ⟨h, ((Kp.refl w).alloc _).trans k⟩
theorem refuse1b (n s x y : Int) (w : World) (t : TypeId) (k : Nat) (hk : k = w.heap.size) : Calls Try.prog 44 #[.agg #[.int .i64 n, .int .i64 s], .slice (some ⟨k, 0, none⟩) 1 1] (w.alloc (.cells #[.int .i64 x, .int .i64 y] t)) fun e w' => e = .returned (.int .i64 (rfE n s [(x, y)])) ∧ Kp w w' := by
  rw [hk]; exact refuse1 n s x y w t
theorem refuse2b (n s x y u v : Int) (w : World) (t : TypeId) (k : Nat) (hk : k = w.heap.size) : Calls Try.prog 44 #[.agg #[.int .i64 n, .int .i64 s], .slice (some ⟨k, 0, none⟩) 2 2] (w.alloc (.cells #[.int .i64 x, .int .i64 y, .int .i64 u, .int .i64 v] t)) fun e w' => e = .returned (.int .i64 (rfE n s [(x, y), (u, v)])) ∧ Kp w w' := by
  rw [hk]; exact refuse2 n s x y u v w t
def fT (p : Int × Int × Int) : Value := .tuple #[.int .i64 p.1, .int .i64 p.2.1, .int .i64 p.2.2]
def pT (p : Int × Int) : Value := .tuple #[.int .i64 p.1, .int .i64 p.2]
theorem rf_not {n s : Int} {l : List (Int × Int)} (h : gg n s = false) : rfE n s l = 4 := if_neg (by simp [h])
theorem rf_out {n s : Int} {l : List (Int × Int)} (h : gg n s = true) (hl : ¬ inR l = true) : rfE n s l = 3 := (if_pos h).trans (if_neg hl)
theorem rf_in {n s : Int} {l : List (Int × Int)} (h : gg n s = true) (hl : inR l = true) : rfE n s l = 0 := (if_pos h).trans (if_pos hl)
set_option maxRecDepth 100000 in
set_option maxHeartbeats 2000000 in
theorem column_any (n s t m : Int) (w : World) : Calls Try.prog 38 #[gV n s, .int .i64 t, .int .i64 m] w fun e w' => e = .returned (pT (col n s t m)) ∧ Kp w w' := by
  obtain ⟨X, eX⟩ : ∃ X, X = col n s t m := ⟨_, rfl⟩
  rw [← eX]
  have HX : Hid (X = col n s t m) := eX
  clear eX
  unfold gV
  obtain ⟨R, eR⟩ : ∃ R, R = rfE n s [(t, s), (m, n)] := ⟨_, rfl⟩
  have ER : Hid (R = rfE n s [(t, s), (m, n)]) := eR
  clear eR
  go_enter Try.func38, Try.ntmps38
  go_wp2_with fail
  refine (refuse2b n s t s m n (w.alloc _) _ (w.heap.size + 1) (by simp)).mono ?_; rintro e w1 ⟨rfl, k1⟩
  rw [← ER.out]
  have c0 : w1.cell? ⟨w.heap.size, 0, none⟩ = some (.int .i64 n) := k1.held (by simp)
  have c1 : w1.cell? ⟨w.heap.size, 1, none⟩ = some (.int .i64 s) := k1.held (by simp)
  have KH : Hid (Kp w w1) := ((Kp.refl w).alloc _).trans k1
  clear k1
  cases e1 : gg n s with
  | false =>
    have HF : Hid (X = (0, 4)) := HX.out.trans (if_neg (by simp [e1]))
    have hR : R = 4 := ER.out.trans (rf_not e1)
    subst hR
    clear e1 ER HX
    go_wp2
    go_ret2
    exact ⟨by rw [HF.out]; rfl, KH.out⟩
  | true =>
    obtain ⟨g1, g2, g3, g4⟩ := (gg_iff n s).1 e1
    by_cases hb : (0 ≤ t ∧ t < s) ∧ 0 ≤ m ∧ m < n
    · have HF : Hid (X = (cM n t m, 0)) := HX.out.trans ((if_pos e1).trans (if_pos hb))
      have hR : R = 0 := ER.out.trans (rf_in e1 ((inR_two _ _ _ _).2 hb))
      subst hR
      clear HX ER
      obtain ⟨⟨t1, t2⟩, m1, m2⟩ := hb
      have hC := colOn_any n s t m w1 (by omega) g2 t1 m1 m2
      unfold gV at hC
      obtain ⟨r, er⟩ : ∃ r, r = cM n t m := ⟨_, rfl⟩
      rw [← er] at hC HF
      clear e1 er
      go_wp2_with fail
      refine hC.mono ?_; rintro e w2 ⟨rfl, k2⟩
      have K2 := KH.out.trans k2
      clear hC k2 KH c0 c1
      go_wp2
      go_ret2
      exact ⟨by rw [HF.out]; rfl, K2⟩
    · have HF : Hid (X = (0, 3)) := HX.out.trans ((if_pos e1).trans (if_neg hb))
      have hR : R = 3 := ER.out.trans (rf_out e1 (by rw [(inR_two _ _ _ _)]; exact hb))
      subst hR
      clear e1 ER HX hb
      go_wp2
      go_ret2
      exact ⟨by rw [HF.out]; rfl, KH.out⟩
end Go.Proofs.Ytobpgfnmhpgkeaa
