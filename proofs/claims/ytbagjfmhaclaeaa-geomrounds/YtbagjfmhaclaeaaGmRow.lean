/-
  Contracts of geom's Row and Touched, for every geometry and every numbers. No condition.
-/
import Derived.Test.YtbagjfmhaclaeaaGmFind
import Derived.Deep.RegionWith
import Derived.Deep.RegionHeld3
import Derived.Deep.DeepCutAuto
namespace Go.Proofs.Ytbagjfmhaclaeaa
open Go.RowKit Plain
set_option linter.unusedVariables false

theorem FI.congr2 {w : World} {base : Nat} {v : Value} {n : Nat} {f g : Nat → Int} (h : FI w base v n f) (e : ∀ j, j < n → f j = g j) : FI w base v n g := by
  have : ((List.range n).map fun i => Value.int .i64 (g i)) = (List.range n).map fun i => Value.int .i64 (f i) := List.map_congr_left fun i hi => by rw [e i (by simpa using hi)]
  unfold FI
  rw [this]
  exact h
theorem FI.made (w : World) (n : Nat) (hn : n ≤ 1000) : FI (w.alloc (.cells (madeCells #[.int .i64 0] n) 3)) w.heap.size (.slice (some ⟨w.heap.size, 0, none⟩) n n) n (fun _ => 0) := by
  refine ⟨by simp, .inr ⟨w.heap.size, n, _, rfl, Nat.le_refl _, heap_alloc_new w _, Nat.le_refl _, by unfold maxLen; omega, by rw [size_madeCells]; simp, ?_⟩⟩
  apply List.ext_getElem?
  intro i
  by_cases hi : i < n
  · simp [madeCells, hi, Nat.mod_one]
  · simp [madeCells, hi, Nat.mod_one]
theorem FI.ints {w : World} {base : Nat} {v : Value} {n : Nat} {f : Nat → Int} (h : FI w base v n f) : InI w v ((List.range n).map f) := by
  obtain ⟨a, cap, rfl, h1, h2, h3⟩ := h.shape
  by_cases h0 : 0 < n
  · obtain ⟨g, rfl, _⟩ := h3 h0
    exact ⟨_, g, cap, by simp, by simpa using h1, h2, fun _ => rfl, fun j hj => by
      have hj2 : j < n := by simpa using hj
      rw [h.at j hj2]; simp [List.getD_eq_getElem?_getD, hj2]⟩
  · obtain rfl : n = 0 := by omega
    exact ⟨a, 0, cap, rfl, by simp, h2, fun h => absurd h (by simp), fun j hj => absurd hj (by simp)⟩
theorem InI.nil (w : World) : InI w (.slice none 0 0) [] := ⟨none, 0, 0, rfl, by simp, by omega, fun h => absurd h (by simp), fun j hj => absurd hj (by simp)⟩
set_option maxRecDepth 100000 in
set_option maxHeartbeats 2000000 in
theorem row_any (n s t : Int) (w : World) : Calls Try.prog 25 #[gV n s, .int .i64 t] w fun e w' => ∃ v, e = .returned (.tuple #[v, .int .i64 (row n s t).2]) ∧ InI w' v (row n s t).1 ∧ Kp w w' := by
  obtain ⟨X, eX⟩ : ∃ X, X = row n s t := ⟨_, rfl⟩
  rw [← eX]
  have HX : Hid (X = row n s t) := eX
  clear eX
  unfold gV
  obtain ⟨R, eR⟩ : ∃ R, R = rfE n s [(t, s)] := ⟨_, rfl⟩
  have ER : Hid (R = rfE n s [(t, s)]) := eR
  clear eR
  go_enter Try.func25, Try.ntmps25
  go_wp2_with fail
  refine (refuse1b n s t s (w.alloc _) _ (w.heap.size + 1) (by simp)).mono ?_; rintro e w1 ⟨rfl, k1⟩
  rw [← ER.out]
  have c0 : w1.cell? ⟨w.heap.size, 0, none⟩ = some (.int .i64 n) := k1.held (by simp)
  have c1 : w1.cell? ⟨w.heap.size, 1, none⟩ = some (.int .i64 s) := k1.held (by simp)
  have KH : Hid (Kp w w1) := ((Kp.refl w).alloc _).trans k1
  clear k1
  cases e1 : gg n s with
  | false =>
    have HF : Hid (X = ([], 4)) := HX.out.trans (if_neg (by simp [e1]))
    have hR : R = 4 := ER.out.trans (rf_not e1)
    subst hR
    clear e1 ER HX
    go_wp2
    go_ret2
    exact ⟨.slice none 0 0, by rw [HF.out]; rfl, by rw [HF.out]; exact InI.nil _, KH.out⟩
  | true =>
    obtain ⟨g1, g2, g3, g4⟩ := (gg_iff n s).1 e1
    by_cases hb : 0 ≤ t ∧ t < s
    · have HF : Hid (X = (rowL n t, 0)) := HX.out.trans ((if_pos e1).trans (if_pos hb))
      have hR : R = 0 := ER.out.trans (rf_in e1 ((inR_one _ _).2 hb))
      subst hR
      obtain ⟨t1, t2⟩ := hb
      clear HX ER e1
      obtain ⟨N, rfl⟩ : ∃ N : Nat, n = N := ⟨n.toNat, by omega⟩
      have hN : N ≤ 32 := by omega
      have hmk : (Instr.makeSlice 34 (.int .i64 (N : Int)) (.int .i64 (N : Int))).run Try.prog w1 = .ok (.slice (some ⟨w1.heap.size, 0, none⟩) N N) (w1.alloc (.cells (madeCells #[.int .i64 0] N) 3)) := run_make_row' (P := Try.prog) 34 3 (.int .i64 0) 8 Try.underlying34 info_int rfl .i64 .i64 N (by omega) (by omega) w1
      have HM : Hid (FI (w1.alloc (.cells (madeCells #[.int .i64 0] N) 3)) w1.heap.size (.slice (some ⟨w1.heap.size, 0, none⟩) N N) N (rF N t 0)) := (FI.made w1 N (by omega)).congr2 (fun j _ => (rF_zero N t j (by omega)).symm)
      have K2 : Kp w1 (w1.alloc (.cells (madeCells #[.int .i64 0] N) 3)) := (Kp.refl w1).alloc _
      obtain ⟨W, hW⟩ : ∃ W, W = w1.alloc (.cells (madeCells #[.int .i64 0] N) 3) := ⟨_, rfl⟩
      rw [← hW] at hmk HM K2
      have C0 : Hid (∀ w', Kp w1 w' → w'.cell? ⟨w.heap.size, 0, none⟩ = some (.int .i64 (N : Int)) ∧ w'.cell? ⟨w.heap.size, 1, none⟩ = some (.int .i64 s)) := fun w' k => ⟨k.held c0, k.held c1⟩
      have d0 := K2.held c0
      clear hW
      go_wp2
      clear hmk d0 c0 c1
      go_loopw [24] (fun i wr => ∃ k : Nat, k ≤ N ∧ i = .int .i64 k ∧ Hid (FI wr w1.heap.size (.slice (some ⟨w1.heap.size, 0, none⟩) N N) N (rF N t k)) ∧ Kp w1 wr) (fun i _ => N - (intOf i).toNat)
      case atStart => exact ⟨0, by omega, rfl, HM, K2⟩
      case round =>
        clear HM K2
        obtain ⟨k, hk, rfl, HM, K2⟩ := hrel
        obtain ⟨c0, c1⟩ := C0.out _ K2
        by_cases hlt : k < N
        · have hC := colOn_any (N : Int) s t (k : Int) wr (by omega) (by omega) t1 (by omega) (by omega)
          unfold gV at hC
          have hcb := cM_bd t (k : Int) (n := (N : Int)) (by omega)
          obtain ⟨r, er⟩ : ∃ r : Nat, cM N t k = r := ⟨(cM N t k).toNat, by omega⟩
          have HST : Hid (∀ j, j < N → rF N t (k + 1) j = if j = r then (k : Int) else rF N t k j) := fun j hj => by
            have := rF_step N t k j (by omega) (by omega)
            rw [er] at this
            exact this
          rw [er] at hC hcb
          have hr : r < N := by omega
          clear er hcb
          go_wp2_with fail
          refine hC.mono ?_; rintro e w2 ⟨rfl, k2⟩
          have HM2 : Hid (FI w2 w1.heap.size (.slice (some ⟨w1.heap.size, 0, none⟩) N N) N (rF N t k)) := HM.out.kept k2
          have K3 : Kp w1 w2 := K2.trans k2
          have q0 := HM2.out.at r hr
          have q1 := HM2.out.z r
          clear hC HM k2 K2 c0 c1
          go_wp2
          go_roundw
          case rel => exact ⟨k + 1, by omega, by go_num, (HM2.out.set r k).congr2 (fun j hj => by rw [HST.out j hj]), K3.setB (Nat.le_refl _) _⟩
          case measure => simp [intOf]; omega
        · obtain rfl : k = N := by omega
          have HF2 : Hid (InI wr (.slice (some ⟨w1.heap.size, 0, none⟩) k k) (rowL k t)) := by
            have h1 := HM.out.ints
            rw [show (List.range k).map (rF k t k) = rowL k t from List.map_congr_left (fun j hj => rF_full k t j (by omega))] at h1
            exact h1
          clear HM
          go_wp2
          go_ret2
          exact ⟨_, by rw [HF.out]; rfl, by rw [HF.out]; exact HF2.out, KH.out.trans K2⟩
    · have HF : Hid (X = ([], 3)) := HX.out.trans ((if_pos e1).trans (if_neg hb))
      have hR : R = 3 := ER.out.trans (rf_out e1 (by rw [(inR_one _ _)]; exact hb))
      subst hR
      clear e1 ER HX hb
      go_wp2
      go_ret2
      exact ⟨.slice none 0 0, by rw [HF.out]; rfl, by rw [HF.out]; exact InI.nil _, KH.out⟩

end Go.Proofs.Ytbagjfmhaclaeaa
