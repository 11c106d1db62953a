/-
  Contract of geom's Touched, for every geometry and every numbers. Condition: that the numbers are ints of 64 bits.
-/
import Derived.Test.YtbagjfmhaclaeaaGmRow
import Derived.Deep.RegionWith
import Derived.Deep.RegionHeld3
import Derived.Deep.DeepCutAuto
namespace Go.Proofs.Ytbagjfmhaclaeaa
open Go.RowKit Plain
set_option linter.unusedVariables false

theorem rf_cnt {n s x y u v : Int} (h : gg n s = true) (hl : ¬ (0 ≤ x ∧ x < y)) : rfE n s [(x, y), (u, v)] = 3 := rf_out h (fun hh => hl ((inR_two _ _ _ _).1 hh).1)
theorem OwnI.made (w : World) (base : Nat) (hb : base ≤ w.heap.size) : OwnI (w.alloc (.cells #[] 3)) base (.slice (some ⟨w.heap.size, 0, none⟩) 0 0) [] := World.ownsRow_made w #[] 0 hb (by unfold maxLen; omega) rfl
theorem tch_4 {n s f c : Int} (h : gg n s = false) : tch n s f c = ([], 4) := if_neg (by simp [h])
theorem tch_3 {n s f c : Int} (h : gg n s = true) (hb : ¬ ((0 ≤ f ∧ f ≤ (n - 2) * s) ∧ 0 ≤ c ∧ c ≤ (n - 2) * s - f)) : tch n s f c = ([], 3) := (if_pos h).trans (if_neg hb)
theorem tch_0 {n s f c : Int} (h : gg n s = true) (hb : (0 ≤ f ∧ f ≤ (n - 2) * s) ∧ 0 ≤ c ∧ c ≤ (n - 2) * s - f) : tch n s f c = (tL (n - 2) f c s.toNat, 0) := (if_pos h).trans (if_pos hb)
set_option maxRecDepth 100000 in
set_option maxHeartbeats 2000000 in
theorem touched_any (n s f c : Int) (w : World) : Calls Try.prog 29 #[gV n s, .int .i64 f, .int .i64 c] w fun e w' => ∃ v, e = .returned (.tuple #[v, .int .i64 (tch n s f c).2]) ∧ InI w' v (tch n s f c).1 ∧ Kp w w' := by
  obtain ⟨X, eX⟩ : ∃ X, X = tch n s f c := ⟨_, rfl⟩
  rw [← eX]
  have HX : Hid (X = tch n s f c) := eX
  clear eX
  have HB := blocks_any n s
  unfold gV at HB ⊢
  have hbb := bI_bd n s
  obtain ⟨B, eB⟩ : ∃ B, B = bI n s := ⟨_, rfl⟩
  rw [← eB] at HB hbb
  have EB : Hid (B = bI n s) := eB
  obtain ⟨b1, b2⟩ := hbb
  clear eB
  go_enter Try.func29, Try.ntmps29
  go_wp2_with fail
  refine (HB _).mono ?_; rintro e w1 ⟨rfl, k1⟩
  have c0 : w1.cell? ⟨w.heap.size, 0, none⟩ = some (.int .i64 n) := k1.held (by simp)
  have c1 : w1.cell? ⟨w.heap.size, 1, none⟩ = some (.int .i64 s) := k1.held (by simp)
  have K1 : Hid (Kp w w1) := ((Kp.refl w).alloc _).trans k1
  clear HB k1
  cases e1 : gg n s with
  | false =>
    have HF : Hid (X = ([], 4)) := HX.out.trans (tch_4 e1)
    have E1 : Hid (gg n s = false) := e1
    clear e1 HX EB
    go_wp2_with fail
    refine (refuse2b n s c _ f _ w1 _ w1.heap.size rfl).mono ?_; rintro e w2 ⟨rfl, k2⟩
    rw [rf_not E1.out]
    have K2 := K1.out.trans k2
    clear k2 c0 c1 E1
    go_wp2
    go_ret2
    exact ⟨.slice none 0 0, by rw [HF.out]; rfl, by rw [HF.out]; exact InI.nil _, K2⟩
  | true =>
    obtain ⟨g1, g2, g3, g4⟩ := (gg_iff n s).1 e1
    have eB : B = (n - 2) * s := EB.out.trans (if_pos e1)
    by_cases hc : 0 ≤ c ∧ c ≤ B
    · by_cases hf : 0 ≤ f ∧ f ≤ B - c
      · have HF : Hid (X = (tL (n - 2) f c s.toNat, 0)) := HX.out.trans (tch_0 e1 (by rw [← eB]; omega))
        have HR : Hid (rfE n s [(c, B + 1), (f, B - c + 1)] = 0) := rf_in e1 ((inR_two _ _ _ _).2 (by omega))
        obtain ⟨h1, h2⟩ := hc
        obtain ⟨h3, h4⟩ := hf
        have HD := data_any n s
        unfold gV at HD
        rw [show dI n s = n - 2 from if_pos e1] at HD
        obtain ⟨k, ek⟩ : ∃ k, k = n - 2 := ⟨_, rfl⟩
        rw [← ek] at HD HF eB
        have HEB : Hid (B = k * s) := eB
        have hk1 : 2 ≤ k := by omega
        have hk2 : k ≤ 30 := by omega
        clear HX e1 EB eB ek
        go_wp2_with fail
        refine (refuse2b n s c (B + 1) f (B - c + 1) w1 _ w1.heap.size rfl).mono ?_; rintro e w2 ⟨rfl, k2⟩
        rw [HR.out]
        have d0 := k2.held c0
        have d1 := k2.held c1
        have K2 : Hid (Kp w w2) := K1.out.trans k2
        clear k2 c0 c1 HR K1
        have HCE : Hid (∀ w', Kp w2 w' → w'.cell? ⟨w.heap.size, 0, none⟩ = some (.int .i64 n) ∧ w'.cell? ⟨w.heap.size, 1, none⟩ = some (.int .i64 s)) := fun w' k => ⟨k.held d0, k.held d1⟩
        have HST := TI.start (k := k) (f := f) (by omega) h3 c
        obtain ⟨T0, eT0⟩ : ∃ T0, T0 = (f / k).toNat := ⟨_, rfl⟩
        rw [← eT0] at HST
        have HT0 : Hid (TI k f T0 f ∧ tL k f c T0 = []) := HST
        have hT0 : T0 ≤ s.toNat := by
          have h5 : f ≤ s * k := by rw [Int.mul_comm, ← HEB.out]; omega
          have := Int.ediv_le_of_le_mul (a := f) (b := s) (c := k) (by omega) h5
          omega
        clear eT0 HST d0 d1
        go_wp2
        go_loopw [11, 10] (fun i q wr => ∃ (T : Nat) (b : Int), i = .int .i64 b ∧ T ≤ s.toNat ∧ 0 ≤ b ∧ b ≤ 1960 ∧ Hid (OwnI wr w2.heap.size q (tL k f c T)) ∧ Hid (TI k f T b) ∧ Kp w2 wr) (fun i _ _ => (f + c - intOf i).toNat)
        case atStart => exact ⟨T0, f, rfl, hT0, h3, by omega, by rw [HT0.out.2]; exact OwnI.made w2 w2.heap.size (Nat.le_refl _), HT0.out.1, (Kp.refl w2).alloc _⟩
        case round =>
          clear HT0 hT0
          obtain ⟨T, b, rfl, hT, hb0, hb1, HO, HI, hK⟩ := hrel
          obtain ⟨c0, c1⟩ := HCE.out _ hK
          by_cases hlt : b < f + c
          · obtain ⟨f1, f2, f3, f4⟩ := HI.out.facts (by omega) h3
            have hy := HI.out.yes (by omega) h3 hlt
            have HP : Hid (tL k f c (T + 1) = tL k f c T ++ [(T : Int)]) := tL_yes hy.1
            have HI2 : Hid (TI k f (T + 1) (b + (k - b % k))) := hy.2
            have hTs : T < s.toNat := by
              have := HI.out.lt (s := s) (by omega) h3 (by rw [← HEB.out]; omega)
              omega
            have t1 : b.tdiv k = (T : Int) := by rw [Int.tdiv_eq_ediv_of_nonneg hb0]; exact HI.out.dv
            have t2 : b.tmod k = b % k := Int.tmod_eq_emod_of_nonneg hb0
            have t3 : b / k = (T : Int) := HI.out.dv
            obtain ⟨r, er⟩ : ∃ r, r = b % k := ⟨_, rfl⟩
            rw [← er] at t2 HI2 f3 f4
            have er2 := er.symm
            have hk0 : (k == 0) = false := beq_eq_false_iff_ne.2 (by omega)
            have hl := tL_len k f c T
            have HL : Hid ((tL k f c T).length ≤ T) := hl
            clear er HI hy f1 f2 hl
            go_wp2_with fail
            refine (HD _).mono ?_; rintro e w3 ⟨rfl, k3⟩
            have HO3 : Hid (OwnI w3 w2.heap.size _ (tL k f c T)) := HO.out.kept k3
            have K3 : Kp w2 w3 := hK.trans k3
            clear HO k3 hK c0 c1
            go_wp2_with (at_builtin; refine wpList_append_int rfl _ _ rfl w2.heap.size _ (tL k f c T) rfl (HO3.out.alloc _) (T : Int) _ rfl (by rw [World.cell?_alloc_at _ _ _ _ rfl]; rfl) (by have := HL.out; omega) (by have := K3.size; simp; omega) ?_; intro u2 w4 ho2 hg2; have K4 : Hid (Kp w2 w4) := (K3.alloc _).grown hg2 (fun q hq => own_lt HO3.out q hq); have HO4 : Hid (OwnI w4 w2.heap.size u2 (tL k f c (T + 1))) := (by rw [HP.out]; exact ho2); clear ho2 hg2)
            obtain ⟨c0, c1⟩ := HCE.out _ K4.out
            have q0 := kpw_cell c0
            have q1 := kpw_cell c1
            clear c0 c1 HO3 K3
            refine wp_region_kp (by kernel_rfl) (by kernel_rfl) ?_
            repeat (first
              | go_big_quiet_skip
              | (go_big_quiet_want; go_big_quiet_op; go_big_quiet_on)
              | (go_big_quiet_want; go_big_quiet_op; apply Exists.intro; refine ⟨fun p => ?_, ?_⟩; (focus
                  first
                  | (go_at_call 12; exact kp_call (HD _))); go_big_quiet_on))
            refine wpQuiet_nil ?_
            rintro w5 ⟨p, rfl⟩
            go_wp2
            go_roundw
            case rel => exact ⟨T + 1, b + (k - r), by go_num, by omega, by omega, by omega, HO4.out.kept (kpw_kp w4 p), HI2, K4.out.trans (kpw_kp w4 p)⟩
            case measure => simp [intOf]; omega
          · have HE : Hid (tL k f c s.toNat = tL k f c T) := tL_stop (HI.out.no (by omega) hlt) _ hT
            have HO2 : Hid (InI wr _ (tL k f c T)) := HO.out.ints
            clear HI HO
            go_wp2
            go_ret2
            exact ⟨_, by rw [HF.out]; rfl, by rw [HF.out, HE.out]; exact HO2.out, K2.out.trans hK⟩
      · have HF : Hid (X = ([], 3)) := HX.out.trans (tch_3 e1 (by rw [← eB]; omega))
        have HR : Hid (rfE n s [(c, B + 1), (f, B - c + 1)] = 3) := rf_out e1 (fun hh => hf (by have := ((inR_two _ _ _ _).1 hh).2; omega))
        obtain ⟨h1, h2⟩ := hc
        clear HX EB eB e1 hf
        go_wp2_with fail
        refine (refuse2b n s c (B + 1) f (B - c + 1) w1 _ w1.heap.size rfl).mono ?_; rintro e w2 ⟨rfl, k2⟩
        rw [HR.out]
        have K2 := K1.out.trans k2
        clear k2 c0 c1 HR
        go_wp2
        go_ret2
        exact ⟨.slice none 0 0, by rw [HF.out]; rfl, by rw [HF.out]; exact InI.nil _, K2⟩
    · have HF : Hid (X = ([], 3)) := HX.out.trans (tch_3 e1 (by rw [← eB]; omega))
      have HR : Hid (∀ u v, rfE n s [(c, B + 1), (u, v)] = 3) := fun u v => rf_cnt e1 (fun hh => hc (by omega))
      clear HX EB eB e1 hc
      go_wp2_with fail
      refine (refuse2b n s c (B + 1) f _ w1 _ w1.heap.size rfl).mono ?_; rintro e w2 ⟨rfl, k2⟩
      rw [HR.out]
      have K2 := K1.out.trans k2
      clear k2 c0 c1 HR
      go_wp2
      go_ret2
      exact ⟨.slice none 0 0, by rw [HF.out]; rfl, by rw [HF.out]; exact InI.nil _, K2⟩

end Go.Proofs.Ytbagjfmhaclaeaa
