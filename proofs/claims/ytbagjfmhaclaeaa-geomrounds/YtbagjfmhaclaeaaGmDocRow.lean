/-
  Contracts of the document's Row, Member and Column, for every geometry and every numbers. No condition.
-/
import Derived.Test.YtbagjfmhaclaeaaGmRow
import Derived.Deep.RegionWith
import Derived.Deep.RegionHeld3
import Derived.Deep.DeepCutAuto
namespace Go.Proofs.Ytbagjfmhaclaeaa
open Go.RowKit Plain
set_option linter.unusedVariables false

/-- the member ahead of the column c. -/
def mm (n t : Int) (c : Nat) : Int := if c = 0 then nxt n (pM n t) else mM n t ((c - 1 : Nat) : Int)
theorem mm_zero (n t : Int) : mm n t 0 = nxt n (pM n t) := rfl
theorem mm_succ (n t : Int) (c : Nat) : mm n t (c + 1) = mM n t c := by unfold mm; rw [if_neg (by omega)]; simp
theorem mm_next (n t : Int) (c : Nat) (hn : 0 < n) : nxt n (mm n t c) = mM n t c := by
  cases c with
  | zero => rw [mm_zero]; exact (mM_first n t hn).symm
  | succ c => rw [mm_succ, Int.natCast_add]; exact (mM_next n t c hn).symm
theorem mm_bd (n t : Int) (c : Nat) (hn : 0 < n) : 0 ≤ mm n t c ∧ mm n t c < n := by
  cases c with
  | zero => have := pM_bd t hn; exact nxt_bd n _ this.1 this.2
  | succ c => rw [mm_succ]; exact mM_bd t c hn
theorem row_4 {n s t : Int} (hg : gg n s = false) : row n s t = ([], 4) := if_neg (by simp [hg])
theorem row_3 {n s t : Int} (hg : gg n s = true) (h : ¬ (0 ≤ t ∧ t < s)) : row n s t = ([], 3) := (if_pos hg).trans (if_neg h)
theorem row_0 {n s t : Int} (hg : gg n s = true) (h : 0 ≤ t ∧ t < s) : row n s t = (rowL n t, 0) := (if_pos hg).trans (if_pos h)
set_option maxRecDepth 100000 in
set_option maxHeartbeats 2000000 in
theorem rrow_any (n s t : Int) (w : World) : Calls Try.prog 26 #[gV n s, .int .i64 t] w fun e w' => ∃ v, e = .returned (.tuple #[v, .int .i64 (row n s t).2]) ∧ InI w' v (row n s t).1 ∧ Kp w w' := by
  obtain ⟨X, eX⟩ : ∃ X, X = row n s t := ⟨_, rfl⟩
  rw [← eX]
  have HX : Hid (X = row n s t) := eX
  clear eX
  have hG := rgood_any n s
  unfold gV at hG ⊢
  go_enter Try.func26, Try.ntmps26
  go_wp2_with fail
  refine (hG _).mono ?_; rintro e w1 ⟨rfl, k1⟩
  have c0 : w1.cell? ⟨w.heap.size, 0, none⟩ = some (.int .i64 n) := k1.held (by simp)
  have c1 : w1.cell? ⟨w.heap.size, 1, none⟩ = some (.int .i64 s) := k1.held (by simp)
  have KH : Hid (Kp w w1) := ((Kp.refl w).alloc _).trans k1
  clear k1
  clear hG
  cases e1 : gg n s with
  | false =>
    have HF : Hid (X = ([], 4)) := HX.out.trans (row_4 e1)
    clear e1 HX
    go_wp2
    go_ret2
    exact ⟨.slice none 0 0, by rw [HF.out]; rfl, by rw [HF.out]; exact InI.nil _, KH.out⟩
  | true =>
    have E1 : Hid (gg n s = true) := e1
    obtain ⟨g1, g2, g3, g4⟩ := (gg_iff n s).1 e1
    clear e1
    by_cases h1 : 0 ≤ t
    · by_cases h2 : t < s
      · have HF : Hid (X = (rowL n t, 0)) := HX.out.trans (row_0 E1.out ⟨h1, h2⟩)
        obtain ⟨T, rfl⟩ : ∃ T : Nat, t = T := ⟨t.toNat, by omega⟩
        have hTT : T ≤ 64 := by omega
        have C0 : Hid (∀ w', Kp w1 w' → w'.cell? ⟨w.heap.size, 0, none⟩ = some (.int .i64 n) ∧ w'.cell? ⟨w.heap.size, 1, none⟩ = some (.int .i64 s)) := fun w' k => ⟨k.held c0, k.held c1⟩
        clear HX E1
        go_wp2
        clear c0 c1
        go_loopw [8, 7] (fun i q wr => ∃ (I : Nat) (p : Int), I ≤ T ∧ i = .int .i64 I ∧ q = .int .i64 p ∧ Hid (p = pM n I) ∧ 0 ≤ p ∧ p < n ∧ wr = w1) (fun i _ _ => T - (intOf i).toNat)
        case atStart => exact ⟨0, n - 1, by omega, rfl, rfl, by show n - 1 = pM n ((0 : Nat) : Int); exact (pM_zero n).symm, by omega, by omega, rfl⟩
        case round =>
          obtain ⟨I, p, hI, rfl, rfl, HP, hp0, hp1, rfl⟩ := hrel
          obtain ⟨c0, c1⟩ := C0.out _ (Kp.refl _)
          by_cases hlt : I < T
          · have hs := pM_step n I (by omega) (by omega)
            rw [← HP.out] at hs
            by_cases hz : p - 1 < 0
            · rw [if_pos hz] at hs
              have HP2 : Hid (n - 1 = pM n ((I + 1 : Nat) : Int)) := hs.symm
              clear hs HP
              go_wp2
              go_roundw
              case rel => exact ⟨I + 1, n - 1, by omega, by go_num, by go_num, HP2, by omega, by omega, by trivial⟩
              case measure => simp [intOf]; omega
            · rw [if_neg hz] at hs
              have HP2 : Hid (p - 1 = pM n ((I + 1 : Nat) : Int)) := hs.symm
              clear hs HP
              go_wp2
              go_roundw
              case rel => exact ⟨I + 1, p - 1, by omega, by go_num, by go_num, HP2, by omega, by omega, by trivial⟩
              case measure => simp [intOf]; omega
          · obtain rfl : I = T := by omega
            have hN := next_any n s p wr (by omega) g2 hp0 hp1
            unfold gV at hN
            obtain ⟨q, eq⟩ : ∃ q, q = nxt n p := ⟨_, rfl⟩
            have hqb := nxt_bd n p hp0 hp1
            rw [← eq] at hN hqb
            rw [HP.out] at eq
            have HQ : Hid (q = nxt n (pM n I)) := eq
            obtain ⟨hq0, hq1⟩ := hqb
            obtain ⟨w1, hw1⟩ : ∃ w1, w1 = wr := ⟨_, rfl⟩
            rw [← hw1] at C0 hN KH c0 c1 ⊢
            clear eq hw1
            obtain ⟨K, hK⟩ : ∃ K : Nat, n - 2 = K := ⟨(n - 2).toNat, by omega⟩
            have hK2 : K ≤ 30 := by omega
            go_wp2_with fail
            refine hN.mono ?_; rintro e w2 ⟨rfl, k2⟩
            clear hN c0 c1
            go_wp2
            go_loopw [12, 11, 10] (fun i u m wr => ∃ (C : Nat) (M : Int), C ≤ K ∧ i = .int .i64 C ∧ m = .int .i64 M ∧ Hid (M = mm n I C) ∧ 0 ≤ M ∧ M < n ∧ Hid (OwnI wr w1.heap.size u (rT n I C)) ∧ Kp w1 wr) (fun i _ _ _ => K - (intOf i).toNat)
            case atStart => exact ⟨0, q, by omega, rfl, rfl, HQ, hq0, hq1, World.ownsRow_nil _ _ _ _, k2⟩
            case round =>
              clear k2
              obtain ⟨C, M, hC, rfl, rfl, HM, hm0, hm1, HO, k2⟩ := hrel
              obtain ⟨c0, c1⟩ := C0.out _ k2
              by_cases hlt2 : C < K
              · have hN := next_any n s M wr (by omega) g2 hm0 hm1
                unfold gV at hN
                obtain ⟨Y, eY⟩ : ∃ Y, Y = nxt n M := ⟨_, rfl⟩
                have hYb := nxt_bd n M hm0 hm1
                rw [← eY] at hN hYb
                rw [HM.out, mm_next n I C (by omega)] at eY
                have HY : Hid (Y = mM n I C) := eY
                have HY2 : Hid (Y = mm n I (C + 1)) := by rw [mm_succ]; exact eY
                have HR : Hid (rT n I (C + 1) = rT n I C ++ [Y]) := by rw [eY]; exact rT_succ n I C
                have hl : (rT n I C).length ≤ 30 := by rw [rT_len]; omega
                have HL : Hid ((rT n I C).length ≤ 30) := hl
                obtain ⟨hy0, hy1⟩ := hYb
                clear eY hl HM
                go_wp2_with fail
                refine hN.mono ?_; rintro e w3 ⟨rfl, k3⟩
                have HO3 : Hid (OwnI w3 w1.heap.size _ (rT n I C)) := HO.out.kept k3
                have K3 : Kp w1 w3 := k2.trans k3
                clear hN HO k3 k2 c0 c1
                go_wp2_with (at_builtin; refine wpList_append_int rfl _ _ rfl w1.heap.size _ (rT n I C) rfl (HO3.out.alloc _) (Y) _ rfl (by rw [World.cell?_alloc_at _ _ _ _ rfl]; rfl) (by have := HL.out; omega) (by have := K3.size; simp; omega) ?_; intro u2 w4 ho2 hg2; have K4 : Kp w1 w4 := (K3.alloc _).grown hg2 (fun q hq => own_lt HO3.out q hq); have HOw4 : Hid (OwnI w4 w1.heap.size u2 (rT n I C ++ [Y])) := ho2; clear ho2 hg2)
                go_roundw
                case rel => exact ⟨C + 1, Y, by omega, by go_num, rfl, HY2, hy0, hy1, by rw [HR.out]; exact HOw4, K4⟩
                case measure => simp [intOf]; omega
              · obtain rfl : C = K := by omega
                have hl : (rT n I C).length ≤ 30 := by rw [rT_len]; omega
                have HL : Hid ((rT n I C).length ≤ 30) := hl
                have HE : Hid (rT n I C ++ [p] ++ [q] = rowL n I) := by rw [HP.out, HQ.out]; exact rT_full n I C g1 hK.symm
                clear hl HM
                go_wp2_with (first
                  | (at_builtin; refine wpList_append_int rfl _ _ rfl w1.heap.size _ (rT n I C) rfl (HO.out.alloc _) (p) _ rfl (by rw [World.cell?_alloc_at _ _ _ _ rfl]; rfl) (by have := HL.out; omega) (by have := k2.size; simp; omega) ?_; intro u2 w4 ho2 hg2; have K4 : Kp w1 w4 := (k2.alloc _).grown hg2 (fun q hq => own_lt HO.out q hq); have HOw4 : Hid (OwnI w4 w1.heap.size u2 (rT n I C ++ [p])) := ho2; clear ho2 hg2)
                  | (at_builtin; refine wpList_append_int rfl _ _ rfl w1.heap.size _ (rT n I C ++ [p]) rfl (HOw4.out.alloc _) (q) _ rfl (by rw [World.cell?_alloc_at _ _ _ _ rfl]; rfl) (by have := HL.out; rw [List.length_append]; simp; omega) (by have := K4.size; simp; omega) ?_; intro u3 w5 ho2 hg2; have K5 : Kp w1 w5 := (K4.alloc _).grown hg2 (fun q hq => own_lt HOw4.out q hq); have HOw5 : Hid (OwnI w5 w1.heap.size u3 (rT n I C ++ [p] ++ [q])) := ho2; clear ho2 hg2))
                go_ret2
                have hfin := HOw5.out.ints
                rw [HE.out] at hfin
                exact ⟨_, by rw [HF.out]; rfl, by rw [HF.out]; exact hfin, KH.out.trans K5⟩
      · have HF : Hid (X = ([], 3)) := HX.out.trans (row_3 E1.out (by omega))
        clear HX E1
        go_wp2
        go_ret2
        exact ⟨.slice none 0 0, by rw [HF.out]; rfl, by rw [HF.out]; exact InI.nil _, KH.out⟩
    · have HF : Hid (X = ([], 3)) := HX.out.trans (row_3 E1.out (by omega))
      clear HX E1
      go_wp2
      go_ret2
      exact ⟨.slice none 0 0, by rw [HF.out]; rfl, by rw [HF.out]; exact InI.nil _, KH.out⟩

end Go.Proofs.Ytbagjfmhaclaeaa
