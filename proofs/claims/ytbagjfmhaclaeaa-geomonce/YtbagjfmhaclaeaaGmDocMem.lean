/-
  Contracts of the document's Member, Column and Touched, for every geometry and every numbers. No condition.
-/
import Derived.Test.YtbagjfmhaclaeaaGmDocRow
import Derived.Test.YtbagjfmhaclaeaaGmTouch
import Derived.Deep.RegionWith
import Derived.Deep.RegionHeld3
import Derived.Deep.DeepCutAuto
namespace Go.Proofs.Ytbagjfmhaclaeaa
open Go.RowKit Plain
set_option linter.unusedVariables false

theorem InI.row {w : World} {v : Value} {n t : Int} (h : InI w v (rowL n t)) (hn : 4 ≤ n) : ∃ g N cap : Nat, n = N ∧ v = .slice (some ⟨g, 0, none⟩) N cap ∧ N ≤ cap ∧ cap ≤ 9223372036854775807 ∧ ∀ c : Nat, c < N → w.cell? ⟨g, c, none⟩ = some (.int .i64 (mM n t c)) := by
  obtain ⟨a, g, cap, rfl, h1, h2, h3, h4⟩ := h
  rw [rowL_len] at h1 h3 h4 ⊢
  obtain rfl := h3 (by omega)
  exact ⟨g, n.toNat, cap, by omega, rfl, h1, h2, fun c hc => by rw [h4 c hc, rowL_at n t c hc]⟩
set_option maxRecDepth 100000 in
set_option maxHeartbeats 2000000 in
theorem rmember_any (n s t c : Int) (w : World) : Calls Try.prog 22 #[gV n s, .int .i64 t, .int .i64 c] w fun e w' => e = .returned (pT (mem n s t c)) ∧ Kp w w' := by
  obtain ⟨X, eX⟩ : ∃ X, X = mem n s t c := ⟨_, rfl⟩
  rw [← eX]
  have HX : Hid (X = mem n s t c) := eX
  clear eX
  have hG := rrow_any n s t
  unfold gV at hG ⊢
  go_enter Try.func22, Try.ntmps22
  go_wp2_with fail
  refine (hG _).mono ?_; rintro e w1 ⟨v, rfl, hv, k1⟩
  have KH : Hid (Kp w w1) := ((Kp.refl w).alloc _).trans k1
  clear hG k1
  cases e1 : gg n s with
  | false =>
    have HF : Hid (X = (0, 4)) := HX.out.trans (if_neg (by simp [e1]))
    rw [show row n s t = ([], 4) from row_4 e1]
    clear e1 HX hv
    go_wp2
    go_ret2
    exact ⟨by rw [HF.out]; rfl, KH.out⟩
  | true =>
    have E1 : Hid (gg n s = true) := e1
    obtain ⟨g1, g2, g3, g4⟩ := (gg_iff n s).1 e1
    by_cases hb : 0 ≤ t ∧ t < s
    · rw [show row n s t = (rowL n t, 0) from row_0 e1 hb] at hv ⊢
      obtain ⟨g, N, cap, rfl, rfl, hc1, hc2, hcell⟩ := hv.row g1
      have HC : Hid (∀ c : Nat, c < N → w1.cell? ⟨g, c, none⟩ = some (.int .i64 (mM N t c))) := hcell
      have HB : Hid (0 ≤ t ∧ t < s) := hb
      clear e1 hv hcell hb
      by_cases h1 : 0 ≤ c
      · obtain ⟨C, rfl⟩ : ∃ C : Nat, c = C := ⟨c.toNat, by omega⟩
        by_cases h2 : C < N
        · have HF : Hid (X = (mM N t C, 0)) := HX.out.trans ((if_pos E1.out).trans (if_pos ⟨HB.out, by omega, by omega⟩))
          have c0 := HC.out C h2
          obtain ⟨r, er⟩ : ∃ r, r = mM N t C := ⟨_, rfl⟩
          rw [← er] at HF c0
          clear HX E1 HB HC er
          go_wp2
          go_ret2
          exact ⟨by rw [HF.out]; rfl, KH.out⟩
        · have HF : Hid (X = (0, 3)) := HX.out.trans ((if_pos E1.out).trans (if_neg (fun h => by omega)))
          clear HX E1 HB HC
          go_wp2
          go_ret2
          exact ⟨by rw [HF.out]; rfl, KH.out⟩
      · have HF : Hid (X = (0, 3)) := HX.out.trans ((if_pos E1.out).trans (if_neg (fun h => by omega)))
        clear HX E1 HB HC
        go_wp2
        go_ret2
        exact ⟨by rw [HF.out]; rfl, KH.out⟩
    · have HF : Hid (X = (0, 3)) := HX.out.trans ((if_pos e1).trans (if_neg (fun h => hb h.1)))
      rw [show row n s t = ([], 3) from row_3 e1 hb]
      clear e1 HX hv hb E1
      go_wp2
      go_ret2
      exact ⟨by rw [HF.out]; rfl, KH.out⟩
set_option maxRecDepth 100000 in
set_option maxHeartbeats 2000000 in
theorem rcolumn_any (n s t m : Int) (w : World) : Calls Try.prog 24 #[gV n s, .int .i64 t, .int .i64 m] w fun e w' => e = .returned (pT (col n s t m)) ∧ Kp w w' := by
  obtain ⟨X, eX⟩ : ∃ X, X = col n s t m := ⟨_, rfl⟩
  rw [← eX]
  have HX : Hid (X = col n s t m) := eX
  clear eX
  have hG := rrow_any n s t
  unfold gV at hG ⊢
  go_enter Try.func24, Try.ntmps24
  go_wp2_with fail
  refine (hG _).mono ?_; rintro e w1 ⟨v, rfl, hv, k1⟩
  have KH : Hid (Kp w w1) := ((Kp.refl w).alloc _).trans k1
  clear hG k1
  cases e1 : gg n s with
  | false =>
    have HF : Hid (X = (0, 4)) := HX.out.trans (if_neg (by simp [e1]))
    rw [show row n s t = ([], 4) from row_4 e1]
    clear e1 HX hv
    go_wp2
    go_ret2
    exact ⟨by rw [HF.out]; rfl, KH.out⟩
  | true =>
    have E1 : Hid (gg n s = true) := e1
    obtain ⟨g1, g2, g3, g4⟩ := (gg_iff n s).1 e1
    by_cases hb : 0 ≤ t ∧ t < s
    · rw [show row n s t = (rowL n t, 0) from row_0 e1 hb] at hv ⊢
      obtain ⟨g, N, cap, rfl, rfl, hc1, hc2, hcell⟩ := hv.row g1
      have HC : Hid (∀ c : Nat, c < N → w1.cell? ⟨g, c, none⟩ = some (.int .i64 (mM N t c))) := hcell
      have HB : Hid (0 ≤ t ∧ t < s) := hb
      clear e1 hv hcell hb
      go_wp2
      go_loopw [10] (fun i wr => ∃ C : Nat, C ≤ N ∧ i = .int .i64 C ∧ Hid (∀ j : Nat, j < C → mM N t j ≠ m) ∧ wr = w1) (fun i _ => N - (intOf i).toNat)
      case atStart => exact ⟨0, by omega, rfl, fun j hj => absurd hj (by omega), rfl⟩
      case round =>
        obtain ⟨C, hC, rfl, HN, rfl⟩ := hrel
        by_cases hlt : C < N
        · have c0 := HC.out C hlt
          by_cases he : mM N t C = m
          · have hm := mM_bd t (C : Int) (n := (N : Int)) (by omega)
            have HF : Hid (X = ((C : Int), 0)) := HX.out.trans ((if_pos E1.out).trans ((if_pos ⟨HB.out, by rw [← he]; exact hm⟩).trans (by rw [← he, cm_inv _ _ _ (by omega) (by omega)])))
            rw [he] at c0
            clear HX HN HC HB E1 hm he
            go_wp2
            go_ret2
            exact ⟨by rw [HF.out]; rfl, KH.out⟩
          · have HN2 : Hid (∀ j : Nat, j < C + 1 → mM N t j ≠ m) := fun j hj => by
              by_cases e : j = C
              · rw [e]; exact he
              · exact HN.out j (by omega)
            obtain ⟨r, er⟩ : ∃ r, r = mM N t C := ⟨_, rfl⟩
            rw [← er] at c0 he
            have he2 : (r == m) = false := beq_eq_false_iff_ne.2 he
            clear HN er he
            go_wp2
            go_roundw
            case rel => exact ⟨C + 1, by omega, by go_num, HN2, by trivial⟩
            case measure => simp [intOf]; omega
        · obtain rfl : C = N := by omega
          have HF : Hid (X = (0, 3)) := HX.out.trans ((if_pos E1.out).trans (if_neg (fun h => by
            have hcb := cM_bd t m (n := (C : Int)) (by omega)
            refine HN.out (cM C t m).toNat (by omega) ?_
            rw [show (((cM C t m).toNat : Nat) : Int) = cM C t m by omega]
            exact mc_inv _ _ _ h.2.1 h.2.2)))
          clear HX HN HC HB E1
          go_wp2
          go_ret2
          exact ⟨by rw [HF.out]; rfl, KH.out⟩
    · have HF : Hid (X = (0, 3)) := HX.out.trans ((if_pos e1).trans (if_neg (fun h => hb h.1)))
      rw [show row n s t = ([], 3) from row_3 e1 hb]
      clear e1 HX hv hb E1
      go_wp2
      go_ret2
      exact ⟨by rw [HF.out]; rfl, KH.out⟩
theorem tP_iff {k f c : Int} {T : Nat} {a : Int} (ha : a = (T : Int) * k) : tP k f c T = decide (0 < c ∧ a < f + c ∧ f < a + k) := by rw [ha]; rfl
set_option maxRecDepth 100000 in
set_option maxHeartbeats 2000000 in
theorem rtouched_any (n s f c : Int) (w : World) : Calls Try.prog 30 #[gV n s, .int .i64 f, .int .i64 c] w fun e w' => ∃ v, e = .returned (.tuple #[v, .int .i64 (tch n s f c).2]) ∧ InI w' v (tch n s f c).1 ∧ Kp w w' := by
  obtain ⟨X, eX⟩ : ∃ X, X = tch n s f c := ⟨_, rfl⟩
  rw [← eX]
  have HX : Hid (X = tch n s f c) := eX
  clear eX
  have hG := rgood_any n s
  have hBl := rblocks_any n s
  unfold gV at hG hBl ⊢
  go_enter Try.func30, Try.ntmps30
  go_wp2_with fail
  refine (hG _).mono ?_; rintro e w1 ⟨rfl, k1⟩
  have c0 : w1.cell? ⟨w.heap.size, 0, none⟩ = some (.int .i64 n) := k1.held (by simp)
  have c1 : w1.cell? ⟨w.heap.size, 1, none⟩ = some (.int .i64 s) := k1.held (by simp)
  have KH : Hid (Kp w w1) := ((Kp.refl w).alloc _).trans k1
  clear k1
  clear hG
  cases e1 : gg n s with
  | false =>
    have HF : Hid (X = ([], 4)) := HX.out.trans (tch_4 e1)
    clear e1 HX hBl
    go_wp2
    go_ret2
    exact ⟨.slice none 0 0, by rw [HF.out]; rfl, by rw [HF.out]; exact InI.nil _, KH.out⟩
  | true =>
    have E1 : Hid (gg n s = true) := e1
    obtain ⟨g1, g2, g3, g4⟩ := (gg_iff n s).1 e1
    have hbb := bI_bd n s
    obtain ⟨B, eB⟩ : ∃ B, B = bI n s := ⟨_, rfl⟩
    rw [← eB] at hBl hbb
    have EB : Hid (B = (n - 2) * s) := eB.trans (if_pos e1)
    obtain ⟨b1, b2⟩ := hbb
    clear e1 eB
    go_wp2_with fail
    refine (hBl _).mono ?_; rintro e w2 ⟨rfl, k2⟩
    have d0 := k2.held c0
    have d1 := k2.held c1
    have K2 : Hid (Kp w w2) := KH.out.trans k2
    clear hBl k2 KH c0 c1
    obtain ⟨w1, hw1⟩ : ∃ w1, w1 = w2 := ⟨_, rfl⟩
    rw [← hw1] at K2 d0 d1 ⊢
    have KH := K2
    clear hw1 K2
    by_cases h1 : 0 ≤ f
    · by_cases h2 : f ≤ B
      · by_cases h3 : 0 ≤ c
        · by_cases h4 : c ≤ B - f
          · have HF : Hid (X = (tL (n - 2) f c s.toNat, 0)) := HX.out.trans (tch_0 E1.out (by rw [← EB.out]; omega))
            have C0 : Hid (∀ w', Kp w1 w' → w'.cell? ⟨w.heap.size, 0, none⟩ = some (.int .i64 n) ∧ w'.cell? ⟨w.heap.size, 1, none⟩ = some (.int .i64 s)) := fun w' k => ⟨k.held d0, k.held d1⟩
            clear HX E1 EB
            obtain ⟨S, rfl⟩ : ∃ S : Nat, s = S := ⟨s.toNat, by omega⟩
            rw [show ((S : Nat) : Int).toNat = S by omega] at HF
            go_wp2
            clear d0 d1
            go_loopw [11, 10] (fun i q wr => ∃ T : Nat, T ≤ S ∧ i = .int .i64 T ∧ Hid (OwnI wr w1.heap.size q (tL (n - 2) f c T)) ∧ Kp w1 wr) (fun i _ _ => S - (intOf i).toNat)
            case atStart => exact ⟨0, by omega, rfl, World.ownsRow_nil _ _ _ _, Kp.refl w1⟩
            case round =>
              obtain ⟨T, hT, rfl, HO, k2⟩ := hrel
              obtain ⟨c0, c1⟩ := C0.out _ k2
              by_cases hlt : T < S
              · obtain ⟨a0, a1⟩ := mul_64 (a := (T : Int)) (b := n - 2) (by omega) (by omega) (by omega) (by omega)
                obtain ⟨a, ea⟩ : ∃ a, (T : Int) * (n - 2) = a := ⟨_, rfl⟩
                rw [ea] at a0 a1
                have HP : Hid (tP (n - 2) f c T = decide (0 < c ∧ a < f + c ∧ f < a + (n - 2))) := tP_iff ea.symm
                have HL : Hid ((tL (n - 2) f c T).length ≤ T) := tL_len _ _ _ _
                by_cases p1 : 0 < c
                · by_cases p2 : a < f + c
                  · by_cases p3 : f < a + n - 2
                    · have HR : Hid (tL (n - 2) f c (T + 1) = tL (n - 2) f c T ++ [(T : Int)]) := tL_yes (HP.out.trans (decide_eq_true ⟨p1, p2, by omega⟩))
                      clear HP
                      go_wp2_with (at_builtin; refine wpList_append_int rfl _ _ rfl w1.heap.size _ (tL (n - 2) f c T) rfl (HO.out.alloc _) ((T : Int)) _ rfl (by rw [World.cell?_alloc_at _ _ _ _ rfl]; rfl) (by have := HL.out; omega) (by have := k2.size; simp; omega) ?_; intro u2 w4 ho2 hg2; have K4 : Kp w1 w4 := (k2.alloc _).grown hg2 (fun q hq => own_lt HO.out q hq); have HOw4 : Hid (OwnI w4 w1.heap.size u2 (tL (n - 2) f c T ++ [(T : Int)])) := ho2; clear ho2 hg2)
                      go_roundw
                      case rel => exact ⟨T + 1, by omega, by go_num, by rw [HR.out]; exact HOw4, K4⟩
                      case measure => simp [intOf]; omega
                    · have HR : Hid (tL (n - 2) f c (T + 1) = tL (n - 2) f c T) := tL_no (HP.out.trans (decide_eq_false (by omega)))
                      clear HP
                      go_wp2
                      go_roundw
                      case rel => exact ⟨T + 1, by omega, by go_num, by rw [HR.out]; exact HO, k2⟩
                      case measure => simp [intOf]; omega
                  · have HR : Hid (tL (n - 2) f c (T + 1) = tL (n - 2) f c T) := tL_no (HP.out.trans (decide_eq_false (by omega)))
                    clear HP
                    go_wp2
                    go_roundw
                    case rel => exact ⟨T + 1, by omega, by go_num, by rw [HR.out]; exact HO, k2⟩
                    case measure => simp [intOf]; omega
                · have HR : Hid (tL (n - 2) f c (T + 1) = tL (n - 2) f c T) := tL_no (HP.out.trans (decide_eq_false (by omega)))
                  clear HP
                  go_wp2
                  go_roundw
                  case rel => exact ⟨T + 1, by omega, by go_num, by rw [HR.out]; exact HO, k2⟩
                  case measure => simp [intOf]; omega
              · obtain rfl : T = S := by omega
                have HO2 : Hid (InI wr _ (tL (n - 2) f c T)) := HO.out.ints
                clear HO
                go_wp2
                go_ret2
                exact ⟨_, by rw [HF.out]; rfl, by rw [HF.out]; exact HO2.out, KH.out.trans k2⟩
          · have HF : Hid (X = ([], 3)) := HX.out.trans (tch_3 E1.out (by rw [← EB.out]; omega))
            clear HX E1 EB
            go_wp2
            go_ret2
            exact ⟨.slice none 0 0, by rw [HF.out]; rfl, by rw [HF.out]; exact InI.nil _, KH.out⟩
        · have HF : Hid (X = ([], 3)) := HX.out.trans (tch_3 E1.out (by rw [← EB.out]; omega))
          clear HX E1 EB
          go_wp2
          go_ret2
          exact ⟨.slice none 0 0, by rw [HF.out]; rfl, by rw [HF.out]; exact InI.nil _, KH.out⟩
      · have HF : Hid (X = ([], 3)) := HX.out.trans (tch_3 E1.out (by rw [← EB.out]; omega))
        clear HX E1 EB
        go_wp2
        go_ret2
        exact ⟨.slice none 0 0, by rw [HF.out]; rfl, by rw [HF.out]; exact InI.nil _, KH.out⟩
    · have HF : Hid (X = ([], 3)) := HX.out.trans (tch_3 E1.out (by rw [← EB.out]; omega))
      clear HX E1 EB
      go_wp2
      go_ret2
      exact ⟨.slice none 0 0, by rw [HF.out]; rfl, by rw [HF.out]; exact InI.nil _, KH.out⟩

end Go.Proofs.Ytbagjfmhaclaeaa
