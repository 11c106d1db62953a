/-
  AheadPlays: for every input the law answers true, and its arguments read as before. No condition.
-/
import Derived.Test.YtpeckfeiaomieaaRows
import Derived.Test.YtpeckfeiaomieaaBufArgs
import Derived.Test.YtpeckfeiaomieaaAhBoth
import Derived.Test.YtpeckfeiaomieaaAhArgs
import Derived.WalkKit
import Derived.ProofKit
import Derived.OpenShut
import Derived.ShutString
import Derived.Deep.QuietTactic
import Derived.BigQuiet
import Derived.Deep.RegionWith
import Derived.Deep.RegionHeld3
import Derived.Deep.DeepCutAuto
import Derived.Deep.CutBlock
namespace Go.Proofs.Ytpeckfeiaomieaa.aheadPlays
open Go.ChangeShapes Go.WideShapes Go.ChangeAt Go.RowKit
open Go.ChangeMaps (open_string shut_string)
open Go.Proofs.Ytpeckfeiaomieaa Plain
set_option linter.unusedVariables false

theorem own : ownKnob Try.prog.godebug = none := by kernel_rfl
theorem laidOut : laidOutB Try.prog = true := by kernel_rfl
theorem cellsI : Try.prog.cellsOf 3 = 1 := by kernel_rfl
theorem cellsK : Try.prog.cellsOf 22 = 3 := by kernel_rfl
set_option maxRecDepth 100000 in
set_option maxHeartbeats 8000000 in
theorem walk (w : World) (a0 b0 c0 : Int) (a1 : Value) (l1 : List Int) (w0 : (Lit.int .i64 a0).wf = true) (x0 : (Lit.int .i64 b0).wf = true) (y0 : (Lit.int .i64 c0).wf = true) (w1 : IlIn w a1 l1) :
    Calls Try.prog 3 #[.agg #[.int .i64 a0, .int .i64 b0, .int .i64 c0], a1] w fun e w' => e = .returned (.bool true) ∧ Kp w w' := by
  clear w0 x0 y0
  have hmax := @imax Try.prog
  have hmin2 : ∀ ts t (x : Int) W, (Builtin.min_ ts t #[.int .i64 x, .int .i64 1099511627776]).run Try.prog W = .ok (.int .i64 (min x 1099511627776)) W := fun ts t x W => imin ts t x _ W
  obtain ⟨B, hB0⟩ : ∃ x, x = 1 + max 0 a0 % 200 := ⟨_, rfl⟩
  obtain ⟨R, hR0⟩ : ∃ x, x = 1 + max 0 b0 % 32 := ⟨_, rfl⟩
  obtain ⟨M, hM0⟩ : ∃ x, x = 1 + max 0 c0 % 64 := ⟨_, rfl⟩
  obtain ⟨pa, pg, po, pc, rfl, hA⟩ := w1
  obtain ⟨ln, hln⟩ : ∃ ln, ln = l1.length := ⟨_, rfl⟩
  have hp1 := hA.le
  have hp2 := hA.mx
  unfold maxLen at hp2
  rw [← hln] at hp1 ⊢
  have hpa : 0 < ln → pa = some ⟨pg, po, none⟩ := by rw [hln]; exact hA.ha
  have HPC : Hid (∀ V, Kp w V → ∀ i, i < ln → V.cell? ⟨pg, po + i, none⟩ = some (.int .i64 (l1.getD i 0))) := fun V k i hi => k.held (hA.c i (by omega))
  clear hA hln
  obtain ⟨kk, ekk⟩ : ∃ k, k = min ln 80 := ⟨_, rfl⟩
  have hmin : ∀ ts t W, (Builtin.min_ ts t #[.int .i64 (ln : Int), .int .i64 80]).run Try.prog W = .ok (.int .i64 (kk : Int)) W := fun ts t W => by
    rw [imin ts t _ _ W]
    congr 2
    omega
  have hk1 : kk ≤ ln := by omega
  have hk80 : kk ≤ 80 := by omega
  clear ekk
  obtain ⟨W, hW⟩ : ∃ W, W = w.alloc (.cells #[.int .i64 a0, .int .i64 b0, .int .i64 c0] 22) := ⟨_, rfl⟩
  obtain ⟨H, hH⟩ : ∃ H, H = w.heap.size := ⟨_, rfl⟩
  have hB : W.heap[H]? = some (.cells #[.int .i64 a0, .int .i64 b0, .int .i64 c0] 22 (0, 0)) := by rw [hW, hH]; exact new_obj _ _ _
  have e0 := cell_of hB 0
  have e1 := cell_of hB 1
  have e2 := cell_of hB 2
  have HW : Hid (W = w.alloc (.cells #[.int .i64 a0, .int .i64 b0, .int .i64 c0] 22) ∧ H = w.heap.size) := ⟨hW, hH⟩
  have HK : Hid (Kp w W) := by rw [hW]; exact (Kp.refl w).alloc _
  have HS : Hid (B = 1 + max 0 a0 % 200 ∧ R = 1 + max 0 b0 % 32 ∧ M = 1 + max 0 c0 % 64) := ⟨hB0, hR0, hM0⟩
  clear hW hH hB hB0 hR0 hM0
  go_enter Try.func3, Try.ntmps3
  go_upto_region 1 with fail
  rw [← HW.out.1, ← HW.out.2]
  clear HW
  go_upto_region 2 with fail
  rw [← HS.out.1, ← HS.out.2.1, ← HS.out.2.2]
  clear HS e0 e1 e2 hmax
  obtain ⟨U, hU⟩ : ∃ U, U = W.alloc (.cells #[.int .i64 a0, .int .i64 b0, .int .i64 c0, .int .i64 B, .int .i64 R, .int .i64 M] 22) := ⟨_, rfl⟩
  obtain ⟨L, hL⟩ : ∃ L, L = W.heap.size := ⟨_, rfl⟩
  have hLb : U.heap[L]? = some (.cells #[.int .i64 a0, .int .i64 b0, .int .i64 c0, .int .i64 B, .int .i64 R, .int .i64 M] 22 (0, 0)) := by rw [hU, hL]; exact new_obj _ _ _
  have HKU : Hid (Kp w U) := by rw [hU]; exact HK.out.alloc _
  have HLb : Hid (∀ V, Kp U V → V.heap[L]? = some (.cells #[.int .i64 a0, .int .i64 b0, .int .i64 c0, .int .i64 B, .int .i64 R, .int .i64 M] 22 (0, 0))) := fun V k => (k.block L (heap_lt hLb)).trans hLb
  rw [← hU, ← hL]
  have u3 : Hid (∀ k : Nat, k ≤ 2 → k = 0 ∨ k = 1 ∨ k = 2) := fun k h => by omega
  clear hU hL hLb HK
  go_wp2_with fail
  go_loopw [6, 7, 8, 9, 10, 11, 13, 14, 15, 16, 17, 18, 38] (fun _ _ _ _ _ _ _ _ _ _ _ _ i wr => ∃ k : Nat, i = .int .i64 k ∧ k ≤ 2 ∧ Hid (Kp U wr)) (fun _ _ _ _ _ _ _ _ _ _ _ _ i _ => 2 - (intOf i).toNat)
  case atStart => exact ⟨0, rfl, by omega, Kp.refl U⟩
  case round =>
    obtain ⟨k, rfl, hk, HQ⟩ := hrel
    by_cases hlt : k < 2
    · go_upto_region 3 with fail
      go_cut [6] (fun s wx => ∃ p q r : Int, s = .pointer (some ⟨wr.heap.size, 0, none⟩) ∧ wx = wr.alloc (.cells #[.int .i64 p, .int .i64 q, .int .i64 r] 22))
      case first =>
        have hb := HLb.out wr HQ.out
        rcases u3.out k hk with rfl | rfl | rfl
        · have d0 := cell_of hb 0
          have d1 := cell_of hb 1
          have d2 := cell_of hb 2
          clear hb
          go_wp2_with fail
          go_meet
          exact ⟨a0, b0, c0, rfl, rfl⟩
        · have d3 := cell_of hb 3
          have d4 := cell_of hb 4
          have d5 := cell_of hb 5
          clear hb
          go_wp2_with fail
          go_meet
          exact ⟨B, R, M, rfl, rfl⟩
        · omega
      case rest =>
      obtain ⟨p, q, r, rfl, hwc⟩ := hcut
      obtain ⟨Y, hY⟩ : ∃ Y, Y = wr.heap.size := ⟨_, rfl⟩
      have hYb : wc.heap[Y]? = some (.cells #[.int .i64 p, .int .i64 q, .int .i64 r] 22 (0, 0)) := by rw [hwc, hY]; exact new_obj _ _ _
      have HK3 : Hid (Kp U wc ∧ wc.heap[Y]? = some (.cells #[.int .i64 p, .int .i64 q, .int .i64 r] 22 (0, 0))) := ⟨by rw [hwc]; exact HQ.out.alloc _, hYb⟩
      have c0' := cell_of hYb 0
      have c1' := cell_of hYb 1
      have c2' := cell_of hYb 2
      rw [← hY]
      clear hwc hY hYb HQ
      by_cases hok : newOk p q r
      · have HO := hid hok
        have hN := new_ok p q r hok wc
        clear hok
        go_wp2_with fail
        refine hN.mono ?_; rintro e w4 ⟨a, rfl, h4, k4, l4⟩
        have hY4 := (k4.block Y (heap_lt HK3.out.2)).trans HK3.out.2
        have c0' := cell_of hY4 0
        have c1' := cell_of hY4 1
        have c2' := cell_of hY4 2
        have hN2 := rnew_ok p q r HO.out w4
        have H4 : Hid (At w4 a (newS p q r) ∧ Kp wc w4 ∧ wc.heap.size ≤ a ∧ w4.heap[Y]? = some (.cells #[.int .i64 p, .int .i64 q, .int .i64 r] 22 (0, 0))) := ⟨h4, k4, l4, hY4⟩
        clear hN h4 k4 l4 hY4
        go_wp2_with fail
        refine hN2.mono ?_; rintro e w5 ⟨b, rfl, h5, k5, l5⟩
        have H5 : Hid (Bo U w5 a b (newS p q r) (newS p q r) [Y] ∧ w5.heap[Y]? = some (.cells #[.int .i64 p, .int .i64 q, .int .i64 r] 22 (0, 0))) :=
          ⟨Bo.new HK3.out.1 H4.out.1 H4.out.2.1 H4.out.2.2.1 HO.out h5 k5 l5 (by simp; exact heap_lt HK3.out.2), (k5.block Y (heap_lt H4.out.2.2.2)).trans H4.out.2.2.2⟩
        clear hN2 h5 k5 l5 c0' c1' c2' H4
        go_upto_region 10 with fail
        go_cut [78, 79, 80] (fun p qq i wx => ∃ a', p = .slice a' kk pc ∧ qq = .int .i64 (kk : Int) ∧ i = .int .i64 ((0 : Nat) : Int) ∧ (0 < kk → a' = some ⟨pg, po, none⟩) ∧ w5 = wx)
        case first =>
          by_cases h0 : 0 < ln
          · obtain rfl := hpa h0
            go_wp2_with fail
            go_meet
            exact ⟨_, rfl, rfl, rfl, fun _ => rfl, rfl⟩
          · have hn0 : ln = 0 := by omega
            subst hn0
            obtain rfl : kk = 0 := by omega
            cases pa with
            | none =>
              go_wp2_with fail
              go_meet
              exact ⟨_, rfl, rfl, rfl, fun h => absurd h (by omega), rfl⟩
            | some ad =>
              go_wp2_with fail
              go_meet
              exact ⟨_, rfl, rfl, rfl, fun h => absurd h (by omega), rfl⟩
        case rest =>
        obtain ⟨a', rfl, rfl, rfl, ha', rfl⟩ := hcut
        go_wp2_with fail
        go_loopw [9, 11, 13, 14, 15, 16, 17, 18, 80] (fun r9 at11 _ _ _ _ _ _ i wr => ∃ (j b : Nat) (z : Int) (S : AS), j ≤ kk ∧ i = .int .i64 j ∧ r9 = .pointer (some ⟨b, 0, none⟩) ∧ at11 = .int .i64 z ∧ Hid (Bo U wr a b S S [Y] ∧ wr.heap[Y]? = some (.cells #[.int .i64 p, .int .i64 q, .int .i64 r] 22 (0, 0)) ∧ S.B = p ∧ S.R = q ∧ S.M = r)) (fun _ _ _ _ _ _ _ _ i _ => kk - (intOf i).toNat)
        case atStart => exact ⟨0, b, 0, newS p q r, by omega, by go_num, rfl, rfl, H5.out.1, H5.out.2, rfl, rfl, rfl⟩
        case round =>
          clear H5
          obtain ⟨j, b, z, S, hj, rfl, rfl, rfl, HQ⟩ := hrel
          by_cases hjk : j < kk
          · obtain rfl := ha' (by omega)
            have c0 := HPC.out _ (HKU.out.trans HQ.out.1.k) j (by omega)
            obtain ⟨x, hx⟩ : ∃ x, x = l1.getD j 0 := ⟨_, rfl⟩
            rw [← hx] at c0
            clear hx
            by_cases h77 : x = 77
            · have h77b : (x == 77) = true := by simp [h77]
              have hR := HQ.out.1.reset
              have HSz := hid HQ.out.2.2
              have HYb := hid HQ.out.2.1
              clear h77 HQ
              go_wp2_with fail
              refine hR.mono ?_; rintro e w6 ⟨rfl, b6, l6⟩
              have hY6 := l6.at (by simp) HYb.out
              have c0' := cell_of hY6 0
              have c1' := cell_of hY6 1
              have c2' := cell_of hY6 2
              have hN := b6.rnew
              rw [show (newS S.B S.R S.M).B = p from HSz.out.1, show (newS S.B S.R S.M).R = q from HSz.out.2.1, show (newS S.B S.R S.M).M = r from HSz.out.2.2] at hN
              have HY6 := hid hY6
              clear hR b6 l6 hY6
              go_wp2_with fail
              refine hN.mono ?_; rintro e w7 ⟨b', rfl, b7, l7⟩
              have H7 : Hid (Bo U w7 a b' (newS p q r) (newS p q r) [Y] ∧ w7.heap[Y]? = some (.cells #[.int .i64 p, .int .i64 q, .int .i64 r] 22 (0, 0))) := ⟨by rw [HSz.out.1, HSz.out.2.1, HSz.out.2.2] at b7; exact b7, l7.at (by simp) HY6.out⟩
              clear hN b7 l7 c0' c1' c2'
              go_wp2
              go_roundw
              case rel => first | exact ⟨j + 1, b', z, newS p q r, by omega, by go_num, rfl, rfl, H7.out.1, H7.out.2, rfl, rfl, rfl⟩ | (repeat apply Exists.intro) <;> exact ⟨⟨j + 1, b', z, newS p q r, by omega, by go_num, rfl, rfl, H7.out.1, H7.out.2, rfl, rfl, rfl⟩, rfl⟩
              case measure => simp [intOf]; omega
            · have h77b : (x == 77) = false := by simp [h77]
              clear h77
              go_wp2_with fail
              refine (moved_any _ _ _).mono ?_; rintro e w6 ⟨z', rfl, k6⟩
              obtain ⟨b6, l6⟩ := HQ.out.1.kp k6
              have hY6 := l6.at (by simp) HQ.out.2.1
              have HSz := hid HQ.out.2.2
              have hN := b6.note z'
              have HY6 := hid hY6
              obtain ⟨F, hF⟩ : ∃ F, F = ntF S z' := ⟨_, rfl⟩
              obtain ⟨G, hG⟩ : ∃ F, F = ntT S z' := ⟨_, rfl⟩
              obtain ⟨ok, hk0⟩ : ∃ F, F = ntB S z' := ⟨_, rfl⟩
              rw [← hF, ← hG, ← hk0] at hN
              have HFG : Hid (F = ntF S z' ∧ G = ntT S z' ∧ ok = ntB S z') := ⟨hF, hG, hk0⟩
              clear k6 b6 l6 hY6 HQ hF hG hk0 c0
              go_wp2_with fail
              refine hN.mono ?_; rintro e w7 ⟨rfl, b7, l7⟩
              have hY7 := l7.at (by simp) HY6.out
              obtain ⟨V, hV⟩ : ∃ V, V = w7.alloc (.cells #[.int .i64 F, .int .i64 G] 34) := ⟨_, rfl⟩
              obtain ⟨T, hT⟩ : ∃ T, T = w7.heap.size := ⟨_, rfl⟩
              have kV : Kp w7 V := by rw [hV]; exact (Kp.refl w7).alloc _
              have hTb : V.heap[T]? = some (.cells #[.int .i64 F, .int .i64 G] 34 (0, 0)) := by rw [hV, hT]; exact new_obj _ _ _
              have b8 := b7.more kV (M := T) (by omega) (heap_lt hTb)
              have hY8 := (kV.block Y (heap_lt hY7)).trans hY7
              have hRn := b8.rnote z'
              rw [← HFG.out.1, ← HFG.out.2.1, ← HFG.out.2.2] at hRn
              have H8 : Hid (V.heap[T]? = some (.cells #[.int .i64 F, .int .i64 G] 34 (0, 0)) ∧ V.heap[Y]? = some (.cells #[.int .i64 p, .int .i64 q, .int .i64 r] 22 (0, 0))) := ⟨hTb, hY8⟩
              have HV : Hid (V = w7.alloc (.cells #[.int .i64 F, .int .i64 G] 34) ∧ T = w7.heap.size) := ⟨hV, hT⟩
              clear hN b7 l7 hY7 hV hT kV hTb b8 hY8 HY6
              go_upto_region 18 with fail
              rw [← HV.out.1, ← HV.out.2]
              clear HV
              go_wp2_with fail
              refine hRn.mono ?_; rintro e w9 ⟨rfl, b9, l9⟩
              have hT9 := l9.at (by simp) H8.out.1
              have hY9 := l9.at (by simp) H8.out.2
              obtain ⟨S', hS'⟩ : ∃ S', S' = ntS S z' := ⟨_, rfl⟩
              have hsz := nt_sz S z'
              rw [← hS'] at b9 hsz
              have H9 : Hid (Bo U w9 a b S' S' [Y] ∧ w9.heap[Y]? = some (.cells #[.int .i64 p, .int .i64 q, .int .i64 r] 22 (0, 0)) ∧ S'.B = p ∧ S'.R = q ∧ S'.M = r) := ⟨b9.less (by simp), hY9, hsz.1.trans HSz.out.1, hsz.2.1.trans HSz.out.2.1, hsz.2.2.trans HSz.out.2.2⟩
              have g0 := cell_of hT9 0
              have g1 := cell_of hT9 1
              have g4 := b9.two.c4
              have g5 := b9.two.c5
              simp only [List.getElem?_toArray, List.getElem?_cons_zero, List.getElem?_cons_succ] at g0 g1
              have hS1 : ∀ X, Kp w9 X → X.cell? ⟨T, 0, none⟩ = some (.int .i64 F) ∧ X.cell? ⟨T, 1, none⟩ = some (.int .i64 G) ∧ X.cell? ⟨b, 4, none⟩ = some (.int .i64 S'.r) ∧ X.cell? ⟨b, 5, none⟩ = some (.int .i64 S'.w) := fun X k => ⟨k.held g0, k.held g1, k.held g4, k.held g5⟩
              have hRu : ∀ X, Kp w9 X → Calls Try.prog 13 #[.pointer (some ⟨a, 0, none⟩)] X fun x w' => x = .returned (.int .i64 S'.r) ∧ Kp w9 w' := fun X k => by
                refine (run_any (H9.out.1.one.kp k)).mono ?_
                rintro e w' ⟨rfl, q⟩
                exact ⟨rfl, k.trans q⟩
              have hWi : ∀ X, Kp w9 X → Calls Try.prog 14 #[.pointer (some ⟨a, 0, none⟩)] X fun x w' => x = .returned (.int .i64 S'.w) ∧ Kp w9 w' := fun X k => by
                refine (window_any (H9.out.1.one.kp k)).mono ?_
                rintro e w' ⟨rfl, q⟩
                exact ⟨rfl, k.trans q⟩
              have hr1 : Kp w9 w9.drew := (Kp.refl w9).drew
              have hokb : (ok != ok) = false := by simp
              have hFb : (F != F) = false := by simp
              have hGb : (G != G) = false := by simp
              have hrb : (S'.r != S'.r) = false := by simp
              have hwb : (S'.w != S'.w) = false := by simp
              clear hRn b9 l9 hT9 hY9 hS' hsz H8 g0 g1 g4 g5
              go_upto_region 19 with fail
              go_region_held3 (fun X => X.cell? ⟨T, 0, none⟩ = some (.int .i64 F) ∧ X.cell? ⟨T, 1, none⟩ = some (.int .i64 G) ∧ X.cell? ⟨b, 4, none⟩ = some (.int .i64 S'.r) ∧ X.cell? ⟨b, 5, none⟩ = some (.int .i64 S'.w)) (exact hS1 _ (by assumption)) (first
                | (go_at_call 13; refine (hRu _ (by assumption)).mono ?_; rintro e x1 ⟨rfl, y1⟩)
                | (go_at_call 14; refine (hWi _ (by assumption)).mono ?_; rintro e x2 ⟨rfl, y2⟩))
              obtain ⟨b10, l10⟩ := H9.out.1.kp y2
              have H10 : Hid (Bo U x2 a b S' S' [Y] ∧ x2.heap[Y]? = some (.cells #[.int .i64 p, .int .i64 q, .int .i64 r] 22 (0, 0)) ∧ S'.B = p ∧ S'.R = q ∧ S'.M = r) := ⟨b10, l10.at (by simp) H9.out.2.1, H9.out.2.2⟩
              clear hS1 hRu hWi hr1 y1 y2 b10 l10 H9
              go_wp2
              go_roundw
              case rel => first | exact ⟨j + 1, b, z', S', by omega, by go_num, rfl, rfl, H10⟩ | (repeat apply Exists.intro) <;> exact ⟨⟨j + 1, b, z', S', by omega, by go_num, rfl, rfl, H10⟩, rfl⟩
              case measure => simp [intOf]; omega
          · have H6 : Hid (Kp U _) := hid HQ.out.1.k
            clear HQ
            go_wp2
            go_roundw
            case rel => first | exact ⟨k + 1, by go_num, by omega, H6⟩ | (repeat apply Exists.intro) <;> exact ⟨⟨k + 1, by go_num, by omega, H6⟩, rfl⟩
            case measure => simp [intOf]; omega
      · have hN := new_no p q r hok wc
        have HO := hid hok
        clear hok
        go_wp2_with fail
        refine hN.mono ?_; rintro e w4 ⟨rfl, k4⟩
        have hY4 := (k4.block Y (heap_lt HK3.out.2)).trans HK3.out.2
        have c0' := cell_of hY4 0
        have c1' := cell_of hY4 1
        have c2' := cell_of hY4 2
        have hN2 := rnew_no p q r HO.out w4
        have H4 := hid (HK3.out.1.trans k4)
        clear hN k4 hY4 HO
        go_wp2_with fail
        refine hN2.mono ?_; rintro e w5 ⟨rfl, k5⟩
        have H5 : Hid (Kp U w5) := H4.out.trans k5
        clear hN2 k5 c0' c1' c2' H4
        go_wp2
        go_roundw
        case rel => first | exact ⟨k + 1, by go_num, by omega, H5⟩ | (repeat apply Exists.intro) <;> exact ⟨⟨k + 1, by go_num, by omega, H5⟩, rfl⟩
        case measure => simp [intOf]; omega
    · have HKE : Hid (Kp w wr) := HKU.out.trans HQ.out
      clear HQ
      go_wp2_with fail
      refine (wakes_any _).mono ?_; rintro e w4 ⟨rfl, k4⟩
      have HKF := hid (HKE.out.trans k4)
      clear k4
      go_wp2
      go_ret
      exact ⟨rfl, HKF.out⟩

set_option maxRecDepth 100000 in
theorem lifted (os : Os) (started : os.Started) (H : Type) (enc : TypeId × Value → H) :
    ReturnsInHanded {} Try.checked os 3 .any (Rows.aheadPlaysSpec.pre6 enc Try.prog Try.f3 Rows.aheadPlaysRow.domain false) (Rows.aheadPlaysSpec.post enc Try.prog Try.f3 false true false false) := by
  refine returnsInHanded_of_change (C := Try.checked) own started (by kernel_rfl) Try.func3
    (ChangeSpec.witness6 (enc := enc) (C := Try.checked) false ⟨#[], #[.agg #[.int .i64 0, .int .i64 0, .int .i64 0], .slice none 0 0], []⟩ 8 (by kernel_rfl) (by kernel_rfl) (by kernel_rfl) (by kernel_rfl)) ?_
  intro W base args ds gs before hval0 hW hcnd _
  have hval : ∀ (j : Nat) t v, Try.f3.params[j]? = some t → args[j]? = some v → Value.okWide Try.prog W .any base t v := hval0
  have hW' := hW
  have hlt := hW.lt
  obtain ⟨p, q, hA0, hV, rfl, hfz, hnd⟩ := hW
  have hA : DataW.TrodAll enc Try.prog W 0 (fun _ => true) true Try.f3.params.toList args.toList ds p := hA0
  have hAk := hA
  rw [Try.params3] at hA hval
  obtain ⟨v0, vs0, d0, ds0, p0, q0, hargs, rfl, rfl, h0, r0⟩ := trodAll_cons hA
  obtain ⟨v1, vs1, d1, ds1, p1, q1, rfl, rfl, rfl, h1, r1⟩ := trodAll_cons r0
  obtain ⟨rfl, rfl, rfl⟩ := trodAll_nil r1
  obtain rfl : args = #[v0, v1] := by cases args; simp_all
  obtain ⟨rfl, rfl⟩ := trodVars_none hV
  obtain ⟨a0, b0, c0, rfl, w0, x0, y0⟩ := open_ints3 Try.underlying22 Try.underlying3 cellsI cellsK (hval 0 22 v0 rfl rfl) h0
  obtain ⟨l1, w1⟩ := open_ints22 (hval 1 23 v1 rfl rfl) h1
  clear hA0 hval0
  simp only [List.append_nil] at hW' hAk hlt
  refine (walk W a0 b0 c0 v1 l1 w0 x0 y0 w1).mono fun e W' ⟨he, hg⟩ => ?_
  subst he
  exact ⟨_, rfl, post_kp (pv := []) hW' (fun _ _ _ => (trodAll_cons_mk (shut_bool Try.underlying4 _) trodAll_mk0)) (fun sp hsp => trodAll_stays laidOut (by rw [Try.params3]; exact of_decide_eq_true (by kernel_rfl)) hAk (fun x hx => Below.same hg (hlt x hx)) hsp) (fun _ _ => rfl) (by simp) hg⟩

theorem over : Rows.aheadPlaysRow.holds Try.pinned (OpenSpec.ofChange Rows.aheadPlaysSpec) :=
  OpenClaim.holds_of_wide 3 Try.f3 rfl rfl rfl rfl rfl rfl rfl ⟨rfl, rfl, rfl, rfl, rfl⟩ rfl rfl rfl rfl rfl (by kernel_rfl) Try.func3 (by kernel_rfl)
    (of_decide_eq_true (by kernel_rfl)) (by unfold Func.isWrapper; first | (rw [if_pos (by decide +kernel)]; kernel_rfl) | (rw [if_neg (by decide +kernel)]; exact ⟨rfl, rfl⟩))
    (fun os started H enc _ => lifted os started H enc)

end Go.Proofs.Ytpeckfeiaomieaa.aheadPlays
namespace Go.Proofs.Ytpeckfeiaomieaa
theorem aheadPlays_holds : Rows.AheadPlaysSaid := aheadPlays.over
end Go.Proofs.Ytpeckfeiaomieaa
