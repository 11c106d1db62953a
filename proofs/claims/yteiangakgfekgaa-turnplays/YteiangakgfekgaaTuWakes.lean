/-
  Contract of the laws' wakes. No condition.
-/
import Derived.Test.YteiangakgfekgaaTuArgs
import Derived.Deep.DeepCutAuto
import Derived.Deep.CutBlock
import Derived.Deep.RegionHeld3
namespace Go.Proofs.Yteiangakgfekgaa
open Go.RowKit Plain
set_option linter.unusedVariables false

def wkS (k : Nat) : TS := ⟨[1, 2, 3].take k, [], 4, 2, fun _ => false, 0⟩
theorem wk_add (k : Nat) (hk : k < 3) : adE (wkS k) ((k : Int) + 1) = 0 ∧ adS (wkS k) ((k : Int) + 1) = wkS (k + 1) := by
  have h : k = 0 ∨ k = 1 ∨ k = 2 := by omega
  rcases h with rfl | rfl | rfl <;> exact ⟨by decide, by rw [ad_ok (by decide)]; rfl⟩
def wk1 : TS := ⟨[2, 3], [1], 4, 2, fun _ => false, 0⟩
def wk2 : TS := ⟨[3], [1, 2], 4, 2, fun _ => false, 0⟩
def wk3 : TS := ⟨[1], [2, 3], 4, 2, fun _ => false, 0⟩
theorem wk_t1 : inT (wkS 3) 1 = true ∧ toS (wkS 3) 1 = wk1 := ⟨by decide, rfl⟩
theorem wk_t2 : inT wk1 2 = true ∧ toS wk1 2 = wk2 := ⟨by decide, rfl⟩
theorem wk_t3 : inT wk2 3 = true ∧ toS wk2 3 = wk3 := ⟨by decide, rfl⟩
theorem wk_row (k : Nat) (hk : k < 3) : (#[Value.int .i64 1, Value.int .i64 2, Value.int .i64 3] : Array Value)[k]? = some (.int .i64 ((k : Int) + 1)) := by
  have h : k = 0 ∨ k = 1 ∨ k = 2 := by omega
  rcases h with rfl | rfl | rfl <;> rfl
set_option maxRecDepth 100000 in
set_option maxHeartbeats 4000000 in
theorem wakes_any (w : World) : Calls Try.prog 9 #[] w fun e w' => e = .returned (.bool true) ∧ Kp w w' := by
  have hN := Tu.new (m := 4) (d := 2) ⟨by omega, by omega, by omega, by omega⟩ w
  go_enter Try.func9, Try.ntmps9
  go_wp2_with fail
  refine hN.mono ?_; rintro e w1 ⟨a, rfl, u1⟩
  clear hN
  obtain ⟨W, hW⟩ : ∃ W, W = w1.alloc (.cells #[.int .i64 1, .int .i64 2, .int .i64 3] 3) := ⟨_, rfl⟩
  obtain ⟨B, hB⟩ : ∃ B, B = w1.heap.size := ⟨_, rfl⟩
  have kW : Kp w1 W := by rw [hW]; exact (Kp.refl w1).alloc _
  have hBo : W.heap[B]? = some (.cells #[.int .i64 1, .int .i64 2, .int .i64 3] 3 (0, 0)) := by rw [hW, hB]; exact new_obj _ _ _
  have H0 : Hid (Tu w W a (wkS 0) [B] ∧ W.heap[B]? = some (.cells #[.int .i64 1, .int .i64 2, .int .i64 3] 3 (0, 0))) := ⟨u1.more kW (by omega) (heap_lt hBo), hBo⟩
  have HW : Hid (W = w1.alloc (.cells #[.int .i64 1, .int .i64 2, .int .i64 3] 3) ∧ B = w1.heap.size) := ⟨hW, hB⟩
  clear hW hB kW hBo u1
  go_upto_region 3 with fail
  rw [← HW.out.1, ← HW.out.2]
  clear HW
  go_loopw [4, 17] (fun _ i wr => ∃ k : Nat, i = .int .i64 k ∧ k ≤ 3 ∧ Hid (Tu w wr a (wkS k) [B] ∧ wr.heap[B]? = some (.cells #[.int .i64 1, .int .i64 2, .int .i64 3] 3 (0, 0)))) (fun _ i _ => 3 - (intOf i).toNat)
  case atStart => exact ⟨0, rfl, by omega, H0⟩
  case round =>
    clear H0
    obtain ⟨k, rfl, hk, HQ⟩ := hrel
    by_cases hk3 : k < 3
    · have d0 := cell_of HQ.out.2 k
      rw [wk_row k hk3] at d0
      have hA := HQ.out.1.add (k := (k : Int) + 1) (by unfold iOk; omega)
      obtain ⟨e1, e2⟩ := wk_add k hk3
      rw [e1, e2] at hA
      obtain ⟨x, hx⟩ : ∃ x, x = (k : Int) + 1 := ⟨_, rfl⟩
      rw [← hx] at d0 hA
      have hk4 : (k : Int) < 3 := by omega
      clear hx e1 e2
      go_wp2_with fail
      refine hA.mono ?_; rintro e w2 ⟨rfl, u2, l2⟩
      have HQ2 : Hid (Tu w w2 a (wkS (k + 1)) [B] ∧ w2.heap[B]? = some (.cells #[.int .i64 1, .int .i64 2, .int .i64 3] 3 (0, 0))) := ⟨u2, l2.at (by simp) HQ.out.2⟩
      clear hA u2 l2 d0 HQ
      go_wp2
      go_roundw
      case rel => exact ⟨k + 1, by go_num, by omega, HQ2⟩
      case measure => simp [intOf]; omega
    · obtain rfl : k = 3 := by omega
      have hT := (HQ.out.1.less (X' := []) (by simp)).touch 1
      rw [wk_t1.1, wk_t1.2] at hT
      clear HQ
      go_wp2_with fail
      refine hT.mono ?_; rintro e w2 ⟨rfl, u2, _⟩
      have hO := u2.order
      clear hT
      go_wp2_with fail
      refine hO.mono ?_; rintro e w3 ⟨v, rfl, ho, k3⟩
      obtain ⟨U, hU⟩ : ∃ U, U = w3.alloc (.cells #[.int .i64 2, .int .i64 3, .int .i64 1] 3) := ⟨_, rfl⟩
      have kU : Kp w3 U := by rw [hU]; exact (Kp.refl w3).alloc _
      have hE := equal_any v (.slice (some ⟨w3.heap.size, 0, none⟩) 3 3) (wk1.P ++ wk1.D) [2, 3, 1] U (ho.ints.kept kU) (by rw [hU]; exact InI.lit (l := [2, 3, 1]) (by simp) (by simp)) (by simp [wk1]) (by simp)
      rw [show decide (wk1.P ++ wk1.D = [2, 3, 1]) = true from by decide] at hE
      have HU := hid (u2.kp (k3.trans kU)).1
      obtain ⟨pv, nv', cv, rfl⟩ := ho.slc
      rw [hU] at hE HU
      clear hO ho k3 u2 hU kU
      go_wp2_with fail
      refine hE.mono ?_; rintro e w4 ⟨rfl, k4⟩
      have hT := ((HU.out.kp k4).1).touch 2
      rw [wk_t2.1, wk_t2.2] at hT
      clear hE HU k4
      go_wp2_with fail
      refine hT.mono ?_; rintro e w5 ⟨rfl, u5, _⟩
      have hT2 := u5.touch 3
      rw [wk_t3.1, wk_t3.2] at hT2
      clear hT u5
      go_wp2_with fail
      refine hT2.mono ?_; rintro e w6 ⟨rfl, u6, _⟩
      have hL := u6.len
      have H6 := hid u6
      clear hT2 u6
      go_wp2_with fail
      refine hL.mono ?_; rintro e w7 ⟨rfl, k7⟩
      have u7 := (H6.out.kp k7).1
      have hO := u7.order
      have H7 := hid u7
      rw [show ((wk3.P.length : Int) + (wk3.D.length : Int)) = 3 from rfl, show (wk3.D.length : Int) = 2 from rfl]
      clear hL k7 u7 H6
      go_wp2_with fail
      refine hO.mono ?_; rintro e w8 ⟨v, rfl, ho, k8⟩
      obtain ⟨U, hU⟩ : ∃ U, U = w8.alloc (.cells #[.int .i64 1, .int .i64 2, .int .i64 3] 3) := ⟨_, rfl⟩
      have kU : Kp w8 U := by rw [hU]; exact (Kp.refl w8).alloc _
      have hE := equal_any v (.slice (some ⟨w8.heap.size, 0, none⟩) 3 3) (wk3.P ++ wk3.D) [1, 2, 3] U (ho.ints.kept kU) (by rw [hU]; exact InI.lit (l := [1, 2, 3]) (by simp) (by simp)) (by simp [wk3]) (by simp)
      rw [show decide (wk3.P ++ wk3.D = [1, 2, 3]) = true from by decide] at hE
      have HK := hid (H7.out.k.trans (k8.trans kU))
      obtain ⟨pv, nv', cv, rfl⟩ := ho.slc
      rw [hU] at hE HK
      clear hO ho k8 H7 hU kU
      go_wp2_with fail
      refine hE.mono ?_; rintro e w9 ⟨rfl, k9⟩
      have HE := hid (HK.out.trans k9)
      clear hE k9 HK
      go_wp2
      go_ret
      exact ⟨by simp, HE.out⟩

end Go.Proofs.Yteiangakgfekgaa
