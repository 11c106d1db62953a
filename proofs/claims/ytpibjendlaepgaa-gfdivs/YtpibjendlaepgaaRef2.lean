/-
  Contracts of the document's own quotient, power and logarithm (layer 2): for every input they are the plain ones, and they lay new blocks alone. No condition.
-/
import Derived.Test.YtpibjendlaepgaaWakes2
namespace Go.Proofs.Ytpibjendlaepgaa
open Go.RowKit Plain

set_option maxRecDepth 100000 in
set_option maxHeartbeats 2000000 in
theorem rexp_any (n : Int) (w : World) :
    Calls Try.prog 18 #[.int .i64 n] w fun e w' => e = .returned (.int .u8 (exN n : Nat)) ∧ Ext w w' := by
  have hx := ix_tmod n
  have hl := ix_lt n
  have HP : Hid (exN n = pw (ix n)) := rfl
  generalize ix n = k at *
  obtain ⟨t, ht⟩ : ∃ t, n.tmod 255 = t := ⟨_, rfl⟩
  rw [ht] at hx
  by_cases h0 : t < 0
  · rw [if_pos h0] at hx
    have e : t = (k : Int) - 255 := by omega
    subst e
    clear hx
    go_enter Try.func18, Try.ntmps18
    go_wp2
    go_loopw [4, 5] (fun X i wr => ∃ j : Nat, j ≤ k ∧ i = .int .i64 j ∧ X = .int .u8 (pw j : Nat) ∧ Ext w wr) (fun _ i _ => k - (intOf i).toNat)
    case atStart => exact ⟨0, by omega, rfl, rfl, Ext.refl w⟩
    case round =>
      obtain ⟨j, hj, rfl, rfl, hE⟩ := hrel
      have hp := (pw_pos j).2
      have HN : Hid (ml (pw j) 2 = pw (j + 1)) := by show ml (pw j) 2 = _; rw [ml_two _ hp]; rfl
      have HE : Hid (Ext w wr) := hE
      clear hE
      by_cases hlt : j < k
      · go_wp2_with fail
        refine (rmul_any (pw j) 2 hp (by omega) _).mono ?_; rintro e w1 ⟨rfl, hw1⟩
        have H1 : Hid (Ext wr w1) := hw1
        clear hw1
        go_wp2
        go_roundw
        case rel => exact ⟨j + 1, by omega, by go_num, by rw [HN.out], HE.out.trans H1.out⟩
        case measure => simp [intOf]; omega
      · obtain rfl : j = k := by omega
        go_wp2
        go_ret
        exact ⟨ret_int (by rw [HP.out]), HE.out⟩
  · rw [if_neg h0] at hx
    subst hx
    clear h0
    go_enter Try.func18, Try.ntmps18
    go_wp2
    go_loopw [4, 5] (fun X i wr => ∃ j : Nat, j ≤ k ∧ i = .int .i64 j ∧ X = .int .u8 (pw j : Nat) ∧ Ext w wr) (fun _ i _ => k - (intOf i).toNat)
    case atStart => exact ⟨0, by omega, rfl, rfl, Ext.refl w⟩
    case round =>
      obtain ⟨j, hj, rfl, rfl, hE⟩ := hrel
      have hp := (pw_pos j).2
      have HN : Hid (ml (pw j) 2 = pw (j + 1)) := by show ml (pw j) 2 = _; rw [ml_two _ hp]; rfl
      have HE : Hid (Ext w wr) := hE
      clear hE
      by_cases hlt : j < k
      · go_wp2_with fail
        refine (rmul_any (pw j) 2 hp (by omega) _).mono ?_; rintro e w1 ⟨rfl, hw1⟩
        have H1 : Hid (Ext wr w1) := hw1
        clear hw1
        go_wp2
        go_roundw
        case rel => exact ⟨j + 1, by omega, by go_num, by rw [HN.out], HE.out.trans H1.out⟩
        case measure => simp [intOf]; omega
      · obtain rfl : j = k := by omega
        go_wp2
        go_ret
        exact ⟨ret_int (by rw [HP.out]), HE.out⟩
theorem log_found (x j : Nat) (hj : j < 255) (h : pw j = x) : lgV x = j ∧ erV x = 0 := by
  have hp := (pw_pos j).1
  have h0 : x ≠ 0 := by omega
  refine ⟨?_, erV_pos x h0⟩
  rw [lgV_pos x h0, ← h]
  exact (pw_ok j hj).1
theorem log_none (x : Nat) (hx : x < 256) (h : ∀ t, t < 255 → pw t ≠ x) : lgV x = 0 ∧ erV x = 5 := by
  by_cases h0 : x = 0
  · rw [h0]; exact ⟨rfl, rfl⟩
  · exact absurd (pw_lg x hx h0) (h (lg x) (lg_lt x hx))
set_option maxRecDepth 100000 in
set_option maxHeartbeats 2000000 in
theorem rlog_any (x : Nat) (hx : x < 256) (w : World) :
    Calls Try.prog 16 #[.int .u8 x] w fun e w' => e = .returned (.tuple #[.int .i64 (lgV x : Nat), .int .i64 (erV x)]) ∧ Ext w w' := by
  go_enter Try.func16, Try.ntmps16
  go_wp2
  go_loopw [4, 5] (fun X i wr => ∃ j : Nat, j ≤ 255 ∧ i = .int .i64 j ∧ X = .int .u8 (pw j : Nat) ∧ (∀ t, t < j → pw t ≠ x) ∧ Ext w wr) (fun _ i _ => 255 - (intOf i).toNat)
  case atStart => exact ⟨0, by omega, rfl, rfl, fun t ht => absurd ht (by omega), Ext.refl w⟩
  case round =>
    obtain ⟨j, hj, rfl, rfl, hA, hE⟩ := hrel
    have hp := (pw_pos j).2
    have HN : Hid (ml (pw j) 2 = pw (j + 1)) := by show ml (pw j) 2 = _; rw [ml_two _ hp]; rfl
    have HE : Hid (Ext w wr) := hE
    have HA : Hid (∀ t, t < j → pw t ≠ x) := hA
    clear hE hA
    by_cases hlt : j < 255
    · by_cases hh : pw j = x
      · have HF : Hid (lgV x = j ∧ erV x = 0) := log_found x j hlt hh
        have ht : ((pw j : Int) == (x : Int)) = true := by rw [hh]; simp
        clear hh
        go_wp2
        go_ret2
        exact ⟨by rw [HF.out.1, HF.out.2]; rfl, HE.out⟩
      · have ht : ((pw j : Int) == (x : Int)) = false := by simp; omega
        have HH : Hid (pw j ≠ x) := hh
        clear hh
        go_wp2_with fail
        refine (rmul_any (pw j) 2 hp (by omega) _).mono ?_; rintro e w1 ⟨rfl, hw1⟩
        have H1 : Hid (Ext wr w1) := hw1
        clear hw1
        go_wp2
        go_roundw
        case rel =>
          refine ⟨j + 1, by omega, by go_num, by rw [HN.out], fun t ht => ?_, HE.out.trans H1.out⟩
          by_cases he : t = j
          · rw [he]; exact HH.out
          · exact HA.out t (by omega)
        case measure => simp [intOf]; omega
    · obtain rfl : j = 255 := by omega
      have HF : Hid (lgV x = 0 ∧ erV x = 5) := log_none x hx HA.out
      go_wp2
      go_ret2
      exact ⟨by rw [HF.out.1, HF.out.2]; rfl, HE.out⟩
set_option maxRecDepth 100000 in
set_option maxHeartbeats 2000000 in
theorem rdiv_any (x y : Nat) (hx : x < 256) (hy : y < 256) (w : World) :
    Calls Try.prog 14 #[.int .u8 x, .int .u8 y] w fun e w' => e = .returned (.tuple #[.int .u8 (dvV x y : Nat), .int .i64 (erV y)]) ∧ Ext w w' := by
  by_cases hy0 : y = 0
  · subst hy0
    go_enter Try.func14, Try.ntmps14
    go_wp2
    go_ret2
    exact ⟨rfl, Ext.refl w⟩
  have ey : ((y : Int) == 0) = false := by simp; omega
  have HY : Hid (y ≠ 0) := hy0
  clear hy0
  go_enter Try.func14, Try.ntmps14
  go_wp2
  go_loopw [6] (fun i wr => ∃ j : Nat, j ≤ 256 ∧ i = .int .i64 j ∧ (∀ t, t < j → ml t y ≠ x) ∧ Ext w wr) (fun i _ => 256 - (intOf i).toNat)
  case atStart => exact ⟨0, by omega, rfl, fun t ht => absurd ht (by omega), Ext.refl w⟩
  case round =>
    obtain ⟨j, hj, rfl, hA, hE⟩ := hrel
    have HE : Hid (Ext w wr) := hE
    have HA : Hid (∀ t, t < j → ml t y ≠ x) := hA
    clear hE hA
    by_cases hlt : j < 256
    · go_wp2_with fail
      refine (rmul_any j y hlt hy _).mono ?_; rintro e w1 ⟨rfl, hw1⟩
      have H1 : Hid (Ext wr w1) := hw1
      clear hw1
      by_cases hh : ml j y = x
      · have HF : Hid (dvV x y = j ∧ erV y = 0) := ⟨by rw [dvV_pos x y HY.out]; exact (dv_only j x y hlt hy HY.out hh).symm, erV_pos y HY.out⟩
        have ht : ((ml j y : Int) == (x : Int)) = true := by rw [hh]; simp
        clear hh
        go_wp2
        go_ret2
        exact ⟨by rw [HF.out.1, HF.out.2]; rfl, HE.out.trans H1.out⟩
      · have ht : ((ml j y : Int) == (x : Int)) = false := by simp; omega
        have HH : Hid (ml j y ≠ x) := hh
        clear hh
        go_wp2
        go_roundw
        case rel =>
          refine ⟨j + 1, by omega, by go_num, fun t ht => ?_, HE.out.trans H1.out⟩
          by_cases he : t = j
          · rw [he]; exact HH.out
          · exact HA.out t (by omega)
        case measure => simp [intOf]; omega
    · exact absurd (dv_back x y hx hy HY.out) (HA.out (dv x y) (by have := dv_lt x y; omega))

end Go.Proofs.Ytpibjendlaepgaa
