/-
  Contract of the laws' function wakes (layer 3): it answers true. Two texts of a list. No condition.
-/
import Derived.Test.YtaiohofddlomlaaBufCut
import Derived.WalkKit
namespace Go.Proofs.Ytaiohofddlomlaa
open Go.RowKit Plain Go.BigFrame

theorem StrsIn.two {w : World} {v : Value} {A B : ByteArray} (h : StrsIn w v [A, B]) : ∃ b off cap, v = .slice (Option.some ⟨b, off, none⟩) 2 cap ∧ 2 ≤ cap ∧ cap ≤ 9223372036854775807 ∧ w.cell? ⟨b, off, none⟩ = Option.some (.string A) ∧ w.cell? ⟨b, off + 1, none⟩ = Option.some (.string B) := by
  obtain ⟨l, hl⟩ : ∃ l, l = [A, B] := ⟨_, rfl⟩
  rw [← hl] at h
  cases h with
  | empty a cap h => cases hl
  | some b off cap l h0 h1 h2 hc =>
    subst hl
    exact ⟨b, off, cap, rfl, h1, by unfold maxLen at h2; omega, hc 0 (by simp), hc 1 (by simp)⟩

theorem wk_add : resOf [⟨#[15]⟩, ⟨#[5]⟩] (addS [⟨#[15]⟩, ⟨#[5]⟩]) = ⟨#[10]⟩ := by decide +kernel
theorem wk_fold : resOf [⟨#[1]⟩, ⟨#[128]⟩] (foldS ⟨#[1]⟩ 2 ⟨#[128]⟩) = ⟨#[28]⟩ := by decide +kernel
theorem wk_double : resOf [⟨#[128]⟩, ⟨#[1]⟩] (foldS ⟨#[1]⟩ 2 ⟨#[128]⟩) = ⟨#[28]⟩ := by decide +kernel
theorem wk_scale : resOf [⟨#[128, 1]⟩] (scaleS 2 ⟨#[128, 1]⟩) = ⟨#[29, 2]⟩ := by decide +kernel
theorem wk_no : zs (noughtN 2) = ⟨#[0, 0]⟩ := by decide +kernel
theorem wf_add : fitE [⟨#[15]⟩, ⟨#[5]⟩] = 0 := by decide +kernel
theorem wf_fold : fitE [⟨#[1]⟩, ⟨#[128]⟩] = 0 := by decide +kernel
theorem wf_double : fitE [⟨#[128]⟩, ⟨#[1]⟩] = 0 := by decide +kernel
theorem wf_scale : fitE [⟨#[128, 1]⟩] = 0 := by decide +kernel
theorem tiny (a : Array UInt8) (h : a.size ≤ 2) : (ByteArray.mk a).size ≤ maxLen := by
  show a.size ≤ maxLen
  unfold maxLen; omega

set_option maxRecDepth 100000 in
set_option maxHeartbeats 4000000 in
theorem wakes_any (w : World) : Calls Try.prog 11 #[] w fun e w' => e = .returned (.bool true) ∧ Kp w w' := by
  have H1 := add_any _ [⟨#[15]⟩, ⟨#[5]⟩] (small2 (tiny _ (by decide)) (tiny _ (by decide))) _ (StrsIn.lit2 w ⟨#[15]⟩ ⟨#[5]⟩ 9)
  rw [wk_add, wf_add] at H1
  have H2 := fold_any ⟨#[1]⟩ (tiny _ (by decide)) 2 (by omega) ⟨#[128]⟩ (tiny _ (by decide))
  rw [wk_fold, wf_fold] at H2
  have H3 := double_any ⟨#[128]⟩ ⟨#[1]⟩ (tiny _ (by decide)) (tiny _ (by decide))
  rw [wk_double, wf_double] at H3
  have H4 := scale_any 2 (by omega) ⟨#[128, 1]⟩ (tiny _ (by decide))
  rw [wk_scale, wf_scale] at H4
  have H5 := noughts_any 2 (by omega) (by omega)
  rw [wk_no] at H5
  have K0 : Kp w (w.alloc (.cells #[.string ⟨#[15]⟩, .string ⟨#[5]⟩] 9)) := (Kp.refl w).alloc _
  go_enter Try.func11, Try.ntmps11
  go_wp2_with fail
  refine H1.mono ?_; rintro e w1 ⟨rfl, k1⟩
  have K1 := K0.trans k1
  clear H1 K0 k1
  go_wp2_with fail
  refine (H2 w1).mono ?_; rintro e w2 ⟨rfl, k2⟩
  have K2 := K1.trans k2
  clear H2 K1 k2
  go_wp2_with fail
  refine (H3 w2).mono ?_; rintro e w3 ⟨rfl, k3⟩
  have K3 := K2.trans k3
  clear H3 K2 k3
  go_wp2_with fail
  refine (H4 w3).mono ?_; rintro e w4 ⟨rfl, k4⟩
  have K4 := K3.trans k4
  clear H4 K3 k4
  go_wp2_with fail
  refine (H5 w4).mono ?_; rintro e w5 ⟨rfl, k5⟩
  have K5 := K4.trans k5
  clear H5 K4 k5
  go_wp2
  go_ret
  exact ⟨rfl, K5⟩

end Go.Proofs.Ytaiohofddlomlaa
