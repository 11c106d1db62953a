/-
  The contract of the laws' function wakes (layer 6): it answers a table whose tables are made, and true. No condition.
-/
import Derived.Test.YtkkffgoeagnfnaaCrcMeth
namespace Go.Proofs.Ytkkffgoeagnfnaa
open Go.RowKit Plain

theorem Kp.trd {w w1 w2 : World} {b : Nat} (h : Kp w w1) (k : Trd b w1 w2) (hb : w.heap.size ≤ b) : Kp w w2 := k.kp w h hb
def t9 : ByteArray := ⟨#[49, 50, 51, 52, 53, 54, 55, 56, 57]⟩
def t4 : ByteArray := ⟨#[49, 50, 51, 52]⟩
def t5 : ByteArray := ⟨#[53, 54, 55, 56, 57]⟩
theorem wk9 : smN (bf t9) t9.size = 3421780262 := by decide +kernel
theorem wk_jn : jnV (smN (bf t4) t4.size) (smN (bf t5) t5.size) 5 = 3421780262 := by decide +kernel
theorem sum9 (b : Nat) (w : World) (h : Fresh w b ∨ Ready w b) :
    Calls Try.prog 12 #[.pointer (some ⟨b, 0, none⟩), .string ⟨#[49, 50, 51, 52, 53, 54, 55, 56, 57]⟩] w fun e w' => e = .returned (.int .u32 3421780262) ∧ Ready w' b ∧ Tr2 b w w' := by
  have c := sum_any b t9 (by decide +kernel) w h
  rw [wk9] at c; exact c
theorem slow9 (w : World) :
    Calls Try.prog 10 #[.string ⟨#[49, 50, 51, 52, 53, 54, 55, 56, 57]⟩] w fun e w' => e = .returned (.int .u32 3421780262) ∧ w' = w := by
  have c := slow_any t9 (by decide +kernel) w
  rw [wk9] at c; exact c
theorem sum4 (b : Nat) (w : World) (h : Fresh w b ∨ Ready w b) :
    Calls Try.prog 12 #[.pointer (some ⟨b, 0, none⟩), .string ⟨#[49, 50, 51, 52]⟩] w fun e w' => e = .returned (.int .u32 (smN (bf t4) t4.size : Nat)) ∧ Ready w' b ∧ Tr2 b w w' :=
  sum_any b t4 (by decide +kernel) w h
theorem sum5 (b : Nat) (w : World) (h : Fresh w b ∨ Ready w b) :
    Calls Try.prog 12 #[.pointer (some ⟨b, 0, none⟩), .string ⟨#[53, 54, 55, 56, 57]⟩] w fun e w' => e = .returned (.int .u32 (smN (bf t5) t5.size : Nat)) ∧ Ready w' b ∧ Tr2 b w w' :=
  sum_any b t5 (by decide +kernel) w h
set_option maxRecDepth 100000 in
set_option maxHeartbeats 2000000 in
theorem wakes_any (w : World) : Calls Try.prog 9 #[] w fun e w' => e = .returned (.tuple #[.pointer (some ⟨w.heap.size, 0, none⟩), .bool true]) ∧ Ready w' w.heap.size ∧ Kp w w' := by
  have HJ : Hid (jnV (smN (bf t4) t4.size) (smN (bf t5) t5.size) 5 = 3421780262) := wk_jn
  have l4 := smN_lt (bf t4) (bf_lt t4) t4.size
  have l5 := smN_lt (bf t5) (bf_lt t5) t5.size
  obtain ⟨S4, h4⟩ : ∃ x, smN (bf t4) t4.size = x := ⟨_, rfl⟩
  obtain ⟨S5, h5⟩ : ∃ x, smN (bf t5) t5.size = x := ⟨_, rfl⟩
  rw [h4, h5] at HJ
  rw [h4] at l4
  rw [h5] at l5
  have H4 : Hid (smN (bf t4) t4.size = S4) := h4
  have H5 : Hid (smN (bf t5) t5.size = S5) := h5
  clear h4 h5
  go_enter Try.func9, Try.ntmps9
  go_wp2_with fail
  refine (new_any w).mono ?_; rintro e w1 ⟨rfl, hw1⟩
  have hF : Fresh w1 w.heap.size := by rw [hw1]; exact new_table w _
  have hP : Kp w w1 := by rw [hw1]; exact (Kp.refl w).alloc _
  clear hw1
  go_wp2_with fail
  refine (made_any w.heap.size 0 0 0 no0 no0 _ hF).mono ?_; rintro e w' ⟨rfl, rfl⟩
  go_wp2_with fail
  refine (sum9 w.heap.size _ (Or.inl hF)).mono ?_; rintro e w2 ⟨rfl, hR, hT⟩
  have hP2 := hP.trd hT.trd (Nat.le_refl _)
  clear hT hP hF
  go_wp2_with fail
  refine (made_any w.heap.size 1 0 1 tb8 mv8 _ hR).mono ?_; rintro e w' ⟨rfl, rfl⟩
  go_wp2_with fail
  refine (slow9 _).mono ?_; rintro e w' ⟨rfl, rfl⟩
  go_wp2_with fail
  refine (sum4 w.heap.size _ (Or.inr hR)).mono ?_; rintro e w3 ⟨rfl, hR3, hT⟩
  have hP3 := hP2.trd hT.trd (Nat.le_refl _)
  rw [H4.out]
  clear hT hP2 hR
  go_wp2_with fail
  refine (sum5 w.heap.size _ (Or.inr hR3)).mono ?_; rintro e w4 ⟨rfl, hR4, hT⟩
  have hP4 := hP3.trd hT.trd (Nat.le_refl _)
  rw [H5.out]
  clear hT hP3 hR3
  go_wp2_with fail
  refine (join_any w.heap.size S4 S5 l4 l5 5 (by omega) _ (Or.inr hR4)).mono ?_; rintro e w5 ⟨rfl, hR5, hT⟩
  have hP5 := hP4.trd hT.trd (Nat.le_refl _)
  rw [HJ.out]
  clear hT hP4 hR4
  go_wp2
  go_ret2
  exact ⟨rfl, hR5, hP5⟩

end Go.Proofs.Ytkkffgoeagnfnaa
