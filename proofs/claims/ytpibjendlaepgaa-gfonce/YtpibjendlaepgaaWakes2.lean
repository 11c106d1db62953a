/-
  Contracts of the laws' function wakes (layer 2) and of the document's product, as the laws meet them: wakes answers a field whose tables are made, and true. No condition.
-/
import Derived.Test.YtpibjendlaepgaaMeth
import Derived.Test.YtpibjendlaepgaaMul
namespace Go.Proofs.Ytpibjendlaepgaa
open Go.RowKit Plain

/-- w' is w with whatever is new behind it. -/
structure Past (w w' : World) : Prop where
  grown : Grown w w'
  block : ∀ k, k < w.heap.size → w'.heap[k]? = w.heap[k]?
theorem Past.refl (w : World) : Past w w := ⟨Grown.refl w, fun _ _ => rfl⟩
theorem Past.alloc {w w1 : World} (h : Past w w1) (c : Array Value) (t : TypeId) : Past w (w1.alloc (.cells c t)) :=
  ⟨h.grown.alloc c t, fun k hk => (Below.heap_alloc _ _ _ (Nat.lt_of_lt_of_le hk h.grown.2.2)).trans (h.block k hk)⟩
theorem Past.drew {w w1 : World} (h : Past w w1) : Past w w1.drew := ⟨h.grown.drew, h.block⟩
theorem Past.turned {w w1 w2 : World} (h : Past w w1) {b : Nat} (k : Turned b w1 w2) (hb : w.heap.size ≤ b) : Past w w2 :=
  ⟨k.grown w h.grown hb, fun i hi => (k.block i (Nat.lt_of_lt_of_le hi h.grown.2.2) (by omega)).trans (h.block i hi)⟩
theorem Past.ext {w w1 w2 : World} (h : Past w w1) (k : Ext w1 w2) : Past w w2 :=
  k.ind (Past w) h (fun _ c t g => g.alloc c t) (fun _ g => g.drew)
theorem Past.size {w w1 : World} (h : Past w w1) : w.heap.size ≤ w1.heap.size := h.grown.2.2

theorem rmul_any (a b : Nat) (ha : a < 256) (hb : b < 256) (w : World) :
    Calls Try.prog 11 #[.int .u8 a, .int .u8 b] w fun e w' => e = .returned (.int .u8 (ml a b : Nat)) ∧ Ext w w' := by
  refine (mul_any a b ha hb w).mono ?_
  rintro e w' ⟨rfl, rfl⟩
  exact ⟨ret_int (by rw [ml_is a b ha hb]; rfl), (Ext.refl w).alloc _ _⟩

theorem wk_mul : ml 3 7 = 9 := by decide +kernel
theorem wk_pr : ml 128 2 = 29 := by decide +kernel
set_option maxHeartbeats 1000000 in
theorem wakes_any (w : World) : Calls Try.prog 9 #[] w fun e w' => e = .returned (.tuple #[.pointer (some ⟨w.heap.size, 0, none⟩), .bool true]) ∧ Ready w' w.heap.size ∧ Past w w' := by
  go_enter Try.func9, Try.ntmps9
  go_wp2_with fail
  refine (new_any w).mono ?_; rintro e w1 ⟨rfl, hw1⟩
  have hF : Fresh w1 w.heap.size := by rw [hw1]; exact new_field w _
  have hP : Past w w1 := by rw [hw1]; exact (Past.refl w).alloc _ _
  clear hw1
  go_wp2_with fail
  refine (made_any w.heap.size 0 0 0 0 _ hF).mono ?_; rintro e w' ⟨rfl, rfl⟩
  go_wp2_with fail
  refine (fmul_any w.heap.size 3 7 (by omega) (by omega) _ (Or.inl hF)).mono ?_; rintro e w2 ⟨rfl, hR, hT⟩
  rw [wk_mul]
  go_wp2_with fail
  refine (made_any w.heap.size 1 0 1 255 _ hR).mono ?_; rintro e w' ⟨rfl, rfl⟩
  go_wp2_with fail
  refine (product_any 128 2 (by omega) (by omega) _).mono ?_; rintro e w' ⟨rfl, rfl⟩
  rw [wk_pr]
  go_wp2
  go_ret2
  exact ⟨rfl, hR, hP.turned hT (Nat.le_refl _)⟩

end Go.Proofs.Ytpibjendlaepgaa
