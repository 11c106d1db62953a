/-
  Contract of the document's Load: for every text of at most 1000 bytes and every place it gives the sum of the eight bytes at their places, and lays new blocks alone.
-/
import Derived.Test.YtafcficfigcgmaaRef
namespace Go.Proofs.Ytafcficfigcgmaa
open Go.RowKit Plain
def ldF (s : ByteArray) (p : Int) (i : Nat) : Nat := bAt s (p + i)
theorem ldF_lt (s : ByteArray) (p : Int) (i : Nat) : ldF s p i < 256 := bAt_lt _ _
theorem ld_hz (s : ByteArray) (p : Int) : hz (ldF s p) 8 = ldS s p 8 := by
  simp only [hz, ldS, Nat.reduceSub, Nat.reduceMul, Nat.reducePow]
  have e : ∀ i : Nat, bAt s (p + (i : Int)) = ldF s p i := fun _ => rfl
  simp only [e]
  omega
theorem ldF_in (s : ByteArray) (p : Int) (k : Nat) (h0 : 0 ≤ p + k) (h1 : p + k < s.size) : ldF s p k = (s[(p + k).toNat]'(by omega)).toNat := by
  unfold ldF bAt; rw [dif_pos ⟨h0, h1⟩]
theorem ldF_out (s : ByteArray) (p : Int) (k : Nat) (h : ¬ (0 ≤ p + k ∧ p + k < s.size)) : ldF s p k = 0 := by
  unfold ldF bAt; rw [dif_neg h]
theorem cut_zero (f : Nat → Nat) (k : Nat) (h : f k = 0) : cut f (k + 1) = cut f k := by
  funext i
  by_cases hi : i = k
  · subst hi; rw [cut_at, h]; unfold cut; rw [if_neg (by omega)]
  · exact cut_step f k i hi
theorem ld_far (s : ByteArray) (p : Int) (h : p ≤ -8 ∨ (s.size : Int) ≤ p) : ldS s p 8 = 0 := by
  have e : ∀ i : Nat, i < 8 → bAt s (p + (i : Int)) = 0 := fun i hi => ldF_out s p i (by omega)
  simp only [ldS]
  rw [e 0 (by omega), e 1 (by omega), e 2 (by omega), e 3 (by omega), e 4 (by omega), e 5 (by omega), e 6 (by omega), e 7 (by omega)]
set_option maxHeartbeats 1000000 in
theorem refload_far (s : ByteArray) (p : Int) (h : p ≤ -8 ∨ (s.size : Int) ≤ p) (w : World) :
    Calls Try.prog 11 #[.string s, .int .i64 p] w fun e w' => e = .returned (.int .u64 (ldS s p 8 : Nat)) ∧ Ext w w' := by
  rw [ld_far s p h]
  by_cases h1 : p ≤ -8
  · go_enter Try.func11, Try.ntmps11
    go_wp2
    go_ret
    exact ⟨rfl, (Ext.refl _).alloc _ _⟩
  · have h2 : (s.size : Int) ≤ p := by omega
    go_enter Try.func11, Try.ntmps11
    go_wp2
    go_ret
    exact ⟨rfl, (Ext.refl _).alloc _ _⟩
set_option maxHeartbeats 1000000 in
theorem refload_near (s : ByteArray) (p : Int) (hs : s.size ≤ 1000) (h1 : -8 < p) (h2 : p < s.size) (w : World) :
    Calls Try.prog 11 #[.string s, .int .i64 p] w fun e w' => e = .returned (.int .u64 (ldS s p 8 : Nat)) ∧ Ext w w' := by
  have h1' : ¬ p ≤ -8 := by omega
  have h2' : ¬ (s.size : Int) ≤ p := by omega
  go_enter Try.func11, Try.ntmps11
  go_wp2
  go_loopw [6] (fun i wr => ∃ k : Nat, k ≤ 8 ∧ i = .int .i64 k ∧ wr = w.alloc (.cells (bvA (cut (ldF s p) k)) 26)) (fun i _ => 8 - (intOf i).toNat)
  case atStart => exact ⟨0, by omega, rfl, by rw [bvA_cut0]⟩
  case round =>
    obtain ⟨k, hk, rfl, rfl⟩ := hrel
    have hA := bvA_size (cut (ldF s p) k)
    by_cases hlt : k < 8
    · by_cases hp : 0 ≤ p + k
      · by_cases hq : p + k < s.size
        · go_wp2
          go_roundw
          case rel => exact ⟨k + 1, by omega, by go_num, by rw [← ldF_in s p k hp hq, set_at _ (cut (ldF s p) (k + 1)) k _ hlt (fun i hi => cut_step _ _ _ hi) (cut_at _ _)]⟩
          case measure => simp [intOf]; omega
        · go_wp2
          go_roundw
          case rel => exact ⟨k + 1, by omega, by go_num, by rw [cut_zero _ _ (ldF_out s p k (by omega))]⟩
          case measure => simp [intOf]; omega
      · go_wp2
        go_roundw
        case rel => exact ⟨k + 1, by omega, by go_num, by rw [cut_zero _ _ (ldF_out s p k (by omega))]⟩
        case measure => simp [intOf]; omega
    · obtain rfl : k = 8 := by omega
      rw [bvA_cut8, bvA_lit]
      clear hA
      go_wp2_with fail
      refine (word_lit (ldF s p) (ldF_lt s p) _).mono ?_; rintro e w' ⟨rfl, rfl⟩
      rw [ld_hz]
      go_wp2
      go_ret
      exact ⟨rfl, ((Ext.refl _).alloc _ _).alloc _ _⟩
theorem refload_any (s : ByteArray) (p : Int) (hs : s.size ≤ 1000) (w : World) :
    Calls Try.prog 11 #[.string s, .int .i64 p] w fun e w' => e = .returned (.int .u64 (ldS s p 8 : Nat)) ∧ Ext w w' := by
  by_cases h : p ≤ -8 ∨ (s.size : Int) ≤ p
  · exact refload_far s p h w
  · exact refload_near s p hs (by omega) (by omega) w
end Go.Proofs.Ytafcficfigcgmaa
