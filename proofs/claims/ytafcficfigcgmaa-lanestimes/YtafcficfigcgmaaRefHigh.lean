/-
  Contracts of the document's High and of Word at eight times one byte: they give what lanes.High and lanes.Spread give, and lay new blocks alone. No condition but that a word is below 2^64.
-/
import Derived.Test.YtafcficfigcgmaaRef
import Derived.Test.YtafcficfigcgmaaLanePlain
namespace Go.Proofs.Ytafcficfigcgmaa
open Go.RowKit Plain

def mapF (g f : Nat → Nat) (k i : Nat) : Nat := if i < k then g (f i) else f i
theorem mapF_step (g f : Nat → Nat) (k i : Nat) (h : i ≠ k) : mapF g f (k + 1) i = mapF g f k i := by
  unfold mapF
  by_cases h1 : i < k
  · rw [if_pos h1, if_pos (by omega)]
  · rw [if_neg h1, if_neg (by omega)]
theorem mapF_at (g f : Nat → Nat) (k : Nat) : mapF g f (k + 1) k = g (f k) := by unfold mapF; rw [if_pos (by omega)]
theorem mapF_here (g f : Nat → Nat) (k : Nat) : mapF g f k k = f k := by unfold mapF; rw [if_neg (by omega)]
theorem bvA_map0 (g f : Nat → Nat) : bvA (mapF g f 0) = bvA f := rfl
theorem bvA_map8 (g f : Nat → Nat) : bvA (mapF g f 8) = bvA (fun i => g (f i)) := rfl
set_option maxHeartbeats 1000000 in
set_option maxRecDepth 100000 in
theorem refhigh_any (x : Nat) (hx : x < 18446744073709551616) (w : World) :
    Calls Try.prog 17 #[.int .u64 x] w fun e w' => e = .returned (.int .u64 (hz (fun i => hb (byN x i)) 8 : Nat)) ∧ Ext w w' := by
  go_enter Try.func17, Try.ntmps17
  go_wp2_with fail
  refine (bytes_lit x hx _).mono ?_; rintro e w' ⟨rfl, rfl⟩
  go_wp2
  go_loopw [4] (fun i wr => ∃ k : Nat, k ≤ 8 ∧ i = .int .i64 k ∧ wr = ((w.alloc (.cells (bvA (byN x)) 26)).alloc (.cells (bvA (byN x)) 26)).alloc (.cells (bvA (mapF hb (byN x) k)) 26)) (fun i _ => 8 - (intOf i).toNat)
  case atStart => exact ⟨0, by omega, rfl, by rw [bvA_map0]; rfl⟩
  case round =>
    obtain ⟨k, hk, rfl, rfl⟩ := hrel
    by_cases hlt : k < 8
    · have hs := fun v g h1 h2 => set_at (mapF hb (byN x) k) g k v hlt h1 h2
      obtain ⟨A, hA, hkA, hc, HS⟩ : ∃ A, bvA (mapF hb (byN x) k) = A ∧ ∃ h : k < A.size, A[k]'h = .int .u8 (byN x k : Nat) ∧ Hid (∀ v g, (∀ i, i ≠ k → g i = mapF hb (byN x) k i) → g k = v → A.setIfInBounds k (.int .u8 (v : Nat)) = bvA g) := by
        refine ⟨_, rfl, by rw [bvA_size]; exact hlt, ?_, hs⟩
        have hc := bvA_at (mapF hb (byN x) k) k hlt
        rw [mapF_here, Array.getElem?_eq_getElem (by rw [bvA_size]; exact hlt)] at hc
        exact Option.some.inj hc
      rw [hA]
      clear hs hA
      obtain ⟨b, hb2⟩ : ∃ b, byN x k = b := ⟨_, rfl⟩
      have hl := byN_lt x k
      have HB : Hid (byN x k = b) := hb2
      rw [hb2] at hc hl
      clear hb2
      by_cases h1 : 128 ≤ b
      · go_wp2
        go_roundw
        case rel => exact ⟨k + 1, by omega, by go_num, by rw [← HS.out 255 (mapF hb (byN x) (k + 1)) (fun i hi => mapF_step _ _ _ _ hi) (by rw [mapF_at, HB.out]; unfold hb; omega)]; rfl⟩
        case measure => simp [intOf]; omega
      · go_wp2
        go_roundw
        case rel => exact ⟨k + 1, by omega, by go_num, by rw [← HS.out 0 (mapF hb (byN x) (k + 1)) (fun i hi => mapF_step _ _ _ _ hi) (by rw [mapF_at, HB.out]; unfold hb; omega)]; rfl⟩
        case measure => simp [intOf]; omega
    · obtain rfl : k = 8 := by omega
      rw [bvA_map8, bvA_lit (fun i => hb (byN x i))]
      go_wp2_with fail
      refine (word_lit (fun i => hb (byN x i)) (fun i => lt_hb _ (byN_lt x i)) _).mono ?_; rintro e w' ⟨rfl, rfl⟩
      go_wp2
      go_ret
      exact ⟨rfl, ((((Ext.refl _).alloc _ _).alloc _ _).alloc _ _).alloc _ _⟩
theorem lm_hz (g : Nat → Nat) (x : Nat) : lm g 8 x = hz (fun i => g (byN x i)) 8 := by
  simp only [lm, hz, byN, Nat.reduceSub, Nat.div_div_eq_div_mul, Nat.reduceMul, Nat.reducePow, Nat.div_one, Nat.mul_zero, Nat.zero_add, Nat.add_zero]
  omega
theorem refhigh_is (x : Nat) (hx : x < 18446744073709551616) (w : World) :
    Calls Try.prog 17 #[.int .u64 x] w fun e w' => e = .returned (.int .u64 (hiN x : Nat)) ∧ Ext w w' := by
  have h := refhigh_any x hx w
  rw [← lm_hz hb x, ← hi_lm] at h
  exact h
theorem word_same (b : Nat) (hb : b < 256) (w : World) :
    Calls Try.prog 15 #[.agg #[.int .u8 (b : Nat), .int .u8 (b : Nat), .int .u8 (b : Nat), .int .u8 (b : Nat), .int .u8 (b : Nat), .int .u8 (b : Nat), .int .u8 (b : Nat), .int .u8 (b : Nat)]] w fun e w' => e = .returned (.int .u64 (b * 72340172838076673 : Nat)) ∧ Ext w w' := by
  have h := word_lit (fun _ => b) (fun _ => hb) w
  have e : hz (fun _ => b) 8 = b * 72340172838076673 := by simp only [hz]; omega
  rw [e] at h
  exact h.mono fun _ _ ⟨h1, h2⟩ => ⟨h1, by rw [h2]; exact (Ext.refl _).alloc _ _⟩

end Go.Proofs.Ytafcficfigcgmaa
