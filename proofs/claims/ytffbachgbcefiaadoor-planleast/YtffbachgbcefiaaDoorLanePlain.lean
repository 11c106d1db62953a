/-
  Plain arithmetic: what Times comes to in a byte hangs on that byte alone; what a byte's mask leaves of a word. No condition but that a word is below 2^64.
-/
import Derived.Test.YtffbachgbcefiaaDoorPlain
namespace Go.Proofs.YtffbachgbcefiaaDoor.Plain

def tbI (b : Nat) : Nat → Nat
  | 0 => b
  | n + 1 => tb (tbI b n)
def tbS (b c : Nat) : Nat → Nat
  | 0 => 0
  | n + 1 => if c / 2 ^ n % 2 = 1 then tbS b c n ^^^ tbI b n else tbS b c n
theorem tbI_lt (b : Nat) (h : b < 256) : ∀ n, tbI b n < 256
  | 0 => h
  | n + 1 => tb_lt _ (tbI_lt b h n)
theorem tbS_lt (b c : Nat) (h : b < 256) : ∀ n, tbS b c n < 256
  | 0 => by simp [tbS]
  | n + 1 => by
    simp only [tbS]; split
    · exact xor_lt _ _ (tbS_lt b c h n) (tbI_lt b h n)
    · exact tbS_lt b c h n
theorem twI_lm (x : Nat) (h : x < 18446744073709551616) : ∀ n, twI x n = lm (fun b => tbI b n) 8 x
  | 0 => (word_id x h).symm
  | n + 1 => by
    simp only [twI, tbI]
    rw [twI_lm x h n, tw_lm, lm_lm (fun b hb => tbI_lt b hb n)]
theorem lm_zero : ∀ n x, lm (fun _ => 0) n x = 0
  | 0, _ => rfl
  | n + 1, x => by simp only [lm]; rw [lm_zero n]
theorem tmS_lm (x c : Nat) (h : x < 18446744073709551616) : ∀ n, tmS x c n = lm (fun b => tbS b c n) 8 x
  | 0 => (lm_zero 8 x).symm
  | n + 1 => by
    simp only [tmS, tbS]
    by_cases hb : c / 2 ^ n % 2 = 1
    · simp only [if_pos hb]
      rw [tmS_lm x c h n, twI_lm x h n, lm_xor (fun b hb => tbS_lt b c hb n) (fun b hb => tbI_lt b hb n)]
    · simp only [if_neg hb]
      exact tmS_lm x c h n
theorem tm_lm (x c : Nat) (h : x < 18446744073709551616) : tmN x c = lm (fun b => tbS b c 8) 8 x := tmS_lm x c h 8

/-! ### masks -/
def msk (k : Nat) : Nat := 255 * 2 ^ (k * 8)
def mix (x y k : Nat) : Nat := (x &&& msk k) ||| (y &&& (18446744073709551615 - msk k))
theorem msk_lt (k : Nat) (hk : k < 8) : msk k < 18446744073709551616 := by
  have h : k = 0 ∨ k = 1 ∨ k = 2 ∨ k = 3 ∨ k = 4 ∨ k = 5 ∨ k = 6 ∨ k = 7 := by omega
  rcases h with rfl | rfl | rfl | rfl | rfl | rfl | rfl | rfl <;> decide +kernel
theorem pow_256 (k : Nat) : (2 : Nat) ^ (k * 8) = 256 ^ k := by
  rw [Nat.mul_comm, Nat.pow_mul]
theorem and_msk (v k : Nat) : v &&& msk k = v / 256 ^ k % 256 * 256 ^ k := by
  have e : msk k = 255 <<< (k * 8) := by unfold msk; rw [Nat.shiftLeft_eq]
  apply Nat.eq_of_testBit_eq
  intro i
  rw [← pow_256]
  have e2 : v / 2 ^ (k * 8) % 256 * 2 ^ (k * 8) = (v / 2 ^ (k * 8) % 2 ^ 8) <<< (k * 8) := by rw [Nat.shiftLeft_eq]
  rw [e2, e, Nat.testBit_and, Nat.testBit_shiftLeft, Nat.testBit_shiftLeft, Nat.testBit_mod_two_pow, Nat.testBit_div_two_pow]
  have e3 : (255 : Nat) = 2 ^ 8 - 1 := by decide
  rw [e3, Nat.testBit_two_pow_sub_one]
  by_cases h : k * 8 ≤ i
  · rw [show i - k * 8 + k * 8 = i by omega]
    cases v.testBit i <;> simp
  · simp [h]
theorem mix_lt (x y k : Nat) (hx : x < 18446744073709551616) : mix x y k < 18446744073709551616 := by
  refine Nat.or_lt_two_pow (n := 64) (Nat.lt_of_le_of_lt Nat.and_le_left hx) (Nat.lt_of_le_of_lt Nat.and_le_right (by omega))
theorem mix_and (x y k : Nat) (hk : k < 8) : mix x y k &&& msk k = x &&& msk k := by
  have h0 : (18446744073709551615 - msk k) &&& msk k = 0 := by
    have h : k = 0 ∨ k = 1 ∨ k = 2 ∨ k = 3 ∨ k = 4 ∨ k = 5 ∨ k = 6 ∨ k = 7 := by omega
    rcases h with rfl | rfl | rfl | rfl | rfl | rfl | rfl | rfl <;> decide +kernel
  unfold mix
  rw [Nat.and_or_distrib_right, Nat.and_assoc, Nat.and_self, Nat.and_assoc, h0, Nat.and_zero, Nat.or_zero]
theorem mix_byte (x y k : Nat) (hk : k < 8) : mix x y k / 256 ^ k % 256 = x / 256 ^ k % 256 := by
  have h := mix_and x y k hk
  rw [and_msk, and_msk] at h
  exact Nat.eq_of_mul_eq_mul_right (Nat.pow_pos (by omega)) h
theorem lane_alone {f : Nat → Nat} (hf : ∀ b, b < 256 → f b < 256) (x y k : Nat) (hk : k < 8) : lm f 8 (mix x y k) &&& msk k = lm f 8 x &&& msk k := by
  rw [and_msk, and_msk, lm_byte hf 8 k _ hk, lm_byte hf 8 k _ hk, mix_byte x y k hk]
theorem hi_alone (x y k : Nat) (hk : k < 8) : hiN (mix x y k) &&& msk k = hiN x &&& msk k := by
  rw [hi_lm, hi_lm]; exact lane_alone lt_hb x y k hk
theorem tw_alone (x y k : Nat) (hk : k < 8) : twN (mix x y k) &&& msk k = twN x &&& msk k := by
  rw [tw_lm, tw_lm]; exact lane_alone tb_lt x y k hk
theorem hf_alone (x y k : Nat) (hk : k < 8) : hfN (mix x y k) &&& msk k = hfN x &&& msk k := by
  rw [hf_lm, hf_lm]; exact lane_alone fb_lt x y k hk
theorem tm_alone (x y k c : Nat) (hx : x < 18446744073709551616) (hk : k < 8) : tmN (mix x y k) c &&& msk k = tmN x c &&& msk k := by
  rw [tm_lm _ _ (mix_lt x y k hx), tm_lm _ _ hx]; exact lane_alone (fun b hb => tbS_lt b c hb 8) x y k hk

end Go.Proofs.YtffbachgbcefiaaDoor.Plain
