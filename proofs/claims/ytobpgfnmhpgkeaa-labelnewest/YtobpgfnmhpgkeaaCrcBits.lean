/-
  Contracts of crc's functions on registers (bitOn, byteOn, product) and of Slow: each gives the plain function's number and leaves the world as it was. No condition but the arguments' own kinds.
-/
import Derived.Test.YtobpgfnmhpgkeaaLanes
import Derived.Test.YtobpgfnmhpgkeaaStrs
import Derived.Test.YtobpgfnmhpgkeaaBufPlain
import Derived.Test.YtobpgfnmhpgkeaaCrcPlain
import Derived.Laws.BitsAllLaws
import Derived.Deep.LoopGhost
namespace Go.Proofs.Ytobpgfnmhpgkeaa
open Go.RowKit Plain

theorem bit1 (x : Nat) (h : x < 4294967296) : bits .and .u32 (x : Int) 1 = ((x % 2 : Nat) : Int) := by
  have := u32_and_nat x 1 h (by omega)
  rw [nat_mask1] at this
  exact this
theorem xor_c (x c : Nat) (h : x < 4294967296) (hc : c < 4294967296) : bits .xor .u32 (x : Int) (c : Int) = ((x ^^^ c : Nat) : Int) := u32_xor_nat x c h hc
set_option maxHeartbeats 400000 in
theorem bitOn_any (x : Nat) (h : x < 4294967296) (w : World) :
    Calls Try.prog 46 #[.int .u32 x] w fun e w' => e = .returned (.int .u32 (tN x : Nat)) ∧ w' = w := by
  have hb := bit1 x h
  by_cases h1 : x % 2 = 1
  · have ht : (bits .and .u32 (x : Int) 1 == 1) = true := by rw [hb, h1]; rfl
    have HX : Hid (bits .xor .u32 ((x / 2 : Nat) : Int) 3988292384 = ((tN x : Nat) : Int)) := by
      show bits .xor .u32 ((x / 2 : Nat) : Int) ((3988292384 : Nat) : Int) = _
      rw [xor_c _ _ (by omega) (by omega)]; unfold tN; rw [h1, Nat.one_mul]
    clear hb h1
    go_enter Try.func46, Try.ntmps46
    go_wp2
    go_ret
    exact ⟨ret_int HX.out, rfl⟩
  · have ht : (bits .and .u32 (x : Int) 1 == 1) = false := by rw [hb, show x % 2 = 0 by omega]; rfl
    have HX : Hid (tN x = x / 2) := by
      show tN x = _; unfold tN; rw [show x % 2 = 0 by omega]; simp
    clear hb h1
    go_enter Try.func46, Try.ntmps46
    go_wp2
    go_ret
    exact ⟨ret_int (by rw [HX.out]; rfl), rfl⟩
set_option maxHeartbeats 400000 in
theorem byteOn_any (x : Nat) (h : x < 4294967296) (w : World) :
    Calls Try.prog 41 #[.int .u32 x] w fun e w' => e = .returned (.int .u32 (tI x 8 : Nat)) ∧ w' = w := by
  go_enter Try.func41, Try.ntmps41
  go_wp2
  go_loop [0, 3] (fun X i => ∃ k : Nat, k ≤ 8 ∧ i = .int .i64 k ∧ X = .int .u32 (tI x k : Nat)) (fun _ i => 8 - (intOf i).toNat)
  case atStart => exact ⟨0, by omega, rfl, rfl⟩
  case round =>
    obtain ⟨k, hk, rfl, rfl⟩ := hrel
    have hl := tI_lt x h k
    by_cases hlt : k < 8
    · go_wp2_with (go_at_call 46; refine (bitOn_any _ hl _).mono ?_; rintro e w' ⟨rfl, rfl⟩)
      go_round
      case rel => exact ⟨k + 1, by omega, by go_num, rfl⟩
      case measure => simp [intOf]; omega
    · obtain rfl : k = 8 := by omega
      go_wp2
      go_ret
      exact ⟨rfl, rfl⟩

theorem top_bit (a : Nat) (h : a < 4294967296) : bits .and .u32 (a : Int) 2147483648 = ((if 2147483648 ≤ a then 2147483648 else 0 : Nat) : Int) := by
  have h1 := u32_and_nat a 2147483648 h (by omega)
  rw [show ((2147483648 : Nat) : Int) = 2147483648 by rfl] at h1
  rw [h1]
  congr 1
  have e1 : (a &&& 2147483648) % 2 ^ 31 = 0 := by
    rw [Nat.and_mod_two_pow, show 2147483648 % 2 ^ 31 = 0 by rfl, Nat.and_zero]
  have e2 : (a &&& 2147483648) / 2 ^ 31 = a / 2147483648 % 2 := by
    rw [Nat.and_div_two_pow, show 2147483648 / 2 ^ 31 = 1 by rfl, nat_mask1, show (2 : Nat) ^ 31 = 2147483648 by rfl]
  rw [show (2 : Nat) ^ 31 = 2147483648 by rfl] at e1 e2
  by_cases hh : 2147483648 ≤ a
  · rw [if_pos hh]; omega
  · rw [if_neg hh]; omega
def ak (a k : Nat) : Nat := a * 2 ^ k % 4294967296
theorem ak_step (a k : Nat) : ak a k * 2 % 4294967296 = ak a (k + 1) := by
  unfold ak
  rw [Nat.pow_succ, Nat.mod_mul_mod, Nat.mul_assoc]
theorem ak_lt (a k : Nat) : ak a k < 4294967296 := Nat.mod_lt _ (by omega)
theorem ak_past (a k : Nat) (h : 32 ≤ k) : ak a k = 0 := by
  unfold ak
  rw [show k = 32 + (k - 32) by omega, Nat.pow_add, ← Nat.mul_assoc, Nat.mul_comm a, Nat.mul_assoc]
  exact Nat.mul_mod_right _ _
theorem shl_u32 (a : Nat) : (a : Int) * 2 % 4294967296 = ((a * 2 % 4294967296 : Nat) : Int) := by omega

theorem to_u32 (c : Nat) (h : c < 256) : (c : Int) % 4294967296 = (c : Int) := by omega
/-- the bytes of a text. -/
def bf (s : ByteArray) (i : Nat) : Nat := bAt s (i : Int)
theorem bf_lt (s : ByteArray) (i : Nat) : bf s i < 256 := bAt_lt s _
theorem bf_at (s : ByteArray) (i : Nat) (h : i < s.size) : (s[i]'h).toNat = bf s i := (bAt_nat s i h).symm
theorem not_u32 (x : Nat) (h : x < 4294967296) : bits .xor .u32 IntKind.u32.max (x : Int) = ((nt x : Nat) : Int) := by
  have e : IntKind.u32.max = ((4294967295 : Nat) : Int) := by decide +kernel
  rw [e, u32_xor_nat _ _ (by omega) h]
  rfl
set_option maxHeartbeats 1000000 in
theorem slow_any (s : ByteArray) (hs : s.size ≤ 9223372036854775807) (w : World) :
    Calls Try.prog 28 #[.string s] w fun e w' => e = .returned (.int .u32 (smN (bf s) s.size : Nat)) ∧ w' = w := by
  go_enter Try.func28, Try.ntmps28
  go_wp2
  go_loop [3, 7] (fun X i => ∃ k : Nat, k ≤ s.size ∧ i = .int .i64 k ∧ X = .int .u32 (rgS (bf s) 4294967295 k : Nat)) (fun _ i => s.size - (intOf i).toNat)
  case atStart => exact ⟨0, by omega, rfl, rfl⟩
  case round =>
    obtain ⟨k, hk, rfl, rfl⟩ := hrel
    have hl := rgS_lt (bf s) (bf_lt s) 4294967295 (by omega) k
    by_cases hlt : k < s.size
    · have hb := bf_lt s k
      have HB : Hid ((s[k]'hlt).toNat = bf s k) := bf_at s k hlt
      have HS : Hid (tI (rgS (bf s) 4294967295 k ^^^ bf s k) 8 = rgS (bf s) 4294967295 (k + 1)) := rfl
      generalize rgS (bf s) 4294967295 k = r at *
      go_wp2_with fail
      rw [HB.out, to_u32 _ hb, u32_xor_nat _ _ hl (by omega)]
      refine (byteOn_any _ (xor32 _ _ hl (by omega)) _).mono ?_; rintro e w' ⟨rfl, rfl⟩
      go_wp2
      go_round
      case rel => exact ⟨k + 1, by omega, by go_num, by rw [HS.out]⟩
      case measure => simp [intOf]; omega
    · obtain rfl : k = s.size := by omega
      have HS : Hid (nt (rgS (bf s) 4294967295 s.size) = smN (bf s) s.size) := by
        show nt _ = mrN 0 (bf s) s.size
        unfold mrN
        rw [show nt 0 = 4294967295 by decide +kernel]
      generalize rgS (bf s) 4294967295 s.size = r at *
      go_wp2
      go_ret
      exact ⟨ret_int (by rw [← HS.out, not_u32 _ hl]), rfl⟩

/-! ### the document's own -/
theorem rturned_any (x : Nat) (h : x < 4294967296) (w : World) :
    Calls Try.prog 47 #[.int .u32 x] w fun e w' => e = .returned (.int .u32 (nt x : Nat)) ∧ w' = w := by
  have HX : Hid (((nt x : Nat) : Int) = 4294967295 - (x : Int)) := by show ((nt x : Nat) : Int) = _; rw [nt_sub x h]; omega
  go_enter Try.func47, Try.ntmps47
  go_wp2
  go_ret
  exact ⟨ret_int (by rw [HX.out]), rfl⟩
/-- the lowest k bits of a sum, bit by bit. -/
theorem xor_low (a b k : Nat) : (a ^^^ b) % 2 ^ (k + 1) = (a ^^^ b) % 2 ^ k + 2 ^ k * ((a / 2 ^ k % 2) ^^^ (b / 2 ^ k % 2)) := by
  rw [Nat.pow_succ, Nat.mod_mul]
  congr 2
  have h1 := Nat.xor_div_two_pow (a := a) (b := b) (n := k)
  have h2 := Nat.xor_mod_two_pow (a := a / 2 ^ k) (b := b / 2 ^ k) (n := 1)
  rw [h1]; exact h2
def hv (a k : Nat) : Nat := a / 2 ^ k
def lw (a b k : Nat) : Nat := (a ^^^ b) % 2 ^ k
def p2 (k : Nat) : Nat := 2 ^ k % 4294967296
theorem hv_step (a k : Nat) : hv a k / 2 = hv a (k + 1) := by unfold hv; rw [Nat.pow_succ, Nat.div_div_eq_div_mul]
theorem hv_lt (a k : Nat) (h : a < 4294967296) : hv a k < 4294967296 := Nat.lt_of_le_of_lt (Nat.div_le_self _ _) h
theorem p2_step (k : Nat) : 2 * p2 k % 4294967296 = p2 (k + 1) := by
  unfold p2; rw [Nat.pow_succ, Nat.mul_mod_mod, Nat.mul_comm]
theorem p2_lt (k : Nat) : p2 k < 4294967296 := Nat.mod_lt _ (by omega)
theorem p2_is (k : Nat) (h : k < 32) : p2 k = 2 ^ k := by
  unfold p2
  have h1 : (2 : Nat) ^ k < 2 ^ 32 := Nat.pow_lt_pow_right (by omega) h
  rw [show (2 : Nat) ^ 32 = 4294967296 by rfl] at h1
  exact Nat.mod_eq_of_lt h1
theorem lw_lt (a b k : Nat) : lw a b k < 2 ^ k := Nat.mod_lt _ (Nat.pow_pos (by omega))
theorem lw_next (a b k : Nat) (h : hv a k % 2 = hv b k % 2) : lw a b (k + 1) = lw a b k := by
  unfold lw hv at *
  rw [xor_low, h, Nat.xor_self]; simp
theorem lw_more (a b k : Nat) (hk : k < 32) (h : hv a k % 2 ≠ hv b k % 2) : lw a b (k + 1) = lw a b k + p2 k ∧ lw a b k + p2 k < 4294967296 := by
  have h1 : lw a b (k + 1) = lw a b k + p2 k := by
    rw [p2_is k hk]
    unfold lw hv at *
    rw [xor_low]
    have h1 : a / 2 ^ k % 2 = 0 ∨ a / 2 ^ k % 2 = 1 := by omega
    have h2 : b / 2 ^ k % 2 = 0 ∨ b / 2 ^ k % 2 = 1 := by omega
    rcases h1 with h1 | h1 <;> rcases h2 with h2 | h2
    · exact absurd (h1.trans h2.symm) h
    · rw [h1, h2]; simp
    · rw [h1, h2]; simp
    · exact absurd (h1.trans h2.symm) h
  refine ⟨h1, ?_⟩
  rw [← h1]
  have h2 := lw_lt a b (k + 1)
  have : (2 : Nat) ^ (k + 1) ≤ 2 ^ 32 := Nat.pow_le_pow_right (by omega) (by omega)
  omega
set_option maxHeartbeats 1000000 in
theorem rxor_any (a b : Nat) (ha : a < 4294967296) (hb : b < 4294967296) (w : World) :
    Calls Try.prog 50 #[.int .u32 a, .int .u32 b] w fun e w' => e = .returned (.int .u32 (a ^^^ b : Nat)) ∧ w' = w := by
  go_enter Try.func50, Try.ntmps50
  go_wp2
  go_loop [0, 1, 5, 6, 7] (fun A B N P i => ∃ k A' B' N' P' : Nat, k ≤ 32 ∧ i = .int .i64 k ∧ A' = hv a k ∧ A = .int .u32 A' ∧ B' = hv b k ∧ B = .int .u32 B' ∧ N' = lw a b k ∧ N = .int .u32 N' ∧ P' = p2 k ∧ P = .int .u32 P') (fun _ _ _ _ i => 32 - (intOf i).toNat)
  case atStart => exact ⟨0, a, b, 0, 1, by omega, rfl, by simp [hv], rfl, by simp [hv], rfl, by simp [lw]; omega, rfl, by decide +kernel, rfl⟩
  case round =>
    obtain ⟨k, A', B', N', P', hk, rfl, hA, rfl, hB, rfl, hN, rfl, hP, rfl⟩ := hrel
    have hA1 : A' < 4294967296 := by rw [hA]; exact hv_lt a k ha
    have hB1 : B' < 4294967296 := by rw [hB]; exact hv_lt b k hb
    have hP1 : P' < 4294967296 := by rw [hP]; exact p2_lt k
    by_cases hlt : k < 32
    · have HA : Hid (A' / 2 = hv a (k + 1)) := by show _ = _; rw [hA, hv_step]
      have HB : Hid (B' / 2 = hv b (k + 1)) := by show _ = _; rw [hB, hv_step]
      have HP : Hid (2 * P' % 4294967296 = p2 (k + 1)) := by show _ = _; rw [hP, p2_step]
      by_cases he : A' % 2 = B' % 2
      · have HN : Hid (N' = lw a b (k + 1)) := by show _ = _; rw [hN, lw_next a b k (by rw [← hA, ← hB]; exact he)]
        have e1 : ((A' : Int) % 2 != (B' : Int) % 2) = false := by simp; omega
        clear hA hB hN hP he
        go_wp2
        go_round
        case rel => exact ⟨k + 1, A' / 2, B' / 2, N', 2 * P' % 4294967296, by omega, by go_num, HA.out, rfl, HB.out, rfl, HN.out, rfl, HP.out, rfl⟩
        case measure => simp [intOf]; omega
      · have hM := lw_more a b k hlt (by rw [← hA, ← hB]; exact he)
        have HN : Hid (N' + P' = lw a b (k + 1)) := by show _ = _; rw [hN, hP, hM.1]
        have hL : N' + P' < 4294967296 := by rw [hN, hP]; exact hM.2
        have e1 : ((A' : Int) % 2 != (B' : Int) % 2) = true := by simp; omega
        clear hA hB hN hP he hM
        go_wp2
        go_round
        case rel => exact ⟨k + 1, A' / 2, B' / 2, N' + P', 2 * P' % 4294967296, by omega, by go_num, HA.out, rfl, HB.out, rfl, HN.out, rfl, HP.out, rfl⟩
        case measure => simp [intOf]; omega
    · obtain rfl : k = 32 := by omega
      have HN : Hid (N' = a ^^^ b) := by
        show _ = _
        rw [hN]
        have := xor32 a b ha hb
        unfold lw; omega
      clear hA hB hN hP
      go_wp2
      go_ret
      exact ⟨ret_int (by rw [HN.out]), rfl⟩

end Go.Proofs.Ytobpgfnmhpgkeaa
