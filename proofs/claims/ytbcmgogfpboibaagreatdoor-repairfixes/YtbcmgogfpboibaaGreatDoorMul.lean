/-
  Contract of the document's product of two elements (Mul): for every two bytes it gives the plain product and lays one new block. No condition.
-/
import Derived.Test.YtbcmgogfpboibaaGreatDoorMulCells
namespace Go.Proofs.YtbcmgogfpboibaaGreatDoor
open Go.RowKit Plain

theorem qb_lt (a i : Nat) (h : a < 256) : qb a i < 256 := Nat.lt_of_le_of_lt (Nat.div_le_self _ _) h
theorem qb_step (a i : Nat) : (qb a i : Int) / 2 = ((qb a (i + 1) : Nat) : Int) := by
  have e : qb a (i + 1) = qb a i / 2 := by unfold qb; rw [Nat.pow_succ, Nat.div_div_eq_div_mul]
  rw [e]; omega
theorem cell_step (B x y : Nat) (hB : B < 2) : (wrap64 ((B : Int) + wrap64 ((x : Int) % 2 * ((y : Int) % 2)))).tmod 2 = (((B + x % 2 * (y % 2)) % 2 : Nat) : Int) := by
  have h1 : x % 2 = 0 ∨ x % 2 = 1 := by omega
  have h2 : y % 2 = 0 ∨ y % 2 = 1 := by omega
  have h3 : B = 0 ∨ B = 1 := by omega
  have e1 : (x : Int) % 2 = ((x % 2 : Nat) : Int) := by omega
  have e2 : (y : Int) % 2 = ((y % 2 : Nat) : Int) := by omega
  rw [e1, e2]
  rcases h1 with h1 | h1 <;> rcases h2 with h2 | h2 <;> rcases h3 with h3 | h3 <;> rw [h1, h2, h3] <;> decide +kernel
theorem inn_set (a b i P k : Nat) (hk : i + k < 15) :
    (bitA (inn a b i P k)).setIfInBounds (i + k) (.int .i64 (((bt (inn a b i P k) (i + k) + qb a i % 2 * (qb b k % 2)) % 2 : Nat) : Int)) = bitA (inn a b i P (k + 1)) := by
  have hb := bt_lt (inn a b i P k) (i + k)
  have h1 : qb a i % 2 = 0 ∨ qb a i % 2 = 1 := by omega
  have h2 : qb b k % 2 = 0 ∨ qb b k % 2 = 1 := by omega
  have e : inn a b i P (k + 1) = inn a b i P k ^^^ term a b i k := rfl
  rw [e]
  unfold term
  rcases h1 with h1 | h1 <;> rcases h2 with h2 | h2 <;> rw [h1, h2]
  · rw [Nat.zero_mul, Nat.zero_mul, Nat.xor_zero]; exact keep_set _ _ hk _ (by omega)
  · rw [Nat.zero_mul, Nat.zero_mul, Nat.xor_zero]; exact keep_set _ _ hk _ (by omega)
  · rw [Nat.mul_zero, Nat.zero_mul, Nat.xor_zero]; exact keep_set _ _ hk _ (by omega)
  · rw [Nat.one_mul, Nat.one_mul]; exact turn_set _ _ hk _ (by omega)
theorem bt_off (P m j : Nat) (h : j ≠ m) : bt (P ^^^ 2 ^ m) j = bt P j := by
  rw [bt_xor, bt_pow, if_neg h, Nat.xor_zero]
/-- the five coefficients that a step of the remainder turns. -/
theorem red_set (P M : Nat) (h8 : 8 ≤ M) (hM : M < 15) (h1 : bt P M = 1) :
    (((((bitA P).setIfInBounds M (.int .i64 ((0 : Nat) : Int))).setIfInBounds (M - 4) (.int .i64 ((1 - bt P (M - 4) : Nat) : Int))).setIfInBounds (M - 5) (.int .i64 ((1 - bt P (M - 5) : Nat) : Int))).setIfInBounds (M - 6) (.int .i64 ((1 - bt P (M - 6) : Nat) : Int))).setIfInBounds (M - 8) (.int .i64 ((1 - bt P (M - 8) : Nat) : Int)) = bitA (P ^^^ poly M) := by
  rw [turn_set P M hM 0 (by omega),
    turn_set _ (M - 4) (by omega) _ (by rw [bt_off _ _ _ (by omega)]),
    turn_set _ (M - 5) (by omega) _ (by rw [bt_off _ _ _ (by omega), bt_off _ _ _ (by omega)]),
    turn_set _ (M - 6) (by omega) _ (by rw [bt_off _ _ _ (by omega), bt_off _ _ _ (by omega), bt_off _ _ _ (by omega)]),
    turn_set _ (M - 8) (by omega) _ (by rw [bt_off _ _ _ (by omega), bt_off _ _ _ (by omega), bt_off _ _ _ (by omega), bt_off _ _ _ (by omega)])]
  unfold poly
  simp only [Nat.xor_assoc]
theorem bitA_lit (P : Nat) : bitA P = #[.int .i64 (bt P 0 : Nat), .int .i64 (bt P 1 : Nat), .int .i64 (bt P 2 : Nat), .int .i64 (bt P 3 : Nat), .int .i64 (bt P 4 : Nat), .int .i64 (bt P 5 : Nat), .int .i64 (bt P 6 : Nat), .int .i64 (bt P 7 : Nat), .int .i64 (bt P 8 : Nat), .int .i64 (bt P 9 : Nat), .int .i64 (bt P 10 : Nat), .int .i64 (bt P 11 : Nat), .int .i64 (bt P 12 : Nat), .int .i64 (bt P 13 : Nat), .int .i64 (bt P 14 : Nat)] := rfl
def nz (P : Nat) : Nat → Nat
  | 0 => 0
  | r + 1 => 2 * nz P r + bt P (7 - r)
theorem nz_lt (P : Nat) : ∀ r, nz P r < 2 ^ r
  | 0 => by simp [nz]
  | r + 1 => by
    have h1 := nz_lt P r
    have h2 := bt_lt P (7 - r)
    simp only [nz]; rw [Nat.pow_succ]; omega
theorem low_bit (P k : Nat) (hk : k < 8) : P % 256 / 2 ^ k % 2 = P / 2 ^ k % 2 := by
  have h : k = 0 ∨ k = 1 ∨ k = 2 ∨ k = 3 ∨ k = 4 ∨ k = 5 ∨ k = 6 ∨ k = 7 := by omega
  rcases h with rfl | rfl | rfl | rfl | rfl | rfl | rfl | rfl <;> simp only [Nat.reducePow] <;> omega
theorem nz_part (P : Nat) : ∀ r, r ≤ 8 → nz P r = P % 256 / 2 ^ (8 - r)
  | 0, _ => by
    have : P % 256 < 256 := Nat.mod_lt _ (by omega)
    simp only [nz, Nat.sub_zero, Nat.reducePow]; omega
  | r + 1, h => by
    simp only [nz]
    rw [nz_part P r (by omega), show 8 - r = (7 - r) + 1 by omega, show 8 - (r + 1) = 7 - r by omega, Nat.pow_succ, ← Nat.div_div_eq_div_mul]
    have hl := low_bit P (7 - r) (by omega)
    unfold bt
    rw [← hl]; omega
theorem nz_is (P : Nat) : nz P 8 = P % 256 := by
  rw [nz_part P 8 (by omega)]; simp
theorem one_sub (P m : Nat) : (1 : Int) - (bt P m : Int) = ((1 - bt P m : Nat) : Int) := by
  have := bt_lt P m; omega
theorem rd_hit (P r M : Nat) (hM : 14 - r = M) (h : bt (rd P r) M = 1) : rd P (r + 1) = rd P r ^^^ poly M := by
  simp only [rd]; rw [hM, if_pos h]
theorem rd_miss (P r M : Nat) (hM : 14 - r = M) (h : ¬ bt (rd P r) M = 1) : rd P (r + 1) = rd P r := by
  simp only [rd]; rw [hM, if_neg h]

set_option maxRecDepth 100000 in
set_option maxHeartbeats 4000000 in
theorem mul_any (a b : Nat) (ha : a < 256) (hb : b < 256) (w : World) :
    Calls Tryz.prog 48 #[.int .u8 a, .int .u8 b] w fun e w' => e = .returned (.int .u8 (mlN a b : Nat)) ∧ w' = w.alloc (.cells (bitA (rd (out a b 8) 7)) 129) := by
  go_enter Tryz.func48, Tryz.ntmps48
  go_wp2
  go_loopw [6, 7] (fun X i wr => ∃ k : Nat, k ≤ 8 ∧ i = .int .i64 k ∧ X = .int .i64 (qb a k : Nat) ∧ wr = w.alloc (.cells (bitA (out a b k)) 129)) (fun _ i _ => 8 - (intOf i).toNat)
  case atStart => exact ⟨0, by omega, rfl, by unfold qb; simp, by rw [show out a b 0 = 0 from rfl, bitA_zero]⟩
  case round =>
    obtain ⟨i, hi, rfl, rfl, rfl⟩ := hrel
    have hqa := qb_lt a i ha
    by_cases hlt : i < 8
    · go_wp2
      go_loopw [8, 9] (fun Y k wr => ∃ m : Nat, m ≤ 8 ∧ k = .int .i64 m ∧ Y = .int .i64 (qb b m : Nat) ∧ wr = w.alloc (.cells (bitA (inn a b i (out a b i) m)) 129)) (fun _ k _ => 8 - (intOf k).toNat)
      case atStart => exact ⟨0, by omega, rfl, by unfold qb; simp, rfl⟩
      case round =>
        obtain ⟨k, hk, rfl, rfl, rfl⟩ := hrel
        have hqb := qb_lt b k hb
        by_cases hlk : k < 8
        · obtain ⟨A, hA, hkA, hc⟩ : ∃ A, bitA (inn a b i (out a b i) k) = A ∧ ∃ h : i + k < A.size, A[i + k]'h = .int .i64 (bt (inn a b i (out a b i) k) (i + k) : Nat) :=
            ⟨_, rfl, by rw [bitA_size]; omega, bitA_get _ _ (by omega) _⟩
          have HA : Hid (bitA (inn a b i (out a b i) k) = A) := hA
          rw [hA]
          clear hA
          go_wp2
          go_roundw
          case rel => exact ⟨k + 1, by omega, by go_num, by rw [qb_step], by rw [cell_step _ _ _ (bt_lt _ _), ← HA.out, inn_set a b i _ k (by omega)]⟩
          case measure => simp [intOf]; omega
        · obtain rfl : k = 8 := by omega
          go_wp2
          go_roundw
          case rel => exact ⟨i + 1, by omega, by go_num, by rw [qb_step], rfl⟩
          case measure => simp [intOf]; omega
    · obtain rfl : i = 8 := by omega
      clear hlt hi
      obtain ⟨P, hP⟩ : ∃ P, out a b 8 = P := ⟨_, rfl⟩
      have HP : Hid (out a b 8 = P) := hP
      rw [hP]
      clear hP
      go_wp2
      go_loopw [10] (fun i wr => ∃ j r : Nat, j + r = 7 ∧ i = .int .i64 ((j : Int) + 7) ∧ wr = w.alloc (.cells (bitA (rd P r)) 129)) (fun i _ => (intOf i - 7).toNat)
      case atStart => exact ⟨7, 0, by omega, rfl, rfl⟩
      case round =>
        obtain ⟨j, r, hj, rfl, rfl⟩ := hrel
        by_cases h0 : j = 0
        · subst h0
          obtain rfl : r = 7 := by omega
          clear hj
          obtain ⟨R, hR⟩ : ∃ R, rd P 7 = R := ⟨_, rfl⟩
          have HR : Hid (rd P 7 = R) := hR
          rw [hR]
          clear hR
          go_wp2
          go_loop [11, 12] (fun n i => ∃ j r : Nat, j + r = 8 ∧ i = .int .i64 ((j : Int) - 1) ∧ n = .int .i64 (nz R r : Nat)) (fun _ i => (intOf i + 1).toNat)
          case atStart => exact ⟨8, 0, by omega, rfl, rfl⟩
          case round =>
            obtain ⟨j, r, hj, rfl, rfl⟩ := hrel
            by_cases h0 : j = 0
            · subst h0
              obtain rfl : r = 8 := by omega
              clear hj
              rw [nz_is]
              go_wp2
              go_ret
              refine ⟨ret_int ?_, by rw [HP.out, HR.out]⟩
              unfold mlN
              rw [HP.out, HR.out]; omega
            · obtain ⟨m, rfl⟩ : ∃ m, j = m + 1 := ⟨j - 1, by omega⟩
              have e : ((m + 1 : Nat) : Int) - 1 = (m : Int) := by omega
              have hc := bitA_at R m (by omega)
              rw [e]
              clear e
              have hm : m < 8 := by omega
              have hnl : nz R r < 256 := by
                have h1 := nz_lt R r
                have h2 : (2 : Nat) ^ r ≤ 2 ^ 8 := Nat.pow_le_pow_right (by omega) (by omega)
                omega
              have hbl := bt_lt R m
              have HJ : Hid (m + 1 + r = 8) := hj
              clear hj h0
              go_wp2
              go_round
              case rel =>
                have hj : m + 1 + r = 8 := HJ.out
                refine ⟨m, r + 1, by omega, rfl, ?_⟩
                simp only [nz]; rw [show 7 - r = m by omega]; go_num
              case measure => simp [intOf]
        · obtain ⟨m, rfl⟩ : ∃ m, j = m + 1 := ⟨j - 1, by omega⟩
          obtain ⟨R, hR⟩ : ∃ R, rd P r = R := ⟨_, rfl⟩
          have HR : Hid (rd P r = R) := hR
          rw [hR]
          clear hR h0
          have HJ : Hid (m + 1 + r = 7) := hj
          have hm7 : m = 0 ∨ m = 1 ∨ m = 2 ∨ m = 3 ∨ m = 4 ∨ m = 5 ∨ m = 6 := by omega
          clear hj
          rcases hm7 with rfl | rfl | rfl | rfl | rfl | rfl | rfl
          · rw [show ((((0 : Nat) + 1 : Nat) : Int) + 7) = 8 from rfl, bitA_lit R]
            by_cases hbit : bt R 8 = 1
            · have ht : ((bt R 8 : Int) == 1) = true := by rw [hbit]; rfl
              have H1 : Hid (bt R 8 = 1) := hbit
              clear hbit
              have hb1 := bt_lt R 4
              have hb2 := bt_lt R 3
              have hb3 := bt_lt R 2
              have hb4 := bt_lt R 0
              go_wp2
              go_roundw
              case rel =>
                refine ⟨0, r + 1, by have := HJ.out; omega, rfl, ?_⟩
                rw [rd_hit P r 8 (by have := HJ.out; omega) (by rw [HR.out]; exact H1.out), HR.out, ← red_set R 8 (by omega) (by omega) H1.out]
                simp only [one_sub]
                rfl
              case measure => simp [intOf]
            · have ht : ((bt R 8 : Int) == 1) = false := by
                have := bt_lt R 8
                rw [show bt R 8 = 0 by omega]; rfl
              have H1 : Hid (¬ bt R 8 = 1) := hbit
              clear hbit
              go_wp2
              go_roundw
              case rel =>
                refine ⟨0, r + 1, by have := HJ.out; omega, rfl, ?_⟩
                rw [rd_miss P r 8 (by have := HJ.out; omega) (by rw [HR.out]; exact H1.out), HR.out, bitA_lit R]
              case measure => simp [intOf]
          · rw [show ((((1 : Nat) + 1 : Nat) : Int) + 7) = 9 from rfl, bitA_lit R]
            by_cases hbit : bt R 9 = 1
            · have ht : ((bt R 9 : Int) == 1) = true := by rw [hbit]; rfl
              have H1 : Hid (bt R 9 = 1) := hbit
              clear hbit
              have hb1 := bt_lt R 5
              have hb2 := bt_lt R 4
              have hb3 := bt_lt R 3
              have hb4 := bt_lt R 1
              go_wp2
              go_roundw
              case rel =>
                refine ⟨1, r + 1, by have := HJ.out; omega, rfl, ?_⟩
                rw [rd_hit P r 9 (by have := HJ.out; omega) (by rw [HR.out]; exact H1.out), HR.out, ← red_set R 9 (by omega) (by omega) H1.out]
                simp only [one_sub]
                rfl
              case measure => simp [intOf]
            · have ht : ((bt R 9 : Int) == 1) = false := by
                have := bt_lt R 9
                rw [show bt R 9 = 0 by omega]; rfl
              have H1 : Hid (¬ bt R 9 = 1) := hbit
              clear hbit
              go_wp2
              go_roundw
              case rel =>
                refine ⟨1, r + 1, by have := HJ.out; omega, rfl, ?_⟩
                rw [rd_miss P r 9 (by have := HJ.out; omega) (by rw [HR.out]; exact H1.out), HR.out, bitA_lit R]
              case measure => simp [intOf]
          · rw [show ((((2 : Nat) + 1 : Nat) : Int) + 7) = 10 from rfl, bitA_lit R]
            by_cases hbit : bt R 10 = 1
            · have ht : ((bt R 10 : Int) == 1) = true := by rw [hbit]; rfl
              have H1 : Hid (bt R 10 = 1) := hbit
              clear hbit
              have hb1 := bt_lt R 6
              have hb2 := bt_lt R 5
              have hb3 := bt_lt R 4
              have hb4 := bt_lt R 2
              go_wp2
              go_roundw
              case rel =>
                refine ⟨2, r + 1, by have := HJ.out; omega, rfl, ?_⟩
                rw [rd_hit P r 10 (by have := HJ.out; omega) (by rw [HR.out]; exact H1.out), HR.out, ← red_set R 10 (by omega) (by omega) H1.out]
                simp only [one_sub]
                rfl
              case measure => simp [intOf]
            · have ht : ((bt R 10 : Int) == 1) = false := by
                have := bt_lt R 10
                rw [show bt R 10 = 0 by omega]; rfl
              have H1 : Hid (¬ bt R 10 = 1) := hbit
              clear hbit
              go_wp2
              go_roundw
              case rel =>
                refine ⟨2, r + 1, by have := HJ.out; omega, rfl, ?_⟩
                rw [rd_miss P r 10 (by have := HJ.out; omega) (by rw [HR.out]; exact H1.out), HR.out, bitA_lit R]
              case measure => simp [intOf]
          · rw [show ((((3 : Nat) + 1 : Nat) : Int) + 7) = 11 from rfl, bitA_lit R]
            by_cases hbit : bt R 11 = 1
            · have ht : ((bt R 11 : Int) == 1) = true := by rw [hbit]; rfl
              have H1 : Hid (bt R 11 = 1) := hbit
              clear hbit
              have hb1 := bt_lt R 7
              have hb2 := bt_lt R 6
              have hb3 := bt_lt R 5
              have hb4 := bt_lt R 3
              go_wp2
              go_roundw
              case rel =>
                refine ⟨3, r + 1, by have := HJ.out; omega, rfl, ?_⟩
                rw [rd_hit P r 11 (by have := HJ.out; omega) (by rw [HR.out]; exact H1.out), HR.out, ← red_set R 11 (by omega) (by omega) H1.out]
                simp only [one_sub]
                rfl
              case measure => simp [intOf]
            · have ht : ((bt R 11 : Int) == 1) = false := by
                have := bt_lt R 11
                rw [show bt R 11 = 0 by omega]; rfl
              have H1 : Hid (¬ bt R 11 = 1) := hbit
              clear hbit
              go_wp2
              go_roundw
              case rel =>
                refine ⟨3, r + 1, by have := HJ.out; omega, rfl, ?_⟩
                rw [rd_miss P r 11 (by have := HJ.out; omega) (by rw [HR.out]; exact H1.out), HR.out, bitA_lit R]
              case measure => simp [intOf]
          · rw [show ((((4 : Nat) + 1 : Nat) : Int) + 7) = 12 from rfl, bitA_lit R]
            by_cases hbit : bt R 12 = 1
            · have ht : ((bt R 12 : Int) == 1) = true := by rw [hbit]; rfl
              have H1 : Hid (bt R 12 = 1) := hbit
              clear hbit
              have hb1 := bt_lt R 8
              have hb2 := bt_lt R 7
              have hb3 := bt_lt R 6
              have hb4 := bt_lt R 4
              go_wp2
              go_roundw
              case rel =>
                refine ⟨4, r + 1, by have := HJ.out; omega, rfl, ?_⟩
                rw [rd_hit P r 12 (by have := HJ.out; omega) (by rw [HR.out]; exact H1.out), HR.out, ← red_set R 12 (by omega) (by omega) H1.out]
                simp only [one_sub]
                rfl
              case measure => simp [intOf]
            · have ht : ((bt R 12 : Int) == 1) = false := by
                have := bt_lt R 12
                rw [show bt R 12 = 0 by omega]; rfl
              have H1 : Hid (¬ bt R 12 = 1) := hbit
              clear hbit
              go_wp2
              go_roundw
              case rel =>
                refine ⟨4, r + 1, by have := HJ.out; omega, rfl, ?_⟩
                rw [rd_miss P r 12 (by have := HJ.out; omega) (by rw [HR.out]; exact H1.out), HR.out, bitA_lit R]
              case measure => simp [intOf]
          · rw [show ((((5 : Nat) + 1 : Nat) : Int) + 7) = 13 from rfl, bitA_lit R]
            by_cases hbit : bt R 13 = 1
            · have ht : ((bt R 13 : Int) == 1) = true := by rw [hbit]; rfl
              have H1 : Hid (bt R 13 = 1) := hbit
              clear hbit
              have hb1 := bt_lt R 9
              have hb2 := bt_lt R 8
              have hb3 := bt_lt R 7
              have hb4 := bt_lt R 5
              go_wp2
              go_roundw
              case rel =>
                refine ⟨5, r + 1, by have := HJ.out; omega, rfl, ?_⟩
                rw [rd_hit P r 13 (by have := HJ.out; omega) (by rw [HR.out]; exact H1.out), HR.out, ← red_set R 13 (by omega) (by omega) H1.out]
                simp only [one_sub]
                rfl
              case measure => simp [intOf]
            · have ht : ((bt R 13 : Int) == 1) = false := by
                have := bt_lt R 13
                rw [show bt R 13 = 0 by omega]; rfl
              have H1 : Hid (¬ bt R 13 = 1) := hbit
              clear hbit
              go_wp2
              go_roundw
              case rel =>
                refine ⟨5, r + 1, by have := HJ.out; omega, rfl, ?_⟩
                rw [rd_miss P r 13 (by have := HJ.out; omega) (by rw [HR.out]; exact H1.out), HR.out, bitA_lit R]
              case measure => simp [intOf]
          · rw [show ((((6 : Nat) + 1 : Nat) : Int) + 7) = 14 from rfl, bitA_lit R]
            by_cases hbit : bt R 14 = 1
            · have ht : ((bt R 14 : Int) == 1) = true := by rw [hbit]; rfl
              have H1 : Hid (bt R 14 = 1) := hbit
              clear hbit
              have hb1 := bt_lt R 10
              have hb2 := bt_lt R 9
              have hb3 := bt_lt R 8
              have hb4 := bt_lt R 6
              go_wp2
              go_roundw
              case rel =>
                refine ⟨6, r + 1, by have := HJ.out; omega, rfl, ?_⟩
                rw [rd_hit P r 14 (by have := HJ.out; omega) (by rw [HR.out]; exact H1.out), HR.out, ← red_set R 14 (by omega) (by omega) H1.out]
                simp only [one_sub]
                rfl
              case measure => simp [intOf]
            · have ht : ((bt R 14 : Int) == 1) = false := by
                have := bt_lt R 14
                rw [show bt R 14 = 0 by omega]; rfl
              have H1 : Hid (¬ bt R 14 = 1) := hbit
              clear hbit
              go_wp2
              go_roundw
              case rel =>
                refine ⟨6, r + 1, by have := HJ.out; omega, rfl, ?_⟩
                rw [rd_miss P r 14 (by have := HJ.out; omega) (by rw [HR.out]; exact H1.out), HR.out, bitA_lit R]
              case measure => simp [intOf]
end Go.Proofs.YtbcmgogfpboibaaGreatDoor
