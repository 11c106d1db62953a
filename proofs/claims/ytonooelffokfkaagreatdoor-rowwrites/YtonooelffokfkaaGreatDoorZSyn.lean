/-
  Parities (layers 1, 3, 4) and the field (layer 2): contracts. Conditions: that the texts lie in memory.
-/
import Derived.Test.YtonooelffokfkaaGreatDoorZBase
import Derived.Deep.QuietTactic
import Derived.BigQuiet
import Derived.Deep.RegionWith
import Derived.WalkKit
import Derived.RangeFuncNested
import Derived.RangeFuncBound
import Derived.RangeFuncCalls
import Derived.RangeFuncLeaves
import Derived.RangeFuncBox
import Derived.Shelf.Abstract
import Derived.Shelf.RegionOpen
import Derived.OwnWalkIn
import Derived.TacticsInMore
import Derived.LoopNIn
import Derived.LoopIn
import Derived.Laws.IdiomStrings
import Derived.Laws.Strings
import Derived.WideShapes
import Derived.Test.YtonooelffokfkaaGreatDoorRows
import Derived.WalkSpells
import Derived.Defers
import Derived.Laws.Pointers
import Derived.Laws.LoneSync
import Derived.RegionTactic
import Derived.RegionCalls
import Derived.Laws.NewBlocks
namespace Go.Proofs.YtonooelffokfkaaGreatDoor
open Go.RowKit Plain

/-- the k highest of eight bytes, as a number. -/
def hz (f : Nat → Nat) : Nat → Nat
  | 0 => 0
  | k + 1 => 256 * hz f k + f (7 - k)

def cut (f : Nat → Nat) (k i : Nat) : Nat := if i < k then f i else 0


end Go.Proofs.YtonooelffokfkaaGreatDoor

namespace Go.Proofs.YtonooelffokfkaaGreatDoor
open Go.RowKit Plain

def bitV (P m : Nat) : Value := .int .i64 (bt P m : Nat)
def bitA (P : Nat) : Array Value := #[bitV P 0, bitV P 1, bitV P 2, bitV P 3, bitV P 4, bitV P 5, bitV P 6, bitV P 7, bitV P 8, bitV P 9, bitV P 10, bitV P 11, bitV P 12, bitV P 13, bitV P 14]
theorem bitA_size (P : Nat) : (bitA P).size = 15 := rfl
theorem cases15 (i : Nat) (h : i < 15) : i = 0 ∨ i = 1 ∨ i = 2 ∨ i = 3 ∨ i = 4 ∨ i = 5 ∨ i = 6 ∨ i = 7 ∨ i = 8 ∨ i = 9 ∨ i = 10 ∨ i = 11 ∨ i = 12 ∨ i = 13 ∨ i = 14 := by omega
theorem bitA_at (P i : Nat) (h : i < 15) : (bitA P)[i]? = some (.int .i64 (bt P i : Nat)) := by
  rcases cases15 i h with rfl | rfl | rfl | rfl | rfl | rfl | rfl | rfl | rfl | rfl | rfl | rfl | rfl | rfl | rfl <;> rfl
theorem bitA_get (P i : Nat) (h : i < 15) (h' : i < (bitA P).size) : (bitA P)[i]'h' = .int .i64 (bt P i : Nat) := by
  have hc := bitA_at P i h
  rw [Array.getElem?_eq_getElem h'] at hc
  exact Option.some.inj hc
theorem bitA_set (P Q m v : Nat) (hm : m < 15) (ho : ∀ i, i ≠ m → bt Q i = bt P i) (ha : bt Q m = v) : (bitA P).setIfInBounds m (.int .i64 (v : Nat)) = bitA Q := by
  have e : (.int .i64 (v : Nat) : Value) = bitV Q m := by unfold bitV; rw [ha]
  have hv : ∀ i, i ≠ m → bitV P i = bitV Q i := fun i hi => by unfold bitV; rw [ho i hi]
  rw [e]
  rcases cases15 m hm with rfl | rfl | rfl | rfl | rfl | rfl | rfl | rfl | rfl | rfl | rfl | rfl | rfl | rfl | rfl <;> unfold bitA <;> simp [hv]
theorem bt_pow (m j : Nat) : bt (2 ^ m) j = if j = m then 1 else 0 := by
  unfold bt
  have h := Nat.testBit_two_pow (n := m) (m := j)
  rw [Nat.testBit_eq_decide_div_mod_eq] at h
  by_cases e : j = m
  · subst e; rw [if_pos rfl, Nat.div_self (Nat.pow_pos (by omega))]
  · rw [if_neg e]
    have e' : ¬ m = j := fun h => e h.symm
    simp [e'] at h; omega
theorem bt_zero (j : Nat) : bt 0 j = 0 := by unfold bt; simp
/-- a bit turned. -/
theorem turn_set (P m : Nat) (hm : m < 15) (v : Nat) (hv : v = 1 - bt P m) : (bitA P).setIfInBounds m (.int .i64 (v : Nat)) = bitA (P ^^^ 2 ^ m) := by
  have hb := bt_lt P m
  refine bitA_set P _ m v hm (fun i hi => ?_) ?_
  · rw [bt_xor, bt_pow, if_neg hi, Nat.xor_zero]
  · rw [bt_xor, bt_pow, if_pos rfl, hv]
    have : bt P m = 0 ∨ bt P m = 1 := by omega
    rcases this with h | h <;> rw [h] <;> rfl
/-- a bit kept. -/
theorem keep_set (P m : Nat) (hm : m < 15) (v : Nat) (hv : v = bt P m) : (bitA P).setIfInBounds m (.int .i64 (v : Nat)) = bitA P :=
  bitA_set P P m v hm (fun _ _ => rfl) hv.symm
theorem bitA_zero : bitA 0 = #[.int .i64 0, .int .i64 0, .int .i64 0, .int .i64 0, .int .i64 0, .int .i64 0, .int .i64 0, .int .i64 0, .int .i64 0, .int .i64 0, .int .i64 0, .int .i64 0, .int .i64 0, .int .i64 0, .int .i64 0] := by
  unfold bitA bitV; simp [bt_zero]

end Go.Proofs.YtonooelffokfkaaGreatDoor

namespace Go.Proofs.YtonooelffokfkaaGreatDoor
open Go.RowKit Plain

theorem qb_lt (a i : Nat) (h : a < 256) : qb a i < 256 := Nat.lt_of_le_of_lt (Nat.div_le_self _ _) h
theorem qb_step (a i : Nat) : (qb a i : Int) / 2 = ((qb a (i + 1) : Nat) : Int) := by
  have e : qb a (i + 1) = qb a i / 2 := by unfold qb; rw [Nat.pow_succ, Nat.div_div_eq_div_mul]
  rw [e]; omega
theorem cell_step (B x y : Nat) (hB : B < 2) : (wrap64 ((B : Int) + wrap64 ((x : Int) % 2 * ((y : Int) % 2)))).tmod 2 = (((B + x % 2 * (y % 2)) % 2 : Nat) : Int) := by
  have h1 : x % 2 = 0 ∨ x % 2 = 1 := by omega
  have h2 : y % 2 = 0 ∨ y % 2 = 1 := by omega
  have h3 : B = 0 ∨ B = 1 := by omega
  have e1 : (x : Int) % 2 = ((x % 2 : Nat) : Int) := by omega
  have e2 : (y : Int) % 2 = ((y % 2 : Nat) : Int) := by omega
  rw [e1, e2]
  rcases h1 with h1 | h1 <;> rcases h2 with h2 | h2 <;> rcases h3 with h3 | h3 <;> rw [h1, h2, h3] <;> decide +kernel
theorem inn_set (a b i P k : Nat) (hk : i + k < 15) :
    (bitA (inn a b i P k)).setIfInBounds (i + k) (.int .i64 (((bt (inn a b i P k) (i + k) + qb a i % 2 * (qb b k % 2)) % 2 : Nat) : Int)) = bitA (inn a b i P (k + 1)) := by
  have hb := bt_lt (inn a b i P k) (i + k)
  have h1 : qb a i % 2 = 0 ∨ qb a i % 2 = 1 := by omega
  have h2 : qb b k % 2 = 0 ∨ qb b k % 2 = 1 := by omega
  have e : inn a b i P (k + 1) = inn a b i P k ^^^ term a b i k := rfl
  rw [e]
  unfold term
  rcases h1 with h1 | h1 <;> rcases h2 with h2 | h2 <;> rw [h1, h2]
  · rw [Nat.zero_mul, Nat.zero_mul, Nat.xor_zero]; exact keep_set _ _ hk _ (by omega)
  · rw [Nat.zero_mul, Nat.zero_mul, Nat.xor_zero]; exact keep_set _ _ hk _ (by omega)
  · rw [Nat.mul_zero, Nat.zero_mul, Nat.xor_zero]; exact keep_set _ _ hk _ (by omega)
  · rw [Nat.one_mul, Nat.one_mul]; exact turn_set _ _ hk _ (by omega)
theorem bt_off (P m j : Nat) (h : j ≠ m) : bt (P ^^^ 2 ^ m) j = bt P j := by
  rw [bt_xor, bt_pow, if_neg h, Nat.xor_zero]
/-- the five coefficients that a step of the remainder turns. -/
theorem red_set (P M : Nat) (h8 : 8 ≤ M) (hM : M < 15) (h1 : bt P M = 1) :
    (((((bitA P).setIfInBounds M (.int .i64 ((0 : Nat) : Int))).setIfInBounds (M - 4) (.int .i64 ((1 - bt P (M - 4) : Nat) : Int))).setIfInBounds (M - 5) (.int .i64 ((1 - bt P (M - 5) : Nat) : Int))).setIfInBounds (M - 6) (.int .i64 ((1 - bt P (M - 6) : Nat) : Int))).setIfInBounds (M - 8) (.int .i64 ((1 - bt P (M - 8) : Nat) : Int)) = bitA (P ^^^ poly M) := by
  rw [turn_set P M hM 0 (by omega),
    turn_set _ (M - 4) (by omega) _ (by rw [bt_off _ _ _ (by omega)]),
    turn_set _ (M - 5) (by omega) _ (by rw [bt_off _ _ _ (by omega), bt_off _ _ _ (by omega)]),
    turn_set _ (M - 6) (by omega) _ (by rw [bt_off _ _ _ (by omega), bt_off _ _ _ (by omega), bt_off _ _ _ (by omega)]),
    turn_set _ (M - 8) (by omega) _ (by rw [bt_off _ _ _ (by omega), bt_off _ _ _ (by omega), bt_off _ _ _ (by omega), bt_off _ _ _ (by omega)])]
  unfold poly
  simp only [Nat.xor_assoc]
theorem bitA_lit (P : Nat) : bitA P = #[.int .i64 (bt P 0 : Nat), .int .i64 (bt P 1 : Nat), .int .i64 (bt P 2 : Nat), .int .i64 (bt P 3 : Nat), .int .i64 (bt P 4 : Nat), .int .i64 (bt P 5 : Nat), .int .i64 (bt P 6 : Nat), .int .i64 (bt P 7 : Nat), .int .i64 (bt P 8 : Nat), .int .i64 (bt P 9 : Nat), .int .i64 (bt P 10 : Nat), .int .i64 (bt P 11 : Nat), .int .i64 (bt P 12 : Nat), .int .i64 (bt P 13 : Nat), .int .i64 (bt P 14 : Nat)] := rfl
def nz (P : Nat) : Nat → Nat
  | 0 => 0
  | r + 1 => 2 * nz P r + bt P (7 - r)
theorem nz_lt (P : Nat) : ∀ r, nz P r < 2 ^ r
  | 0 => by simp [nz]
  | r + 1 => by
    have h1 := nz_lt P r
    have h2 := bt_lt P (7 - r)
    simp only [nz]; rw [Nat.pow_succ]; omega
theorem low_bit (P k : Nat) (hk : k < 8) : P % 256 / 2 ^ k % 2 = P / 2 ^ k % 2 := by
  have h : k = 0 ∨ k = 1 ∨ k = 2 ∨ k = 3 ∨ k = 4 ∨ k = 5 ∨ k = 6 ∨ k = 7 := by omega
  rcases h with rfl | rfl | rfl | rfl | rfl | rfl | rfl | rfl <;> simp only [Nat.reducePow] <;> omega
theorem nz_part (P : Nat) : ∀ r, r ≤ 8 → nz P r = P % 256 / 2 ^ (8 - r)
  | 0, _ => by
    have : P % 256 < 256 := Nat.mod_lt _ (by omega)
    simp only [nz, Nat.sub_zero, Nat.reducePow]; omega
  | r + 1, h => by
    simp only [nz]
    rw [nz_part P r (by omega), show 8 - r = (7 - r) + 1 by omega, show 8 - (r + 1) = 7 - r by omega, Nat.pow_succ, ← Nat.div_div_eq_div_mul]
    have hl := low_bit P (7 - r) (by omega)
    unfold bt
    rw [← hl]; omega
theorem nz_is (P : Nat) : nz P 8 = P % 256 := by
  rw [nz_part P 8 (by omega)]; simp
theorem one_sub (P m : Nat) : (1 : Int) - (bt P m : Int) = ((1 - bt P m : Nat) : Int) := by
  have := bt_lt P m; omega
theorem rd_hit (P r M : Nat) (hM : 14 - r = M) (h : bt (rd P r) M = 1) : rd P (r + 1) = rd P r ^^^ poly M := by
  simp only [rd]; rw [hM, if_pos h]
theorem rd_miss (P r M : Nat) (hM : 14 - r = M) (h : ¬ bt (rd P r) M = 1) : rd P (r + 1) = rd P r := by
  simp only [rd]; rw [hM, if_neg h]

set_option maxRecDepth 100000 in
set_option maxHeartbeats 4000000 in
theorem mul_any (a b : Nat) (ha : a < 256) (hb : b < 256) (w : World) :
    Calls Tryz.prog 138 #[.int .u8 a, .int .u8 b] w fun e w' => e = .returned (.int .u8 (mlN a b : Nat)) ∧ w' = w.alloc (.cells (bitA (rd (out a b 8) 7)) 282) := by
  go_enter Tryz.func138, Tryz.ntmps138
  go_wp2
  go_loopw [6, 7] (fun X i wr => ∃ k : Nat, k ≤ 8 ∧ i = .int .i64 k ∧ X = .int .i64 (qb a k : Nat) ∧ wr = w.alloc (.cells (bitA (out a b k)) 282)) (fun _ i _ => 8 - (intOf i).toNat)
  case atStart => exact ⟨0, by omega, rfl, by unfold qb; simp, by rw [show out a b 0 = 0 from rfl, bitA_zero]⟩
  case round =>
    obtain ⟨i, hi, rfl, rfl, rfl⟩ := hrel
    have hqa := qb_lt a i ha
    by_cases hlt : i < 8
    · go_wp2
      go_loopw [8, 9] (fun Y k wr => ∃ m : Nat, m ≤ 8 ∧ k = .int .i64 m ∧ Y = .int .i64 (qb b m : Nat) ∧ wr = w.alloc (.cells (bitA (inn a b i (out a b i) m)) 282)) (fun _ k _ => 8 - (intOf k).toNat)
      case atStart => exact ⟨0, by omega, rfl, by unfold qb; simp, rfl⟩
      case round =>
        obtain ⟨k, hk, rfl, rfl, rfl⟩ := hrel
        have hqb := qb_lt b k hb
        by_cases hlk : k < 8
        · obtain ⟨A, hA, hkA, hc⟩ : ∃ A, bitA (inn a b i (out a b i) k) = A ∧ ∃ h : i + k < A.size, A[i + k]'h = .int .i64 (bt (inn a b i (out a b i) k) (i + k) : Nat) :=
            ⟨_, rfl, by rw [bitA_size]; omega, bitA_get _ _ (by omega) _⟩
          have HA : Hid (bitA (inn a b i (out a b i) k) = A) := hA
          rw [hA]
          clear hA
          go_wp2
          go_roundw
          case rel => exact ⟨k + 1, by omega, by go_num, by rw [qb_step], by rw [cell_step _ _ _ (bt_lt _ _), ← HA.out, inn_set a b i _ k (by omega)]⟩
          case measure => simp [intOf]; omega
        · obtain rfl : k = 8 := by omega
          go_wp2
          go_roundw
          case rel => exact ⟨i + 1, by omega, by go_num, by rw [qb_step], rfl⟩
          case measure => simp [intOf]; omega
    · obtain rfl : i = 8 := by omega
      clear hlt hi
      obtain ⟨P, hP⟩ : ∃ P, out a b 8 = P := ⟨_, rfl⟩
      have HP : Hid (out a b 8 = P) := hP
      rw [hP]
      clear hP
      go_wp2
      go_loopw [10] (fun i wr => ∃ j r : Nat, j + r = 7 ∧ i = .int .i64 ((j : Int) + 7) ∧ wr = w.alloc (.cells (bitA (rd P r)) 282)) (fun i _ => (intOf i - 7).toNat)
      case atStart => exact ⟨7, 0, by omega, rfl, rfl⟩
      case round =>
        obtain ⟨j, r, hj, rfl, rfl⟩ := hrel
        by_cases h0 : j = 0
        · subst h0
          obtain rfl : r = 7 := by omega
          clear hj
          obtain ⟨R, hR⟩ : ∃ R, rd P 7 = R := ⟨_, rfl⟩
          have HR : Hid (rd P 7 = R) := hR
          rw [hR]
          clear hR
          go_wp2
          go_loop [11, 12] (fun n i => ∃ j r : Nat, j + r = 8 ∧ i = .int .i64 ((j : Int) - 1) ∧ n = .int .i64 (nz R r : Nat)) (fun _ i => (intOf i + 1).toNat)
          case atStart => exact ⟨8, 0, by omega, rfl, rfl⟩
          case round =>
            obtain ⟨j, r, hj, rfl, rfl⟩ := hrel
            by_cases h0 : j = 0
            · subst h0
              obtain rfl : r = 8 := by omega
              clear hj
              rw [nz_is]
              go_wp2
              go_ret
              refine ⟨ret_int ?_, by rw [HP.out, HR.out]⟩
              unfold mlN
              rw [HP.out, HR.out]; omega
            · obtain ⟨m, rfl⟩ : ∃ m, j = m + 1 := ⟨j - 1, by omega⟩
              have e : ((m + 1 : Nat) : Int) - 1 = (m : Int) := by omega
              have hc := bitA_at R m (by omega)
              rw [e]
              clear e
              have hm : m < 8 := by omega
              have hnl : nz R r < 256 := by
                have h1 := nz_lt R r
                have h2 : (2 : Nat) ^ r ≤ 2 ^ 8 := Nat.pow_le_pow_right (by omega) (by omega)
                omega
              have hbl := bt_lt R m
              have HJ : Hid (m + 1 + r = 8) := hj
              clear hj h0
              go_wp2
              go_round
              case rel =>
                have hj : m + 1 + r = 8 := HJ.out
                refine ⟨m, r + 1, by omega, rfl, ?_⟩
                simp only [nz]; rw [show 7 - r = m by omega]; go_num
              case measure => simp [intOf]
        · obtain ⟨m, rfl⟩ : ∃ m, j = m + 1 := ⟨j - 1, by omega⟩
          obtain ⟨R, hR⟩ : ∃ R, rd P r = R := ⟨_, rfl⟩
          have HR : Hid (rd P r = R) := hR
          rw [hR]
          clear hR h0
          have HJ : Hid (m + 1 + r = 7) := hj
          have hm7 : m = 0 ∨ m = 1 ∨ m = 2 ∨ m = 3 ∨ m = 4 ∨ m = 5 ∨ m = 6 := by omega
          clear hj
          rcases hm7 with rfl | rfl | rfl | rfl | rfl | rfl | rfl
          · rw [show ((((0 : Nat) + 1 : Nat) : Int) + 7) = 8 from rfl, bitA_lit R]
            by_cases hbit : bt R 8 = 1
            · have ht : ((bt R 8 : Int) == 1) = true := by rw [hbit]; rfl
              have H1 : Hid (bt R 8 = 1) := hbit
              clear hbit
              have hb1 := bt_lt R 4
              have hb2 := bt_lt R 3
              have hb3 := bt_lt R 2
              have hb4 := bt_lt R 0
              go_wp2
              go_roundw
              case rel =>
                refine ⟨0, r + 1, by have := HJ.out; omega, rfl, ?_⟩
                rw [rd_hit P r 8 (by have := HJ.out; omega) (by rw [HR.out]; exact H1.out), HR.out, ← red_set R 8 (by omega) (by omega) H1.out]
                simp only [one_sub]
                rfl
              case measure => simp [intOf]
            · have ht : ((bt R 8 : Int) == 1) = false := by
                have := bt_lt R 8
                rw [show bt R 8 = 0 by omega]; rfl
              have H1 : Hid (¬ bt R 8 = 1) := hbit
              clear hbit
              go_wp2
              go_roundw
              case rel =>
                refine ⟨0, r + 1, by have := HJ.out; omega, rfl, ?_⟩
                rw [rd_miss P r 8 (by have := HJ.out; omega) (by rw [HR.out]; exact H1.out), HR.out, bitA_lit R]
              case measure => simp [intOf]
          · rw [show ((((1 : Nat) + 1 : Nat) : Int) + 7) = 9 from rfl, bitA_lit R]
            by_cases hbit : bt R 9 = 1
            · have ht : ((bt R 9 : Int) == 1) = true := by rw [hbit]; rfl
              have H1 : Hid (bt R 9 = 1) := hbit
              clear hbit
              have hb1 := bt_lt R 5
              have hb2 := bt_lt R 4
              have hb3 := bt_lt R 3
              have hb4 := bt_lt R 1
              go_wp2
              go_roundw
              case rel =>
                refine ⟨1, r + 1, by have := HJ.out; omega, rfl, ?_⟩
                rw [rd_hit P r 9 (by have := HJ.out; omega) (by rw [HR.out]; exact H1.out), HR.out, ← red_set R 9 (by omega) (by omega) H1.out]
                simp only [one_sub]
                rfl
              case measure => simp [intOf]
            · have ht : ((bt R 9 : Int) == 1) = false := by
                have := bt_lt R 9
                rw [show bt R 9 = 0 by omega]; rfl
              have H1 : Hid (¬ bt R 9 = 1) := hbit
              clear hbit
              go_wp2
              go_roundw
              case rel =>
                refine ⟨1, r + 1, by have := HJ.out; omega, rfl, ?_⟩
                rw [rd_miss P r 9 (by have := HJ.out; omega) (by rw [HR.out]; exact H1.out), HR.out, bitA_lit R]
              case measure => simp [intOf]
          · rw [show ((((2 : Nat) + 1 : Nat) : Int) + 7) = 10 from rfl, bitA_lit R]
            by_cases hbit : bt R 10 = 1
            · have ht : ((bt R 10 : Int) == 1) = true := by rw [hbit]; rfl
              have H1 : Hid (bt R 10 = 1) := hbit
              clear hbit
              have hb1 := bt_lt R 6
              have hb2 := bt_lt R 5
              have hb3 := bt_lt R 4
              have hb4 := bt_lt R 2
              go_wp2
              go_roundw
              case rel =>
                refine ⟨2, r + 1, by have := HJ.out; omega, rfl, ?_⟩
                rw [rd_hit P r 10 (by have := HJ.out; omega) (by rw [HR.out]; exact H1.out), HR.out, ← red_set R 10 (by omega) (by omega) H1.out]
                simp only [one_sub]
                rfl
              case measure => simp [intOf]
            · have ht : ((bt R 10 : Int) == 1) = false := by
                have := bt_lt R 10
                rw [show bt R 10 = 0 by omega]; rfl
              have H1 : Hid (¬ bt R 10 = 1) := hbit
              clear hbit
              go_wp2
              go_roundw
              case rel =>
                refine ⟨2, r + 1, by have := HJ.out; omega, rfl, ?_⟩
                rw [rd_miss P r 10 (by have := HJ.out; omega) (by rw [HR.out]; exact H1.out), HR.out, bitA_lit R]
              case measure => simp [intOf]
          · rw [show ((((3 : Nat) + 1 : Nat) : Int) + 7) = 11 from rfl, bitA_lit R]
            by_cases hbit : bt R 11 = 1
            · have ht : ((bt R 11 : Int) == 1) = true := by rw [hbit]; rfl
              have H1 : Hid (bt R 11 = 1) := hbit
              clear hbit
              have hb1 := bt_lt R 7
              have hb2 := bt_lt R 6
              have hb3 := bt_lt R 5
              have hb4 := bt_lt R 3
              go_wp2
              go_roundw
              case rel =>
                refine ⟨3, r + 1, by have := HJ.out; omega, rfl, ?_⟩
                rw [rd_hit P r 11 (by have := HJ.out; omega) (by rw [HR.out]; exact H1.out), HR.out, ← red_set R 11 (by omega) (by omega) H1.out]
                simp only [one_sub]
                rfl
              case measure => simp [intOf]
            · have ht : ((bt R 11 : Int) == 1) = false := by
                have := bt_lt R 11
                rw [show bt R 11 = 0 by omega]; rfl
              have H1 : Hid (¬ bt R 11 = 1) := hbit
              clear hbit
              go_wp2
              go_roundw
              case rel =>
                refine ⟨3, r + 1, by have := HJ.out; omega, rfl, ?_⟩
                rw [rd_miss P r 11 (by have := HJ.out; omega) (by rw [HR.out]; exact H1.out), HR.out, bitA_lit R]
              case measure => simp [intOf]
          · rw [show ((((4 : Nat) + 1 : Nat) : Int) + 7) = 12 from rfl, bitA_lit R]
            by_cases hbit : bt R 12 = 1
            · have ht : ((bt R 12 : Int) == 1) = true := by rw [hbit]; rfl
              have H1 : Hid (bt R 12 = 1) := hbit
              clear hbit
              have hb1 := bt_lt R 8
              have hb2 := bt_lt R 7
              have hb3 := bt_lt R 6
              have hb4 := bt_lt R 4
              go_wp2
              go_roundw
              case rel =>
                refine ⟨4, r + 1, by have := HJ.out; omega, rfl, ?_⟩
                rw [rd_hit P r 12 (by have := HJ.out; omega) (by rw [HR.out]; exact H1.out), HR.out, ← red_set R 12 (by omega) (by omega) H1.out]
                simp only [one_sub]
                rfl
              case measure => simp [intOf]
            · have ht : ((bt R 12 : Int) == 1) = false := by
                have := bt_lt R 12
                rw [show bt R 12 = 0 by omega]; rfl
              have H1 : Hid (¬ bt R 12 = 1) := hbit
              clear hbit
              go_wp2
              go_roundw
              case rel =>
                refine ⟨4, r + 1, by have := HJ.out; omega, rfl, ?_⟩
                rw [rd_miss P r 12 (by have := HJ.out; omega) (by rw [HR.out]; exact H1.out), HR.out, bitA_lit R]
              case measure => simp [intOf]
          · rw [show ((((5 : Nat) + 1 : Nat) : Int) + 7) = 13 from rfl, bitA_lit R]
            by_cases hbit : bt R 13 = 1
            · have ht : ((bt R 13 : Int) == 1) = true := by rw [hbit]; rfl
              have H1 : Hid (bt R 13 = 1) := hbit
              clear hbit
              have hb1 := bt_lt R 9
              have hb2 := bt_lt R 8
              have hb3 := bt_lt R 7
              have hb4 := bt_lt R 5
              go_wp2
              go_roundw
              case rel =>
                refine ⟨5, r + 1, by have := HJ.out; omega, rfl, ?_⟩
                rw [rd_hit P r 13 (by have := HJ.out; omega) (by rw [HR.out]; exact H1.out), HR.out, ← red_set R 13 (by omega) (by omega) H1.out]
                simp only [one_sub]
                rfl
              case measure => simp [intOf]
            · have ht : ((bt R 13 : Int) == 1) = false := by
                have := bt_lt R 13
                rw [show bt R 13 = 0 by omega]; rfl
              have H1 : Hid (¬ bt R 13 = 1) := hbit
              clear hbit
              go_wp2
              go_roundw
              case rel =>
                refine ⟨5, r + 1, by have := HJ.out; omega, rfl, ?_⟩
                rw [rd_miss P r 13 (by have := HJ.out; omega) (by rw [HR.out]; exact H1.out), HR.out, bitA_lit R]
              case measure => simp [intOf]
          · rw [show ((((6 : Nat) + 1 : Nat) : Int) + 7) = 14 from rfl, bitA_lit R]
            by_cases hbit : bt R 14 = 1
            · have ht : ((bt R 14 : Int) == 1) = true := by rw [hbit]; rfl
              have H1 : Hid (bt R 14 = 1) := hbit
              clear hbit
              have hb1 := bt_lt R 10
              have hb2 := bt_lt R 9
              have hb3 := bt_lt R 8
              have hb4 := bt_lt R 6
              go_wp2
              go_roundw
              case rel =>
                refine ⟨6, r + 1, by have := HJ.out; omega, rfl, ?_⟩
                rw [rd_hit P r 14 (by have := HJ.out; omega) (by rw [HR.out]; exact H1.out), HR.out, ← red_set R 14 (by omega) (by omega) H1.out]
                simp only [one_sub]
                rfl
              case measure => simp [intOf]
            · have ht : ((bt R 14 : Int) == 1) = false := by
                have := bt_lt R 14
                rw [show bt R 14 = 0 by omega]; rfl
              have H1 : Hid (¬ bt R 14 = 1) := hbit
              clear hbit
              go_wp2
              go_roundw
              case rel =>
                refine ⟨6, r + 1, by have := HJ.out; omega, rfl, ?_⟩
                rw [rd_miss P r 14 (by have := HJ.out; omega) (by rw [HR.out]; exact H1.out), HR.out, bitA_lit R]
              case measure => simp [intOf]
end Go.Proofs.YtonooelffokfkaaGreatDoor

namespace Go.Proofs.YtonooelffokfkaaGreatDoor
open Go.RowKit Plain Go.BigFrame

set_option maxHeartbeats 4000000 in
theorem length_some (b off cap : Nat) (l : List ByteArray) (h0 : 0 < l.length) (h1 : l.length ≤ cap) (h2 : cap ≤ maxLen) (hs : ∀ i, i < l.length → (l.getD i noS).size ≤ maxLen) (w : World) (hc : ∀ i, i < l.length → w.cell? ⟨b, off + i, none⟩ = some (.string (l.getD i noS))) :
    Calls Tryz.prog 207 #[.slice (some ⟨b, off, none⟩) l.length cap] w fun e w' => e = .returned (.tuple #[.int .i64 (lenS l : Nat), .int .i64 (fitE l)]) ∧ w' = w := by
  unfold maxLen at h2 hs
  go_enter Tryz.func207, Tryz.ntmps207
  go_wp2
  go_loop [11] (fun i => ∃ k : Nat, k ≤ l.length ∧ i = .int .i64 k ∧ ∀ j, j < k → (l.getD j noS).size ≤ 65536) (fun i => l.length - (intOf i).toNat)
  case atStart => exact ⟨0, by omega, rfl, fun j hj => by omega⟩
  case round =>
    obtain ⟨k, hk, rfl, hall⟩ := hrel
    have HA : Hid (∀ j, j < k → (l.getD j noS).size ≤ 65536) := hall
    clear hall
    by_cases hlt : k < l.length
    · have hck := hc k hlt
      have hsk := hs k hlt
      obtain ⟨s, hse⟩ : ∃ s, s = l.getD k noS := ⟨_, rfl⟩
      rw [← hse] at hck hsk
      have HS : Hid (s = l.getD k noS) := hse
      clear hse hc hs
      by_cases hb : s.size ≤ 65536
      · go_wp2
        go_round
        case rel => exact ⟨k + 1, by omega, by go_num, fun j hj => by
          by_cases e : j = k
          · subst e; rw [← HS.out]; exact hb
          · exact HA.out j (by omega)⟩
        case measure => simp [intOf]; omega
      · have HF : Hid (fitE l = 2) := fit_big k hlt (by rw [← HS.out]; omega)
        go_wp2
        go_ret2
        exact ⟨by rw [HF.out, fit_not l (by rw [HF.out]; omega)]; rfl, rfl⟩
    · obtain rfl : k = l.length := by omega
      go_wp2
      go_loop [6, 21] (fun n i => ∃ m : Nat, m ≤ l.length ∧ i = .int .i64 m ∧ n = .int .i64 (if m = 0 then 0 else ((l.getD 0 noS).size : Nat) : Nat) ∧ ∀ j, j < m → (l.getD j noS).size = (l.getD 0 noS).size) (fun _ i => l.length - (intOf i).toNat)
      case atStart => exact ⟨0, by omega, rfl, rfl, fun j hj => by omega⟩
      case round =>
        obtain ⟨m, hm, rfl, rfl, hall⟩ := hrel
        have HB : Hid (∀ j, j < m → (l.getD j noS).size = (l.getD 0 noS).size) := hall
        clear hall
        by_cases hmt : m < l.length
        · have hck := hc m hmt
          have hsk := hs m hmt
          obtain ⟨s, hse⟩ : ∃ s, s = l.getD m noS := ⟨_, rfl⟩
          obtain ⟨n0, hn0⟩ : ∃ n0, n0 = (l.getD 0 noS).size := ⟨_, rfl⟩
          rw [← hse] at hck hsk
          rw [← hn0]
          have HS : Hid (s = l.getD m noS) := hse
          have HN : Hid (n0 = (l.getD 0 noS).size) := hn0
          clear hse hc hs hn0
          by_cases hm0 : m = 0
          · subst hm0
            simp only [Nat.add_zero] at hck
            have HE : Hid (s.size = n0) := by show s.size = n0; rw [HS.out, HN.out]
            go_wp2
            go_round
            case rel =>
              refine ⟨1, by omega, by go_num, ?_, fun j hj => ?_⟩
              · rw [if_neg (by omega), HE.out, HN.out]
              · obtain rfl : j = 0 := by omega
                exact HN.out.symm
            case measure => simp [intOf]; omega
          · rw [if_neg hm0]
            by_cases he : s.size = n0
            · have hne : ((s.size : Int) != (n0 : Int)) = false := by simp [he]
              have HE : Hid (s.size = n0) := he
              clear he
              go_wp2
              go_round
              case rel => exact ⟨m + 1, by omega, by go_num, by rw [if_neg (by omega), HE.out, HN.out], fun j hj => by
                by_cases e : j = m
                · subst e; rw [← HS.out, HE.out, HN.out]
                · rw [HB.out j (by omega), HN.out]⟩
              case measure => simp [intOf]; omega
            · have hne : ((s.size : Int) != (n0 : Int)) = true := by simp; omega
              have HF : Hid (fitE l = 4) := fit_unlike HA.out m hmt (by rw [← HS.out, ← HN.out]; exact he)
              clear he
              go_wp2
              go_ret2
              exact ⟨by rw [HF.out, fit_not l (by rw [HF.out]; omega)]; rfl, rfl⟩
        · obtain rfl : m = l.length := by omega
          have HF : Hid (fitE l = 0) := fit_ok HA.out HB.out
          rw [if_neg (by omega)]
          obtain ⟨n0, hn0⟩ : ∃ n0, n0 = (l.getD 0 noS).size := ⟨_, rfl⟩
          rw [← hn0]
          have HN : Hid (n0 = (l.getD 0 noS).size) := hn0
          clear hc hs hn0
          go_wp2
          go_ret2
          exact ⟨by rw [HF.out, fit_zero l HF.out, HN.out]; rfl, rfl⟩

end Go.Proofs.YtonooelffokfkaaGreatDoor

namespace Go.Proofs.YtonooelffokfkaaGreatDoor
open Go.RowKit Plain Go.BigFrame

theorem addW_take (l : List ByteArray) (k p : Nat) (h : k < l.length) : addW (l.take (k + 1)) p = addW (l.take k) p ^^^ ldS (l.getD k noS) p 8 := by
  unfold addW
  rw [List.take_add_one, List.foldl_append, List.getElem?_eq_getElem h, List.getD_eq_getElem?_getD, List.getElem?_eq_getElem h]
  rfl
set_option maxHeartbeats 2000000 in
theorem addw_some (c b off cap : Nat) (l : List ByteArray) (h1 : l.length ≤ cap) (h2 : cap ≤ maxLen) (hs : ∀ i, i < l.length → (l.getD i noS).size ≤ maxLen) (w : World) (hv : w.cell? ⟨c, 0, none⟩ = some (.slice (some ⟨b, off, none⟩) l.length cap)) (hc : ∀ i, i < l.length → w.cell? ⟨b, off + i, none⟩ = some (.string (l.getD i noS))) (p : Nat) (hp : p < 9223372036854775807) :
    Calls Tryz.prog 174 #[.int .i64 p, .pointer (some ⟨c, 0, none⟩)] w fun e w' => e = .returned (.int .u64 (addW l p : Nat)) ∧ w' = w := by
  unfold maxLen at h2
  go_enter Tryz.func174, Tryz.ntmps174
  go_wp2
  go_loop [4, 9] (fun X i => ∃ k : Nat, k ≤ l.length ∧ i = .int .i64 k ∧ X = .int .u64 (addW (l.take k) p : Nat)) (fun _ i => l.length - (intOf i).toNat)
  case atStart => exact ⟨0, by omega, rfl, rfl⟩
  case round =>
    obtain ⟨k, hk, rfl, rfl⟩ := hrel
    by_cases hlt : k < l.length
    · have hck := hc k hlt
      have hsk := hs k hlt
      have HS : Hid (addW (l.take (k + 1)) p = addW (l.take k) p ^^^ ldS (l.getD k noS) p 8) := addW_take l k p hlt
      obtain ⟨X, hX⟩ : ∃ X, X = addW (l.take k) p := ⟨_, rfl⟩
      obtain ⟨s, hse⟩ : ∃ s, s = l.getD k noS := ⟨_, rfl⟩
      have hXl : X < 18446744073709551616 := by rw [hX]; exact addW_lt _ _
      rw [← hX, ← hse] at HS
      rw [← hse] at hck hsk
      rw [← hX]
      clear hc hs hX hse
      have hxor := u64_xor_nat X (ldS s p 8) hXl (ldS_lt64 s p 8 (by omega))
      go_wp2_with fail
      refine (load_any s p hsk (by omega) (by omega) _).mono ?_; rintro e w' ⟨rfl, rfl⟩
      go_wp2
      go_round
      case rel => exact ⟨k + 1, by omega, by go_num, by rw [HS.out]⟩
      case measure => simp [intOf]; omega
    · obtain rfl : k = l.length := by omega
      rw [List.take_length]
      go_wp2
      go_ret
      exact ⟨rfl, rfl⟩

set_option maxRecDepth 100000 in
set_option maxHeartbeats 2000000 in
theorem scalew_any (bs bc : Nat) (s : ByteArray) (hs : s.size ≤ maxLen) (c : Nat) (hc : c < 256) (w : World) (k1 : w.cell? ⟨bs, 0, none⟩ = some (.string s)) (k2 : w.cell? ⟨bc, 0, none⟩ = some (.int .u8 c)) (p : Nat) (hp : p < 9223372036854775807) :
    Calls Tryz.prog 228 #[.int .i64 p, .pointer (some ⟨bs, 0, none⟩), .pointer (some ⟨bc, 0, none⟩)] w fun e w' => e = .returned (.int .u64 (scaleW c s p : Nat)) ∧ Kp w w' := by
  have q1 := kpw_cell k1
  have q2 := kpw_cell k2
  have hl := ldS_lt64 s p 8 (by omega)
  go_enter Tryz.func228, Tryz.ntmps228
  go_wp2_with fail
  refine wp_region_kp (by kernel_rfl) (by kernel_rfl) ?_
  repeat (first
    | go_big_quiet_skip
    | (go_big_quiet_want; go_big_quiet_op; go_big_quiet_on)
    | (go_big_quiet_want; go_big_quiet_op; apply Exists.intro; refine ⟨fun p => ?_, ?_⟩; (focus
        first
        | (go_at_call 175; exact kp_same (load_any s _ hs (by omega) (by omega) _))
        | (go_at_call 212; exact kp_same (times_any _ _ hl hc _))); go_big_quiet_on))
  refine wpQuiet_nil ?_
  rintro w' ⟨p, rfl⟩
  go_wp2
  go_ret
  exact ⟨rfl, kpw_kp w p⟩

set_option maxRecDepth 100000 in
set_option maxHeartbeats 2000000 in
theorem foldw_any (ba bs bc : Nat) (a s : ByteArray) (ha : a.size ≤ maxLen) (hs : s.size ≤ maxLen) (c : Nat) (hc : c < 256) (w : World) (k0 : w.cell? ⟨ba, 0, none⟩ = some (.string a)) (k1 : w.cell? ⟨bs, 0, none⟩ = some (.string s)) (k2 : w.cell? ⟨bc, 0, none⟩ = some (.int .u8 c)) (p : Nat) (hp : p < 9223372036854775807) :
    Calls Tryz.prog 211 #[.int .i64 p, .pointer (some ⟨ba, 0, none⟩), .pointer (some ⟨bs, 0, none⟩), .pointer (some ⟨bc, 0, none⟩)] w fun e w' => e = .returned (.int .u64 (foldW a c s p : Nat)) ∧ Kp w w' := by
  have q0 := kpw_cell k0
  have q1 := kpw_cell k1
  have q2 := kpw_cell k2
  have hl := ldS_lt64 s p 8 (by omega)
  have hx := u64_xor_nat (ldS a p 8) (tmN (ldS s p 8) c) (ldS_lt64 a p 8 (by omega)) (tm_lt _ _ hl)
  go_enter Tryz.func211, Tryz.ntmps211
  go_wp2_with fail
  refine wp_region_kp (by kernel_rfl) (by kernel_rfl) ?_
  repeat (first
    | go_big_quiet_skip
    | (go_big_quiet_want; go_big_quiet_op; go_big_quiet_on)
    | (go_big_quiet_want; go_big_quiet_op; apply Exists.intro; refine ⟨fun p => ?_, ?_⟩; (focus
        first
        | (go_at_call 175; exact kp_same (load_any _ _ (by assumption) (by omega) (by omega) _))
        | (go_at_call 212; exact kp_same (times_any _ _ hl hc _))); go_big_quiet_on))
  refine wpQuiet_nil ?_
  rintro w' ⟨p, rfl⟩
  go_wp2
  go_ret
  exact ⟨rfl, kpw_kp w p⟩

set_option maxRecDepth 100000 in
set_option maxHeartbeats 2000000 in
theorem doublew_any (ba bs : Nat) (a s : ByteArray) (ha : a.size ≤ maxLen) (hs : s.size ≤ maxLen) (w : World) (k0 : w.cell? ⟨ba, 0, none⟩ = some (.string a)) (k1 : w.cell? ⟨bs, 0, none⟩ = some (.string s)) (p : Nat) (hp : p < 9223372036854775807) :
    Calls Tryz.prog 217 #[.int .i64 p, .pointer (some ⟨ba, 0, none⟩), .pointer (some ⟨bs, 0, none⟩)] w fun e w' => e = .returned (.int .u64 (doubleW a s p : Nat)) ∧ Kp w w' := by
  have q0 := kpw_cell k0
  have q1 := kpw_cell k1
  have hl := ldS_lt64 a p 8 (by omega)
  have hx := u64_xor_nat (twN (ldS a p 8)) (ldS s p 8) (tw_lt _) (ldS_lt64 s p 8 (by omega))
  go_enter Tryz.func217, Tryz.ntmps217
  go_wp2_with fail
  refine wp_region_kp (by kernel_rfl) (by kernel_rfl) ?_
  repeat (first
    | go_big_quiet_skip
    | (go_big_quiet_want; go_big_quiet_op; go_big_quiet_on)
    | (go_big_quiet_want; go_big_quiet_op; apply Exists.intro; refine ⟨fun p => ?_, ?_⟩; (focus
        first
        | (go_at_call 175; exact kp_same (load_any _ _ (by assumption) (by omega) (by omega) _))
        | (go_at_call 218; exact kp_same (twice_any _ hl _))); go_big_quiet_on))
  refine wpQuiet_nil ?_
  rintro w' ⟨p, rfl⟩
  go_wp2
  go_ret
  exact ⟨rfl, kpw_kp w p⟩

end Go.Proofs.YtonooelffokfkaaGreatDoor

namespace Go.Proofs.YtonooelffokfkaaGreatDoor
open Go.RowKit Plain Go.BigFrame

theorem ownsRow_kp {w w' : World} {base : Nat} {e : TypeId} {size : Nat} {v : Value} {n : Nat} {xs : List Value} (h : w.ownsRow base e size v n xs) (k : Kp w w') : w'.ownsRow base e size v n xs := by
  refine ⟨h.1, ?_⟩
  rcases h.2 with hn | ⟨g, cap, cur, rfl, hb, hgg, rest⟩
  · exact .inl hn
  · refine .inr ⟨g, cap, cur, rfl, hb, ?_, rest⟩
    rw [k.block g (Array.getElem?_eq_some_iff.1 hgg).1]
    exact hgg
theorem byI_nat (x j : Nat) (e : 2 ^ (8 * j) = 256 ^ j) : byI x j = ((x / 256 ^ j % 256 : Nat) : Int) := by
  unfold byI
  rw [Int.natCast_emod, Int.natCast_ediv, ← e]
  simp
theorem ofNat_back (n : Nat) (h : n < 256) : ((UInt8.ofNat ((n : Nat) : Int).toNat).toNat : Int) = (n : Int) := by
  simp
  omega
theorem word_cells (wd : Nat → Nat) (k : Nat) : byteCells (strOfNums (stL (wd (8 * k)))) = (List.range 8).map fun j => Value.int .u8 ((wbF wd (8 * k + j) : Nat) : Int) := by
  have key : ∀ j, j < 8 → byI (wd (8 * k)) j = ((wbF wd (8 * k + j) : Nat) : Int) := by
    intro j hj
    rw [byI_nat _ _ (by rw [Nat.pow_mul])]
    unfold wbF
    rw [show (8 * k + j) / 8 = k by omega, show (8 * k + j) % 8 = j by omega]
  have hr : List.range 8 = [0, 1, 2, 3, 4, 5, 6, 7] := by decide
  rw [hr]
  unfold stL
  rw [key 0 (by omega), key 1 (by omega), key 2 (by omega), key 3 (by omega), key 4 (by omega), key 5 (by omega), key 6 (by omega), key 7 (by omega)]
  unfold byteCells strOfNums
  simp only [List.map_cons, List.map_nil, ofNat_back _ (wbF_lt _ _)]
theorem word_size (x : Nat) : (strOfNums (stL x)).size = 8 := rfl
theorem cells_step (F : Nat → Value) (k : Nat) : (List.range (8 * k)).map F ++ (List.range 8).map (fun j => F (8 * k + j)) = (List.range (8 * (k + 1))).map F := by
  rw [show 8 * (k + 1) = 8 * k + 8 by omega, List.range_add, List.map_append, List.map_map]
  rfl

set_option maxHeartbeats 1000000 in
theorem length_none (a : Option Addr) (cap : Nat) (w : World) : Calls Tryz.prog 207 #[.slice a 0 cap] w fun e w' => e = .returned (.tuple #[.int .i64 0, .int .i64 0]) ∧ w' = w := by
  go_enter Tryz.func207, Tryz.ntmps207
  go_wp2
  refine wp_loop_rounds 1 ?_
  rw [rounds_succ]
  go_wp2
  refine wp_loop_rounds 1 ?_
  rw [rounds_succ]
  go_wp2
  go_ret2
  exact ⟨rfl, rfl⟩
theorem length_any (v : Value) (l : List ByteArray) (hs : ∀ i, i < l.length → (l.getD i noS).size ≤ maxLen) (w : World) (h : StrsIn w v l) :
    Calls Tryz.prog 207 #[v] w fun e w' => e = .returned (.tuple #[.int .i64 (lenS l : Nat), .int .i64 (fitE l)]) ∧ w' = w := by
  cases h with
  | empty a cap h => exact length_none a cap w
  | some b off cap l h0 h1 h2 hc => exact length_some b off cap l h0 h1 h2 hs w hc
theorem lenS_le (l : List ByteArray) (h : fitE l = 0) : (l.getD 0 noS).size ≤ 65536 := by
  by_cases h0 : 0 < l.length
  · exact (fit_is l h).1 0 h0
  · obtain rfl : l = [] := List.eq_nil_of_length_eq_zero (by omega)
    exact Nat.zero_le _

set_option maxRecDepth 100000 in
set_option maxHeartbeats 4000000 in
theorem build_add (b0 : Nat) (v : Value) (l : List ByteArray) (hs : ∀ i, i < l.length → (l.getD i noS).size ≤ maxLen) (wd : Nat → Nat) (hwd : ∀ p, wd p < 18446744073709551616) (w : World) (h : StrsIn w v l)
    (hword : ∀ w', Kp w w' → ∀ p : Nat, p < 9223372036854775807 → Calls Tryz.prog 174 #[.int .i64 p, .pointer (some ⟨b0, 0, none⟩)] w' fun e w'' => e = .returned (.int .u64 (wd p : Nat)) ∧ Kp w' w'') :
    Calls Tryz.prog 173 #[.func (.func 174) #[] #[.pointer (some ⟨b0, 0, none⟩)], v] w fun e w' => e = .returned (.tuple #[.string (bs (lenS l) (wbF wd)), .int .i64 (fitE l)]) ∧ Kp w w' := by
  have HL := length_any v l hs w h
  obtain ⟨i0, hi, hz0, hz1, hz2⟩ := info_parts info_u8
  go_enter Tryz.func173, Tryz.ntmps173
  go_wp2_with fail
  refine HL.mono ?_; rintro e w' ⟨rfl, hww⟩; subst hww
  clear HL h hs
  by_cases hf : fitE l = 0
  · have hn := lenS_le l hf
    rw [hf, fit_zero l hf]
    obtain ⟨n, hne⟩ : ∃ n, n = (l.getD 0 noS).size := ⟨_, rfl⟩
    rw [← hne] at hn ⊢
    have HF : Hid (fitE l = 0) := hf
    have HN : Hid (lenS l = n) := by show lenS l = n; rw [fit_zero l hf, hne]
    clear hne hf
    go_wp2_with (at_make; refine wpList_make_own _ rfl _ _ 23 rfl w'.heap.size 5 i0 (.int .u8 0) 1 Tryz.underlying23 hi hz0 hz1 .i64 .i64 _ (n + 8) rfl rfl (by omega) (by rw [hz2]; omega) (by unfold maxLen; omega) (Nat.le_refl _) ?_; intro w0 hown0 hgrow0)
    have hK0 : Kp w' w0 := (Kp.refl w').grown hgrow0 (fun k hk => by cases hk)
    clear hgrow0
    go_loopw [8, 9] (fun v i wr => ∃ k : Nat, 8 * k ≤ n + 7 ∧ i = .int .i64 (8 * k : Nat) ∧ v = .slice (some ⟨w'.heap.size, 0, none⟩) (8 * k) (n + 8) ∧ wr.ownsRow w'.heap.size 5 1 (.slice (some ⟨w'.heap.size, 0, none⟩) (8 * k) (n + 8)) (8 * k) ((List.range (8 * k)).map fun i => Value.int .u8 ((wbF wd i : Nat) : Int)) ∧ Kp w' wr) (fun _ i _ => n + 8 - (intOf i).toNat)
    case atStart => exact ⟨0, by omega, rfl, rfl, hown0, hK0⟩
    case round =>
      obtain ⟨k, hk, rfl, rfl, hown, hK⟩ := hrel
      clear hown0 hK0
      by_cases hlt : 8 * k < n
      · have hw := hwd (8 * k)
        have HC : Hid (byteCells (strOfNums (stL (wd (8 * k)))) = (List.range 8).map fun j => Value.int .u8 ((wbF wd (8 * k + j) : Nat) : Int)) := word_cells wd k
        have HW := hword wr hK (8 * k) (by omega)
        clear hword
        obtain ⟨X, hX⟩ : ∃ X, X = wd (8 * k) := ⟨_, rfl⟩
        rw [← hX] at hw HC HW
        clear hX
        go_wp2_with fail
        refine HW.mono ?_; rintro e w1 ⟨rfl, hK1⟩
        have hown1 := ownsRow_kp hown hK1
        have hK1' := hK.trans hK1
        clear HW hown hK hK1
        go_wp2_with fail
        refine (store_any X hw w1).mono ?_; rintro e w2 ⟨rfl, hw2⟩
        have hT := word_size X
        obtain ⟨T, hTe⟩ : ∃ T, T = strOfNums (stL X) := ⟨_, rfl⟩
        rw [← hTe] at HC hT ⊢
        clear hTe
        have hown2 : w2.ownsRow w'.heap.size 5 1 (.slice (some ⟨w'.heap.size, 0, none⟩) (8 * k) (n + 8)) (8 * k) ((List.range (8 * k)).map fun i => Value.int .u8 ((wbF wd i : Nat) : Int)) := by rw [hw2]; exact hown1.alloc _
        have hK2 : Kp w' w2 := by rw [hw2]; exact hK1'.alloc _
        clear hw2 hown1 hK1'
        go_wp2_with (at_builtin; refine wpList_append_fits_str _ rfl _ _ 23 9 rfl w'.heap.size 5 i0 Tryz.underlying23 Tryz.underlying9 hi hz1 w'.heap.size (8 * k) (n + 8) _ rfl hown2 T rfl (by omega) ?_; intro w3 hown3 hgrow3)
        rw [HC.out, cells_step, hT] at hown3
        have hK3 : Kp w' w3 := hK2.grown hgrow3 (fun k hk => by cases hk; exact Nat.le_refl _)
        clear hgrow3 hown2 hK2 HC
        go_roundw
        case rel => exact ⟨k + 1, by omega, by go_num, by first | rfl | (congr 1; omega), hown3, hK3⟩
        case measure => simp [intOf]; omega
      · have hcv := convert_owned (P := Tryz.prog) (m := n) 23 9 Tryz.underlying23 Tryz.underlying5 Tryz.underlying9 hown (by omega) (n + 8)
        clear hword hown
        go_wp2
        go_ret2
        exact ⟨by rw [HF.out, HN.out]; rfl, hK⟩
  · have hb : ((fitE l) != 0) = true := by simp [hf]
    rw [fit_not l hf]
    have HN : Hid (lenS l = 0) := fit_not l hf
    clear hword
    go_wp2
    go_ret2
    exact ⟨by rw [HN.out]; rfl, Kp.refl _⟩
set_option maxRecDepth 100000 in
set_option maxHeartbeats 4000000 in
theorem build_scale (b0 b1 : Nat) (v : Value) (l : List ByteArray) (hs : ∀ i, i < l.length → (l.getD i noS).size ≤ maxLen) (wd : Nat → Nat) (hwd : ∀ p, wd p < 18446744073709551616) (w : World) (h : StrsIn w v l)
    (hword : ∀ w', Kp w w' → ∀ p : Nat, p < 9223372036854775807 → Calls Tryz.prog 228 #[.int .i64 p, .pointer (some ⟨b0, 0, none⟩), .pointer (some ⟨b1, 0, none⟩)] w' fun e w'' => e = .returned (.int .u64 (wd p : Nat)) ∧ Kp w' w'') :
    Calls Tryz.prog 173 #[.func (.func 228) #[] #[.pointer (some ⟨b0, 0, none⟩), .pointer (some ⟨b1, 0, none⟩)], v] w fun e w' => e = .returned (.tuple #[.string (bs (lenS l) (wbF wd)), .int .i64 (fitE l)]) ∧ Kp w w' := by
  have HL := length_any v l hs w h
  obtain ⟨i0, hi, hz0, hz1, hz2⟩ := info_parts info_u8
  go_enter Tryz.func173, Tryz.ntmps173
  go_wp2_with fail
  refine HL.mono ?_; rintro e w' ⟨rfl, hww⟩; subst hww
  clear HL h hs
  by_cases hf : fitE l = 0
  · have hn := lenS_le l hf
    rw [hf, fit_zero l hf]
    obtain ⟨n, hne⟩ : ∃ n, n = (l.getD 0 noS).size := ⟨_, rfl⟩
    rw [← hne] at hn ⊢
    have HF : Hid (fitE l = 0) := hf
    have HN : Hid (lenS l = n) := by show lenS l = n; rw [fit_zero l hf, hne]
    clear hne hf
    go_wp2_with (at_make; refine wpList_make_own _ rfl _ _ 23 rfl w'.heap.size 5 i0 (.int .u8 0) 1 Tryz.underlying23 hi hz0 hz1 .i64 .i64 _ (n + 8) rfl rfl (by omega) (by rw [hz2]; omega) (by unfold maxLen; omega) (Nat.le_refl _) ?_; intro w0 hown0 hgrow0)
    have hK0 : Kp w' w0 := (Kp.refl w').grown hgrow0 (fun k hk => by cases hk)
    clear hgrow0
    go_loopw [8, 9] (fun v i wr => ∃ k : Nat, 8 * k ≤ n + 7 ∧ i = .int .i64 (8 * k : Nat) ∧ v = .slice (some ⟨w'.heap.size, 0, none⟩) (8 * k) (n + 8) ∧ wr.ownsRow w'.heap.size 5 1 (.slice (some ⟨w'.heap.size, 0, none⟩) (8 * k) (n + 8)) (8 * k) ((List.range (8 * k)).map fun i => Value.int .u8 ((wbF wd i : Nat) : Int)) ∧ Kp w' wr) (fun _ i _ => n + 8 - (intOf i).toNat)
    case atStart => exact ⟨0, by omega, rfl, rfl, hown0, hK0⟩
    case round =>
      obtain ⟨k, hk, rfl, rfl, hown, hK⟩ := hrel
      clear hown0 hK0
      by_cases hlt : 8 * k < n
      · have hw := hwd (8 * k)
        have HC : Hid (byteCells (strOfNums (stL (wd (8 * k)))) = (List.range 8).map fun j => Value.int .u8 ((wbF wd (8 * k + j) : Nat) : Int)) := word_cells wd k
        have HW := hword wr hK (8 * k) (by omega)
        clear hword
        obtain ⟨X, hX⟩ : ∃ X, X = wd (8 * k) := ⟨_, rfl⟩
        rw [← hX] at hw HC HW
        clear hX
        go_wp2_with fail
        refine HW.mono ?_; rintro e w1 ⟨rfl, hK1⟩
        have hown1 := ownsRow_kp hown hK1
        have hK1' := hK.trans hK1
        clear HW hown hK hK1
        go_wp2_with fail
        refine (store_any X hw w1).mono ?_; rintro e w2 ⟨rfl, hw2⟩
        have hT := word_size X
        obtain ⟨T, hTe⟩ : ∃ T, T = strOfNums (stL X) := ⟨_, rfl⟩
        rw [← hTe] at HC hT ⊢
        clear hTe
        have hown2 : w2.ownsRow w'.heap.size 5 1 (.slice (some ⟨w'.heap.size, 0, none⟩) (8 * k) (n + 8)) (8 * k) ((List.range (8 * k)).map fun i => Value.int .u8 ((wbF wd i : Nat) : Int)) := by rw [hw2]; exact hown1.alloc _
        have hK2 : Kp w' w2 := by rw [hw2]; exact hK1'.alloc _
        clear hw2 hown1 hK1'
        go_wp2_with (at_builtin; refine wpList_append_fits_str _ rfl _ _ 23 9 rfl w'.heap.size 5 i0 Tryz.underlying23 Tryz.underlying9 hi hz1 w'.heap.size (8 * k) (n + 8) _ rfl hown2 T rfl (by omega) ?_; intro w3 hown3 hgrow3)
        rw [HC.out, cells_step, hT] at hown3
        have hK3 : Kp w' w3 := hK2.grown hgrow3 (fun k hk => by cases hk; exact Nat.le_refl _)
        clear hgrow3 hown2 hK2 HC
        go_roundw
        case rel => exact ⟨k + 1, by omega, by go_num, by first | rfl | (congr 1; omega), hown3, hK3⟩
        case measure => simp [intOf]; omega
      · have hcv := convert_owned (P := Tryz.prog) (m := n) 23 9 Tryz.underlying23 Tryz.underlying5 Tryz.underlying9 hown (by omega) (n + 8)
        clear hword hown
        go_wp2
        go_ret2
        exact ⟨by rw [HF.out, HN.out]; rfl, hK⟩
  · have hb : ((fitE l) != 0) = true := by simp [hf]
    rw [fit_not l hf]
    have HN : Hid (lenS l = 0) := fit_not l hf
    clear hword
    go_wp2
    go_ret2
    exact ⟨by rw [HN.out]; rfl, Kp.refl _⟩
set_option maxRecDepth 100000 in
set_option maxHeartbeats 4000000 in
theorem build_fold (b0 b1 b2 : Nat) (v : Value) (l : List ByteArray) (hs : ∀ i, i < l.length → (l.getD i noS).size ≤ maxLen) (wd : Nat → Nat) (hwd : ∀ p, wd p < 18446744073709551616) (w : World) (h : StrsIn w v l)
    (hword : ∀ w', Kp w w' → ∀ p : Nat, p < 9223372036854775807 → Calls Tryz.prog 211 #[.int .i64 p, .pointer (some ⟨b0, 0, none⟩), .pointer (some ⟨b1, 0, none⟩), .pointer (some ⟨b2, 0, none⟩)] w' fun e w'' => e = .returned (.int .u64 (wd p : Nat)) ∧ Kp w' w'') :
    Calls Tryz.prog 173 #[.func (.func 211) #[] #[.pointer (some ⟨b0, 0, none⟩), .pointer (some ⟨b1, 0, none⟩), .pointer (some ⟨b2, 0, none⟩)], v] w fun e w' => e = .returned (.tuple #[.string (bs (lenS l) (wbF wd)), .int .i64 (fitE l)]) ∧ Kp w w' := by
  have HL := length_any v l hs w h
  obtain ⟨i0, hi, hz0, hz1, hz2⟩ := info_parts info_u8
  go_enter Tryz.func173, Tryz.ntmps173
  go_wp2_with fail
  refine HL.mono ?_; rintro e w' ⟨rfl, hww⟩; subst hww
  clear HL h hs
  by_cases hf : fitE l = 0
  · have hn := lenS_le l hf
    rw [hf, fit_zero l hf]
    obtain ⟨n, hne⟩ : ∃ n, n = (l.getD 0 noS).size := ⟨_, rfl⟩
    rw [← hne] at hn ⊢
    have HF : Hid (fitE l = 0) := hf
    have HN : Hid (lenS l = n) := by show lenS l = n; rw [fit_zero l hf, hne]
    clear hne hf
    go_wp2_with (at_make; refine wpList_make_own _ rfl _ _ 23 rfl w'.heap.size 5 i0 (.int .u8 0) 1 Tryz.underlying23 hi hz0 hz1 .i64 .i64 _ (n + 8) rfl rfl (by omega) (by rw [hz2]; omega) (by unfold maxLen; omega) (Nat.le_refl _) ?_; intro w0 hown0 hgrow0)
    have hK0 : Kp w' w0 := (Kp.refl w').grown hgrow0 (fun k hk => by cases hk)
    clear hgrow0
    go_loopw [8, 9] (fun v i wr => ∃ k : Nat, 8 * k ≤ n + 7 ∧ i = .int .i64 (8 * k : Nat) ∧ v = .slice (some ⟨w'.heap.size, 0, none⟩) (8 * k) (n + 8) ∧ wr.ownsRow w'.heap.size 5 1 (.slice (some ⟨w'.heap.size, 0, none⟩) (8 * k) (n + 8)) (8 * k) ((List.range (8 * k)).map fun i => Value.int .u8 ((wbF wd i : Nat) : Int)) ∧ Kp w' wr) (fun _ i _ => n + 8 - (intOf i).toNat)
    case atStart => exact ⟨0, by omega, rfl, rfl, hown0, hK0⟩
    case round =>
      obtain ⟨k, hk, rfl, rfl, hown, hK⟩ := hrel
      clear hown0 hK0
      by_cases hlt : 8 * k < n
      · have hw := hwd (8 * k)
        have HC : Hid (byteCells (strOfNums (stL (wd (8 * k)))) = (List.range 8).map fun j => Value.int .u8 ((wbF wd (8 * k + j) : Nat) : Int)) := word_cells wd k
        have HW := hword wr hK (8 * k) (by omega)
        clear hword
        obtain ⟨X, hX⟩ : ∃ X, X = wd (8 * k) := ⟨_, rfl⟩
        rw [← hX] at hw HC HW
        clear hX
        go_wp2_with fail
        refine HW.mono ?_; rintro e w1 ⟨rfl, hK1⟩
        have hown1 := ownsRow_kp hown hK1
        have hK1' := hK.trans hK1
        clear HW hown hK hK1
        go_wp2_with fail
        refine (store_any X hw w1).mono ?_; rintro e w2 ⟨rfl, hw2⟩
        have hT := word_size X
        obtain ⟨T, hTe⟩ : ∃ T, T = strOfNums (stL X) := ⟨_, rfl⟩
        rw [← hTe] at HC hT ⊢
        clear hTe
        have hown2 : w2.ownsRow w'.heap.size 5 1 (.slice (some ⟨w'.heap.size, 0, none⟩) (8 * k) (n + 8)) (8 * k) ((List.range (8 * k)).map fun i => Value.int .u8 ((wbF wd i : Nat) : Int)) := by rw [hw2]; exact hown1.alloc _
        have hK2 : Kp w' w2 := by rw [hw2]; exact hK1'.alloc _
        clear hw2 hown1 hK1'
        go_wp2_with (at_builtin; refine wpList_append_fits_str _ rfl _ _ 23 9 rfl w'.heap.size 5 i0 Tryz.underlying23 Tryz.underlying9 hi hz1 w'.heap.size (8 * k) (n + 8) _ rfl hown2 T rfl (by omega) ?_; intro w3 hown3 hgrow3)
        rw [HC.out, cells_step, hT] at hown3
        have hK3 : Kp w' w3 := hK2.grown hgrow3 (fun k hk => by cases hk; exact Nat.le_refl _)
        clear hgrow3 hown2 hK2 HC
        go_roundw
        case rel => exact ⟨k + 1, by omega, by go_num, by first | rfl | (congr 1; omega), hown3, hK3⟩
        case measure => simp [intOf]; omega
      · have hcv := convert_owned (P := Tryz.prog) (m := n) 23 9 Tryz.underlying23 Tryz.underlying5 Tryz.underlying9 hown (by omega) (n + 8)
        clear hword hown
        go_wp2
        go_ret2
        exact ⟨by rw [HF.out, HN.out]; rfl, hK⟩
  · have hb : ((fitE l) != 0) = true := by simp [hf]
    rw [fit_not l hf]
    have HN : Hid (lenS l = 0) := fit_not l hf
    clear hword
    go_wp2
    go_ret2
    exact ⟨by rw [HN.out]; rfl, Kp.refl _⟩
set_option maxRecDepth 100000 in
set_option maxHeartbeats 4000000 in
theorem build_double (b0 b1 : Nat) (v : Value) (l : List ByteArray) (hs : ∀ i, i < l.length → (l.getD i noS).size ≤ maxLen) (wd : Nat → Nat) (hwd : ∀ p, wd p < 18446744073709551616) (w : World) (h : StrsIn w v l)
    (hword : ∀ w', Kp w w' → ∀ p : Nat, p < 9223372036854775807 → Calls Tryz.prog 217 #[.int .i64 p, .pointer (some ⟨b0, 0, none⟩), .pointer (some ⟨b1, 0, none⟩)] w' fun e w'' => e = .returned (.int .u64 (wd p : Nat)) ∧ Kp w' w'') :
    Calls Tryz.prog 173 #[.func (.func 217) #[] #[.pointer (some ⟨b0, 0, none⟩), .pointer (some ⟨b1, 0, none⟩)], v] w fun e w' => e = .returned (.tuple #[.string (bs (lenS l) (wbF wd)), .int .i64 (fitE l)]) ∧ Kp w w' := by
  have HL := length_any v l hs w h
  obtain ⟨i0, hi, hz0, hz1, hz2⟩ := info_parts info_u8
  go_enter Tryz.func173, Tryz.ntmps173
  go_wp2_with fail
  refine HL.mono ?_; rintro e w' ⟨rfl, hww⟩; subst hww
  clear HL h hs
  by_cases hf : fitE l = 0
  · have hn := lenS_le l hf
    rw [hf, fit_zero l hf]
    obtain ⟨n, hne⟩ : ∃ n, n = (l.getD 0 noS).size := ⟨_, rfl⟩
    rw [← hne] at hn ⊢
    have HF : Hid (fitE l = 0) := hf
    have HN : Hid (lenS l = n) := by show lenS l = n; rw [fit_zero l hf, hne]
    clear hne hf
    go_wp2_with (at_make; refine wpList_make_own _ rfl _ _ 23 rfl w'.heap.size 5 i0 (.int .u8 0) 1 Tryz.underlying23 hi hz0 hz1 .i64 .i64 _ (n + 8) rfl rfl (by omega) (by rw [hz2]; omega) (by unfold maxLen; omega) (Nat.le_refl _) ?_; intro w0 hown0 hgrow0)
    have hK0 : Kp w' w0 := (Kp.refl w').grown hgrow0 (fun k hk => by cases hk)
    clear hgrow0
    go_loopw [8, 9] (fun v i wr => ∃ k : Nat, 8 * k ≤ n + 7 ∧ i = .int .i64 (8 * k : Nat) ∧ v = .slice (some ⟨w'.heap.size, 0, none⟩) (8 * k) (n + 8) ∧ wr.ownsRow w'.heap.size 5 1 (.slice (some ⟨w'.heap.size, 0, none⟩) (8 * k) (n + 8)) (8 * k) ((List.range (8 * k)).map fun i => Value.int .u8 ((wbF wd i : Nat) : Int)) ∧ Kp w' wr) (fun _ i _ => n + 8 - (intOf i).toNat)
    case atStart => exact ⟨0, by omega, rfl, rfl, hown0, hK0⟩
    case round =>
      obtain ⟨k, hk, rfl, rfl, hown, hK⟩ := hrel
      clear hown0 hK0
      by_cases hlt : 8 * k < n
      · have hw := hwd (8 * k)
        have HC : Hid (byteCells (strOfNums (stL (wd (8 * k)))) = (List.range 8).map fun j => Value.int .u8 ((wbF wd (8 * k + j) : Nat) : Int)) := word_cells wd k
        have HW := hword wr hK (8 * k) (by omega)
        clear hword
        obtain ⟨X, hX⟩ : ∃ X, X = wd (8 * k) := ⟨_, rfl⟩
        rw [← hX] at hw HC HW
        clear hX
        go_wp2_with fail
        refine HW.mono ?_; rintro e w1 ⟨rfl, hK1⟩
        have hown1 := ownsRow_kp hown hK1
        have hK1' := hK.trans hK1
        clear HW hown hK hK1
        go_wp2_with fail
        refine (store_any X hw w1).mono ?_; rintro e w2 ⟨rfl, hw2⟩
        have hT := word_size X
        obtain ⟨T, hTe⟩ : ∃ T, T = strOfNums (stL X) := ⟨_, rfl⟩
        rw [← hTe] at HC hT ⊢
        clear hTe
        have hown2 : w2.ownsRow w'.heap.size 5 1 (.slice (some ⟨w'.heap.size, 0, none⟩) (8 * k) (n + 8)) (8 * k) ((List.range (8 * k)).map fun i => Value.int .u8 ((wbF wd i : Nat) : Int)) := by rw [hw2]; exact hown1.alloc _
        have hK2 : Kp w' w2 := by rw [hw2]; exact hK1'.alloc _
        clear hw2 hown1 hK1'
        go_wp2_with (at_builtin; refine wpList_append_fits_str _ rfl _ _ 23 9 rfl w'.heap.size 5 i0 Tryz.underlying23 Tryz.underlying9 hi hz1 w'.heap.size (8 * k) (n + 8) _ rfl hown2 T rfl (by omega) ?_; intro w3 hown3 hgrow3)
        rw [HC.out, cells_step, hT] at hown3
        have hK3 : Kp w' w3 := hK2.grown hgrow3 (fun k hk => by cases hk; exact Nat.le_refl _)
        clear hgrow3 hown2 hK2 HC
        go_roundw
        case rel => exact ⟨k + 1, by omega, by go_num, by first | rfl | (congr 1; omega), hown3, hK3⟩
        case measure => simp [intOf]; omega
      · have hcv := convert_owned (P := Tryz.prog) (m := n) 23 9 Tryz.underlying23 Tryz.underlying5 Tryz.underlying9 hown (by omega) (n + 8)
        clear hword hown
        go_wp2
        go_ret2
        exact ⟨by rw [HF.out, HN.out]; rfl, hK⟩
  · have hb : ((fitE l) != 0) = true := by simp [hf]
    rw [fit_not l hf]
    have HN : Hid (lenS l = 0) := fit_not l hf
    clear hword
    go_wp2
    go_ret2
    exact ⟨by rw [HN.out]; rfl, Kp.refl _⟩

end Go.Proofs.YtonooelffokfkaaGreatDoor

namespace Go.Proofs.YtonooelffokfkaaGreatDoor
open Go.RowKit Plain Go.BigFrame

/-- the buffer, where the texts may be buffers of one length; else none. -/
def resOf (l : List ByteArray) (r : ByteArray) : ByteArray := if fitE l = 0 then r else noS
theorem res_is (l : List ByteArray) (wd : Nat → Nat) (r : ByteArray) (h : fitE l = 0 → bs (l.getD 0 noS).size (wbF wd) = r) : bs (lenS l) (wbF wd) = resOf l r := by
  unfold resOf
  by_cases hf : fitE l = 0
  · rw [if_pos hf, fit_zero l hf, h hf]
  · rw [if_neg hf, fit_not l hf]; rfl
theorem res_add (l : List ByteArray) : bs (lenS l) (wbF (addW l)) = resOf l (addS l) := res_is l _ _ fun hf => by
  cases l with
  | nil => rfl
  | cons s r =>
    refine add_is s r (fun t ht => ?_)
    obtain ⟨i, hi, rfl⟩ := List.getElem_of_mem ht
    have := (fit_is _ hf).2 (i + 1) (by simp; omega)
    simpa [List.getD_eq_getElem?_getD, hi] using this
theorem res_scale (c : Nat) (hc : c < 256) (s : ByteArray) : bs (lenS [s]) (wbF (scaleW c s)) = resOf [s] (scaleS c s) := res_is _ _ _ fun _ => scale_is c hc s
theorem fit_two {a s : ByteArray} (h : fitE [a, s] = 0) : a.size ≤ 65536 ∧ s.size = a.size := ⟨(fit_is _ h).1 0 (by simp), (fit_is _ h).2 1 (by simp)⟩
theorem res_fold (a : ByteArray) (c : Nat) (hc : c < 256) (s : ByteArray) : bs (lenS [a, s]) (wbF (foldW a c s)) = resOf [a, s] (foldS a c s) := res_is _ _ _ fun hf => by
  show bs a.size _ = _
  rw [← (fit_two hf).2]; exact fold_is a c hc s
theorem res_double (a s : ByteArray) : bs (lenS [a, s]) (wbF (doubleW a s)) = resOf [a, s] (foldS s 2 a) := res_is _ _ _ fun _ => double_is a s

theorem small1 {x : ByteArray} (hx : x.size ≤ maxLen) : ∀ i, i < [x].length → ([x].getD i noS).size ≤ maxLen := fun i hi => by
  obtain rfl : i = 0 := by simp at hi; omega
  exact hx
theorem small2 {x y : ByteArray} (hx : x.size ≤ maxLen) (hy : y.size ≤ maxLen) : ∀ i, i < [x, y].length → ([x, y].getD i noS).size ≤ maxLen := fun i hi => by
  have h : i = 0 ∨ i = 1 := by simp at hi; omega
  rcases h with rfl | rfl
  · exact hx
  · exact hy

set_option maxHeartbeats 1000000 in
theorem addw_none (c cap : Nat) (a : Option Addr) (w : World) (hv : w.cell? ⟨c, 0, none⟩ = some (.slice a 0 cap)) (p : Nat) :
    Calls Tryz.prog 174 #[.int .i64 p, .pointer (some ⟨c, 0, none⟩)] w fun e w' => e = .returned (.int .u64 0) ∧ w' = w := by
  go_enter Tryz.func174, Tryz.ntmps174
  go_wp2
  refine wp_loop_rounds 1 ?_
  rw [rounds_succ]
  go_wp2
  go_ret
  exact ⟨rfl, rfl⟩
theorem addw_any (c : Nat) (v : Value) (l : List ByteArray) (hs : ∀ i, i < l.length → (l.getD i noS).size ≤ maxLen) (w : World) (hv : w.cell? ⟨c, 0, none⟩ = some v) (h : StrsIn w v l) (p : Nat) (hp : p < 9223372036854775807) :
    Calls Tryz.prog 174 #[.int .i64 p, .pointer (some ⟨c, 0, none⟩)] w fun e w' => e = .returned (.int .u64 (addW l p : Nat)) ∧ Kp w w' := by
  cases h with
  | empty a cap h => exact (addw_none c cap a w hv p).mono fun e w' ⟨he, hw⟩ => ⟨he, by rw [hw]; exact Kp.refl _⟩
  | some b off cap l h0 h1 h2 hc => exact (addw_some c b off cap l h1 h2 hs w hv hc p hp).mono fun e w' ⟨he, hw⟩ => ⟨he, by rw [hw]; exact Kp.refl _⟩

set_option maxRecDepth 100000 in
set_option maxHeartbeats 2000000 in
theorem add_any (v : Value) (l : List ByteArray) (hs : ∀ i, i < l.length → (l.getD i noS).size ≤ maxLen) (w : World) (h : StrsIn w v l) :
    Calls Tryz.prog 147 #[v] w fun e w' => e = .returned (.tuple #[.string (resOf l (addS l)), .int .i64 (fitE l)]) ∧ Kp w w' := by
  have hmf : ∀ (fn : Fn) (first cap : Array Value) (w : World), (Instr.makeFunc fn first cap).run Tryz.prog w = .ok (.func fn first cap) w := fun _ _ _ _ => rfl
  have kA : Kp w (w.alloc (.cells #[v] 67)) := (Kp.refl w).alloc _
  have hc : (w.alloc (.cells #[v] 67)).cell? ⟨w.heap.size, 0, none⟩ = some v := by rw [World.cell?_alloc_at _ _ _ _ rfl]; rfl
  have hS := h.kept kA
  have HB := build_add w.heap.size v l hs (addW l) (addW_lt l) (w.alloc (.cells #[v] 67)) hS (fun w' k p hp => addw_any w.heap.size v l hs w' (k.held hc) (hS.kept k) p hp)
  rw [res_add] at HB
  clear hS hc
  cases h with
  | empty a cap h =>
    go_enter Tryz.func147, Tryz.ntmps147
    go_wp2_with fail
    refine HB.mono ?_; rintro e w2 ⟨rfl, k⟩
    go_wp2
    go_ret2
    exact ⟨rfl, kA.trans k⟩
  | some b off cap l h0 h1 h2 hc =>
    go_enter Tryz.func147, Tryz.ntmps147
    go_wp2_with fail
    refine HB.mono ?_; rintro e w2 ⟨rfl, k⟩
    go_wp2
    go_ret2
    exact ⟨rfl, kA.trans k⟩

set_option maxRecDepth 100000 in
set_option maxHeartbeats 2000000 in
theorem scale_any (c : Nat) (hc : c < 256) (s : ByteArray) (hs : s.size ≤ maxLen) (w : World) :
    Calls Tryz.prog 210 #[.int .u8 c, .string s] w fun e w' => e = .returned (.tuple #[.string (resOf [s] (scaleS c s)), .int .i64 (fitE [s])]) ∧ Kp w w' := by
  have hmf : ∀ (fn : Fn) (first cap : Array Value) (w : World), (Instr.makeFunc fn first cap).run Tryz.prog w = .ok (.func fn first cap) w := fun _ _ _ _ => rfl
  obtain ⟨w1, hw1⟩ : ∃ w1, w1 = w.alloc (.cells #[.int .u8 c] 5) := ⟨_, rfl⟩
  obtain ⟨w2, hw2⟩ : ∃ w2, w2 = w1.alloc (.cells #[.string s] 9) := ⟨_, rfl⟩
  obtain ⟨w3, hw3⟩ : ∃ w3, w3 = w2.alloc (.cells #[.string s] 9) := ⟨_, rfl⟩
  have k1 : Kp w w1 := by rw [hw1]; exact (Kp.refl w).alloc _
  have k2 : Kp w1 w2 := by rw [hw2]; exact (Kp.refl w1).alloc _
  have k3 : Kp w2 w3 := by rw [hw3]; exact (Kp.refl w2).alloc _
  have z1 : w1.heap.size = w.heap.size + 1 := by rw [hw1]; simp
  have z2 : w2.heap.size = w.heap.size + 1 + 1 := by rw [hw2]; simp [z1]
  have c1 : w1.cell? ⟨w.heap.size, 0, none⟩ = some (.int .u8 c) := by rw [hw1, World.cell?_alloc_at _ _ _ _ rfl]; rfl
  have c2 : w2.cell? ⟨w.heap.size + 1, 0, none⟩ = some (.string s) := by rw [← z1, hw2, World.cell?_alloc_at _ _ _ _ rfl]; rfl
  have hS : StrsIn w3 (.slice (some ⟨w.heap.size + 1 + 1, 0, none⟩) 1 1) [s] := by rw [← z2, hw3]; exact StrsIn.lit1 w2 s _
  have HB := build_scale (w.heap.size + 1) w.heap.size _ [s] (small1 hs) (scaleW c s) (scaleW_lt c s) w3 hS (fun w' k p hp => scalew_any _ _ s hs c hc w' (k.held (k3.held c2)) (k.held (k3.held (k2.held c1))) p hp)
  have K := k1.trans (k2.trans k3)
  rw [res_scale c hc s] at HB
  subst hw3; subst hw2; subst hw1
  clear k1 k2 k3 z1 z2 c1 c2 hS
  go_enter Tryz.func210, Tryz.ntmps210
  go_wp2_with fail
  refine HB.mono ?_; rintro e w2 ⟨rfl, k⟩
  go_wp2
  go_ret2
  exact ⟨rfl, K.trans k⟩

set_option maxRecDepth 100000 in
set_option maxHeartbeats 2000000 in
theorem fold_any (a : ByteArray) (ha : a.size ≤ maxLen) (c : Nat) (hc : c < 256) (s : ByteArray) (hs : s.size ≤ maxLen) (w : World) :
    Calls Tryz.prog 180 #[.string a, .int .u8 c, .string s] w fun e w' => e = .returned (.tuple #[.string (resOf [a, s] (foldS a c s)), .int .i64 (fitE [a, s])]) ∧ Kp w w' := by
  have hmf : ∀ (fn : Fn) (first cap : Array Value) (w : World), (Instr.makeFunc fn first cap).run Tryz.prog w = .ok (.func fn first cap) w := fun _ _ _ _ => rfl
  obtain ⟨w0, hw0⟩ : ∃ w0, w0 = w.alloc (.cells #[.string a] 9) := ⟨_, rfl⟩
  obtain ⟨w1, hw1⟩ : ∃ w1, w1 = w0.alloc (.cells #[.int .u8 c] 5) := ⟨_, rfl⟩
  obtain ⟨w2, hw2⟩ : ∃ w2, w2 = w1.alloc (.cells #[.string s] 9) := ⟨_, rfl⟩
  obtain ⟨w3, hw3⟩ : ∃ w3, w3 = w2.alloc (.cells #[.string a, .string s] 9) := ⟨_, rfl⟩
  have k0 : Kp w w0 := by rw [hw0]; exact (Kp.refl w).alloc _
  have k1 : Kp w0 w1 := by rw [hw1]; exact (Kp.refl w0).alloc _
  have k2 : Kp w1 w2 := by rw [hw2]; exact (Kp.refl w1).alloc _
  have k3 : Kp w2 w3 := by rw [hw3]; exact (Kp.refl w2).alloc _
  have z0 : w0.heap.size = w.heap.size + 1 := by rw [hw0]; simp
  have z1 : w1.heap.size = w.heap.size + 1 + 1 := by rw [hw1]; simp [z0]
  have z2 : w2.heap.size = w.heap.size + 1 + 1 + 1 := by rw [hw2]; simp [z1]
  have c0 : w0.cell? ⟨w.heap.size, 0, none⟩ = some (.string a) := by rw [hw0, World.cell?_alloc_at _ _ _ _ rfl]; rfl
  have c1 : w1.cell? ⟨w.heap.size + 1, 0, none⟩ = some (.int .u8 c) := by rw [← z0, hw1, World.cell?_alloc_at _ _ _ _ rfl]; rfl
  have c2 : w2.cell? ⟨w.heap.size + 1 + 1, 0, none⟩ = some (.string s) := by rw [← z1, hw2, World.cell?_alloc_at _ _ _ _ rfl]; rfl
  have hS : StrsIn w3 (.slice (some ⟨w.heap.size + 1 + 1 + 1, 0, none⟩) 2 2) [a, s] := by rw [← z2, hw3]; exact StrsIn.lit2 w2 a s _
  have HB := build_fold w.heap.size (w.heap.size + 1 + 1) (w.heap.size + 1) _ [a, s] (small2 ha hs) (foldW a c s) (foldW_lt a c s) w3 hS (fun w' k p hp => foldw_any _ _ _ a s ha hs c hc w' (k.held (k3.held (k2.held (k1.held c0)))) (k.held (k3.held c2)) (k.held (k3.held (k2.held c1))) p hp)
  have K := k0.trans (k1.trans (k2.trans k3))
  rw [res_fold a c hc s] at HB
  subst hw3; subst hw2; subst hw1; subst hw0
  clear k0 k1 k2 k3 z0 z1 z2 c0 c1 c2 hS
  go_enter Tryz.func180, Tryz.ntmps180
  go_wp2_with fail
  refine HB.mono ?_; rintro e w2 ⟨rfl, k⟩
  go_wp2
  go_ret2
  exact ⟨rfl, K.trans k⟩

set_option maxRecDepth 100000 in
set_option maxHeartbeats 2000000 in
theorem double_any (a s : ByteArray) (ha : a.size ≤ maxLen) (hs : s.size ≤ maxLen) (w : World) :
    Calls Tryz.prog 188 #[.string a, .string s] w fun e w' => e = .returned (.tuple #[.string (resOf [a, s] (foldS s 2 a)), .int .i64 (fitE [a, s])]) ∧ Kp w w' := by
  have hmf : ∀ (fn : Fn) (first cap : Array Value) (w : World), (Instr.makeFunc fn first cap).run Tryz.prog w = .ok (.func fn first cap) w := fun _ _ _ _ => rfl
  obtain ⟨w1, hw1⟩ : ∃ w1, w1 = w.alloc (.cells #[.string a] 9) := ⟨_, rfl⟩
  obtain ⟨w2, hw2⟩ : ∃ w2, w2 = w1.alloc (.cells #[.string s] 9) := ⟨_, rfl⟩
  obtain ⟨w3, hw3⟩ : ∃ w3, w3 = w2.alloc (.cells #[.string a, .string s] 9) := ⟨_, rfl⟩
  have k1 : Kp w w1 := by rw [hw1]; exact (Kp.refl w).alloc _
  have k2 : Kp w1 w2 := by rw [hw2]; exact (Kp.refl w1).alloc _
  have k3 : Kp w2 w3 := by rw [hw3]; exact (Kp.refl w2).alloc _
  have z1 : w1.heap.size = w.heap.size + 1 := by rw [hw1]; simp
  have z2 : w2.heap.size = w.heap.size + 1 + 1 := by rw [hw2]; simp [z1]
  have c1 : w1.cell? ⟨w.heap.size, 0, none⟩ = some (.string a) := by rw [hw1, World.cell?_alloc_at _ _ _ _ rfl]; rfl
  have c2 : w2.cell? ⟨w.heap.size + 1, 0, none⟩ = some (.string s) := by rw [← z1, hw2, World.cell?_alloc_at _ _ _ _ rfl]; rfl
  have hS : StrsIn w3 (.slice (some ⟨w.heap.size + 1 + 1, 0, none⟩) 2 2) [a, s] := by rw [← z2, hw3]; exact StrsIn.lit2 w2 a s _
  have HB := build_double w.heap.size (w.heap.size + 1) _ [a, s] (small2 ha hs) (doubleW a s) (doubleW_lt a s) w3 hS (fun w' k p hp => doublew_any _ _ a s ha hs w' (k.held (k3.held (k2.held c1))) (k.held (k3.held c2)) p hp)
  have K := k1.trans (k2.trans k3)
  rw [res_double a s] at HB
  subst hw3; subst hw2; subst hw1
  clear k1 k2 k3 z1 z2 c1 c2 hS
  go_enter Tryz.func188, Tryz.ntmps188
  go_wp2_with fail
  refine HB.mono ?_; rintro e w2 ⟨rfl, k⟩
  go_wp2
  go_ret2
  exact ⟨rfl, K.trans k⟩

theorem made_zeroL5 {w : World} {base g n : Nat} {e : TypeId} (h : w.ownsRow base e 1 (.slice (some ⟨g, 0, none⟩) n n) n (madeCells (Value.int .u8 0).cells (n * 1)).toList) :
    w.ownsRow base e 1 (.slice (some ⟨g, 0, none⟩) n n) n ((List.range n).map fun i => Value.int .u8 ((((fun _ => 0 : Nat → Nat) i : Nat)) : Int)) := by
  have e1 : (madeCells (Value.int .u8 0).cells (n * 1)).toList = (List.range n).map fun _ => Value.int .u8 ((0 : Nat) : Int) := by
    rw [Nat.mul_one, show (Value.int .u8 0).cells = #[.int .u8 0] from rfl, toList_madeCells_one, List.map_const', List.length_range]; rfl
  rw [e1] at h
  exact h
/-- make([]byte, n), as a text. -/
theorem made_text {w0 : World} {base g n : Nat} {e : TypeId} {P : Program} (src dst : TypeId) (hs : P.underlying src = some (.slice e)) (he : P.underlying e = some (.int .u8)) (hd : P.underlying dst = some .string)
    (h : w0.ownsRow base e 1 (.slice (some ⟨g, 0, none⟩) n n) n (madeCells (Value.int .u8 0).cells (n * 1)).toList) : (convert src dst (.slice (some ⟨g, 0, none⟩) n n)).run P w0 = .ok (.string (zs n)) w0 :=
  convert_owned src dst hs he hd (made_zeroL5 h) (Nat.le_refl n) n
def noughtN (n : Int) : Nat := (min (max n 0) 65536).toNat
set_option maxRecDepth 100000 in
set_option maxHeartbeats 2000000 in
theorem noughts_any (n : Int) (h1 : -9223372036854775808 ≤ n) (h2 : n ≤ 9223372036854775807) (w : World) :
    Calls Tryz.prog 148 #[.int .i64 n] w fun e w' => e = .returned (.string (zs (noughtN n))) ∧ Kp w w' := by
  obtain ⟨i0, hi, hz0, hz1, hz2⟩ := info_parts info_u8
  obtain ⟨m, hm⟩ : ∃ m, m = noughtN n := ⟨_, rfl⟩
  have hm2 : (m : Int) = min (max n 0) 65536 := by rw [hm]; unfold noughtN; omega
  rw [← hm]
  clear hm
  go_enter Tryz.func148, Tryz.ntmps148
  go_wp2_with (at_make; refine wpList_make_full _ rfl _ _ 23 rfl w.heap.size 5 i0 (.int .u8 0) 1 Tryz.underlying23 hi hz0 hz1 .i64 .i64 _ _ m rfl rfl (by omega) (by omega) (by rw [hz2]; omega) (by unfold maxLen; omega) (Nat.le_refl _) ?_; intro w0 hown0 hgrow0; have hcv := made_text (P := Tryz.prog) 23 9 Tryz.underlying23 Tryz.underlying5 Tryz.underlying9 hown0)
  all_goals (go_ret; exact ⟨rfl, (Kp.refl w).grown (by assumption) (fun k hk => by cases hk)⟩)

end Go.Proofs.YtonooelffokfkaaGreatDoor

namespace Go.Proofs.YtonooelffokfkaaGreatDoor
open Go.RowKit Plain Go.BigFrame

theorem rmul_any (a b : Nat) (ha : a < 256) (hb : b < 256) (w : World) :
    Calls Tryz.prog 138 #[.int .u8 a, .int .u8 b] w fun e w' => e = .returned (.int .u8 (ml a b : Nat)) ∧ Kp w w' := by
  refine (mul_any a b ha hb w).mono ?_
  rintro e w' ⟨rfl, rfl⟩
  exact ⟨by rw [ml_is a b ha hb]; rfl, (Kp.refl w).alloc _⟩

set_option maxRecDepth 100000 in
set_option maxHeartbeats 4000000 in
theorem fit_some (b off cap : Nat) (l : List ByteArray) (h0 : 0 < l.length) (h1 : l.length ≤ cap) (h2 : cap ≤ maxLen) (hs : ∀ i, i < l.length → (l.getD i noS).size ≤ maxLen) (w : World) (hc : ∀ i, i < l.length → w.cell? ⟨b, off + i, none⟩ = some (.string (l.getD i noS))) :
    Calls Tryz.prog 91 #[.slice (some ⟨b, off, none⟩) l.length cap] w fun e w' => e = .returned (.int .i64 (fitE l)) ∧ Kp w w' := by
  unfold maxLen at h2 hs
  go_enter Tryz.func91, Tryz.ntmps91
  go_wp2
  go_loop [3] (fun i => ∃ k : Nat, k ≤ l.length ∧ i = .int .i64 k ∧ ∀ j, j < k → (l.getD j noS).size ≤ 65536) (fun i => l.length - (intOf i).toNat)
  case atStart => exact ⟨0, by omega, rfl, fun j hj => by omega⟩
  case round =>
    obtain ⟨k, hk, rfl, hall⟩ := hrel
    have HA : Hid (∀ j, j < k → (l.getD j noS).size ≤ 65536) := hall
    clear hall
    by_cases hlt : k < l.length
    · have hck := hc k hlt
      have hsk := hs k hlt
      obtain ⟨s, hse⟩ : ∃ s, s = l.getD k noS := ⟨_, rfl⟩
      rw [← hse] at hck hsk
      have HS : Hid (s = l.getD k noS) := hse
      clear hse hc hs
      by_cases hb : s.size ≤ 65536
      · go_wp2
        go_round
        case rel => exact ⟨k + 1, by omega, by go_num, fun j hj => by
          by_cases e : j = k
          · subst e; rw [← HS.out]; exact hb
          · exact HA.out j (by omega)⟩
        case measure => simp [intOf]; omega
      · have HF : Hid (fitE l = 2) := fit_big k hlt (by rw [← HS.out]; omega)
        go_wp2
        go_ret
        exact ⟨by rw [HF.out]; rfl, Kp.refl _⟩
    · obtain rfl : k = l.length := by omega
      go_wp2
      go_loopw [4] (fun i wr => ∃ m : Nat, m ≤ l.length ∧ i = .int .i64 m ∧ (∀ j, j < m → (l.getD j noS).size = (l.getD 0 noS).size) ∧ Kp w wr) (fun i _ => l.length - (intOf i).toNat)
      case atStart => exact ⟨0, by omega, rfl, fun j hj => by omega, Kp.refl w⟩
      case round =>
        obtain ⟨m, hm, rfl, hall, hK⟩ := hrel
        have HB : Hid (∀ j, j < m → (l.getD j noS).size = (l.getD 0 noS).size) := hall
        clear hall
        by_cases hmt : m < l.length
        · have hck := kpw_cell (hK.held (hc m hmt))
          have hc0 := kpw_cell (hK.held (hc 0 h0))
          have hsk := hs m hmt
          have hs0 := hs 0 h0
          obtain ⟨s, hse⟩ : ∃ s, s = l.getD m noS := ⟨_, rfl⟩
          obtain ⟨z, hze⟩ : ∃ z, z = l.getD 0 noS := ⟨_, rfl⟩
          rw [← hse] at hck hsk
          rw [← hze] at hc0 hs0
          simp only [Nat.add_zero] at hc0
          have HS : Hid (s = l.getD m noS) := hse
          have HZ : Hid (z = l.getD 0 noS) := hze
          clear hse hc hs hze
          go_wp2_with fail
          refine wp_region_kp (by kernel_rfl) (by kernel_rfl) ?_
          repeat (first
            | go_big_quiet_skip
            | (go_big_quiet_want; go_big_quiet_op; go_big_quiet_on))
          refine wpQuiet_nil ?_
          rintro w' ⟨p, rfl⟩
          have hK2 := hK.trans (kpw_kp wr p)
          clear hck hc0
          by_cases he : s.size = z.size
          · have hne : ((s.size : Int) != (z.size : Int)) = false := by simp [he]
            have HE : Hid (s.size = z.size) := he
            clear he
            go_wp2
            go_roundw
            case rel =>
              refine ⟨m + 1, by omega, by go_num, fun j hj => ?_, hK2⟩
              by_cases e : j = m
              · subst e; rw [← HS.out, HE.out, HZ.out]
              · exact HB.out j (by omega)
            case measure => simp [intOf]; omega
          · have hne : ((s.size : Int) != (z.size : Int)) = true := by simp; omega
            have HF : Hid (fitE l = 4) := fit_unlike HA.out m hmt (by rw [← HS.out, ← HZ.out]; exact he)
            clear he
            go_wp2
            go_ret
            exact ⟨by rw [HF.out]; rfl, hK2⟩
        · obtain rfl : m = l.length := by omega
          have HF : Hid (fitE l = 0) := fit_ok HA.out HB.out
          clear hc hs
          go_wp2
          go_ret
          exact ⟨by rw [HF.out]; rfl, hK⟩
set_option maxHeartbeats 1000000 in
theorem fit_none (a : Option Addr) (cap : Nat) (w : World) : Calls Tryz.prog 91 #[.slice a 0 cap] w fun e w' => e = .returned (.int .i64 0) ∧ Kp w w' := by
  go_enter Tryz.func91, Tryz.ntmps91
  go_wp2
  refine wp_loop_rounds 1 ?_
  rw [rounds_succ]
  go_wp2
  refine wp_loop_rounds 1 ?_
  rw [rounds_succ]
  go_wp2
  go_ret
  exact ⟨rfl, Kp.refl _⟩
theorem fit_any (v : Value) (l : List ByteArray) (hs : ∀ i, i < l.length → (l.getD i noS).size ≤ maxLen) (w : World) (h : StrsIn w v l) :
    Calls Tryz.prog 91 #[v] w fun e w' => e = .returned (.int .i64 (fitE l)) ∧ Kp w w' := by
  cases h with
  | empty a cap h => exact fit_none a cap w
  | some b off cap l h0 h1 h2 hc => exact fit_some b off cap l h0 h1 h2 hs w hc

theorem convert_own_any {P : Program} {w : World} {base n : Nat} {e : TypeId} {v : Value} {f : Nat → Nat} (src dst : TypeId) (hs : P.underlying src = some (.slice e)) (he : P.underlying e = some (.int .u8)) (hd : P.underlying dst = some .string)
    (h : w.ownsRow base e 1 v n ((List.range n).map fun i => Value.int .u8 ((f i : Nat) : Int))) : (convert src dst v).run P w = .ok (.string (bs n f)) w := by
  rcases h.2 with ⟨hv, h0⟩ | ⟨g, cap, cur, hv, hb, hg, hn, hm, hsz, ht⟩
  · subst hv; subst h0
    exact run_convert_bytes_nil (P := P) w src e hs he 0 0 dst hd
  · subst hv
    exact convert_owned src dst hs he hd h (Nat.le_refl n) cap
theorem snoc (F : Nat → Value) (k : Nat) : (List.range k).map F ++ [F k] = (List.range (k + 1)).map F := by
  rw [List.range_succ, List.map_append]; rfl

set_option maxRecDepth 100000 in
set_option maxHeartbeats 4000000 in
theorem rfold_any (a : ByteArray) (ha : a.size ≤ maxLen) (c : Nat) (hc : c < 256) (s : ByteArray) (hs : s.size ≤ maxLen) (w : World) :
    Calls Tryz.prog 93 #[.string a, .int .u8 c, .string s] w fun e w' => e = .returned (.tuple #[.string (resOf [a, s] (foldS a c s)), .int .i64 (fitE [a, s])]) ∧ Kp w w' := by
  obtain ⟨i0, hi, hz0, hz1, hz2⟩ := info_parts info_u8
  have HF := fit_any _ [a, s] (small2 ha hs) _ (StrsIn.lit2 w a s 9)
  have K0 : Kp w (w.alloc (.cells #[.string a, .string s] 9)) := (Kp.refl w).alloc _
  unfold maxLen at ha hs
  go_enter Tryz.func93, Tryz.ntmps93
  go_wp2_with fail
  refine HF.mono ?_; rintro e w1 ⟨rfl, k1⟩
  have K1 := K0.trans k1
  clear HF K0 k1
  by_cases hf : fitE [a, s] = 0
  · obtain ⟨hsz, hse⟩ := fit_two hf
    have hsy : s.size ≤ a.size := by omega
    clear hse
    rw [hf]
    have HR : Hid (resOf [a, s] (foldS a c s) = foldS a c s) := by show resOf [a, s] _ = _; unfold resOf; rw [if_pos hf]
    have HF : Hid (fitE [a, s] = 0) := hf
    clear hf
    go_wp2
    go_loopw [9, 10] (fun v i wr => ∃ k : Nat, k ≤ s.size ∧ i = .int .i64 k ∧ wr.ownsRow w.heap.size 5 1 v k ((List.range k).map fun i => Value.int .u8 (((fun i : Nat => bAt a i ^^^ ml c (bAt s i)) i : Nat) : Int)) ∧ Kp w wr) (fun _ i _ => s.size - (intOf i).toNat)
    case atStart => exact ⟨0, by omega, rfl, World.ownsRow_nil _ _ _ _, K1⟩
    case round =>
      obtain ⟨k, hk, rfl, hown, hK⟩ := hrel
      clear K1
      by_cases hlt : k < s.size
      · have hka : k < a.size := by omega
        have ea := bAt_nat a k hka
        have es := bAt_nat s k hlt
        have hx := u8_xor_nat (a[k]'hka).toNat (ml c (s[k]'hlt).toNat) (UInt8.toNat_lt _) (ml_lt _ _ hc)
        have HE : Hid (((a[k]'hka).toNat ^^^ ml c (s[k]'hlt).toNat : Nat) = (fun i : Nat => bAt a i ^^^ ml c (bAt s i)) k) := by show _ = bAt a k ^^^ ml c (bAt s k); rw [ea, es]
        clear ea es
        go_wp2_with fail
        refine (rmul_any c (s[k]'hlt).toNat hc (UInt8.toNat_lt _) _).mono ?_; rintro e w2 ⟨rfl, k2⟩
        have hown2 := ownsRow_kp hown k2
        have K2 := hK.trans k2
        have hz := K2.size
        clear hown hK k2
        go_wp2_with (at_builtin; refine wpList_append_own _ rfl _ _ 23 rfl w.heap.size 5 i0 (.int .u8 0) 1 1 Tryz.underlying23 hi hz0 hz1 hz2 rfl (by decide) _ _ _ rfl (hown2.alloc _) ⟨w2.heap.size, 0, none⟩ 1 1 [.int .u8 ((((a[k]'hka).toNat ^^^ ml c (s[k]'hlt).toNat : Nat)) : Int)] rfl rfl ?c1 ?c2 ?c3 ?c4 ?c5 ?_)
        case c1 =>
          intro j u hj
          match j, hj with
          | 0, hj => simp at hj; subst hj; simp [Addr.add]
        case c2 => intro u hu; simp at hu; subst hu; rfl
        case c3 => unfold maxLen; omega
        case c4 => omega
        case c5 => simp; omega
        · intro v' w3 hown3 hgrow3 _
          have hK3 : Kp w w3 := (K2.alloc _).grown hgrow3 (own_lt hown2)
          rw [HE.out, snoc] at hown3
          clear hgrow3 hown2 K2 HE
          go_wp2
          go_roundw
          case rel => exact ⟨k + 1, by omega, by go_num, hown3, hK3⟩
          case measure => simp [intOf]; omega
      · obtain rfl : k = s.size := by omega
        have hcv := convert_own_any (P := Tryz.prog) 23 9 Tryz.underlying23 Tryz.underlying5 Tryz.underlying9 hown
        clear hown
        go_wp2
        go_ret2
        exact ⟨by rw [HF.out, HR.out]; rfl, hK⟩
  · have hb : ((fitE [a, s]) != 0) = true := by simp [hf]
    have HR : Hid (resOf [a, s] (foldS a c s) = noS) := by show resOf [a, s] _ = _; unfold resOf; rw [if_neg hf]
    go_wp2
    go_ret2
    exact ⟨by rw [HR.out]; rfl, K1⟩



theorem fit_pair {a s : ByteArray} (h1 : a.size ≤ 65536) (h2 : s.size = a.size) : fitE [a, s] = 0 := by
  refine fit_ok (fun i hi => ?_) (fun i hi => ?_)
  · have h : i = 0 ∨ i = 1 := by simp at hi; omega
    rcases h with rfl | rfl
    · exact h1
    · show s.size ≤ 65536; omega
  · have h : i = 0 ∨ i = 1 := by simp at hi; omega
    rcases h with rfl | rfl
    · rfl
    · exact h2

end Go.Proofs.YtonooelffokfkaaGreatDoor

namespace Go.Proofs.YtonooelffokfkaaGreatDoor
open Go.RowKit Plain

theorem fit_one {x : ByteArray} (h : x.size ≤ 65536) : fitE [x] = 0 := fit_ok (fun i hi => by
  obtain rfl : i = 0 := by simp at hi; omega
  exact h) (fun i hi => by
  obtain rfl : i = 0 := by simp at hi; omega
  rfl)
theorem res_ok {l : List ByteArray} (h : fitE l = 0) (r : ByteArray) : resOf l r = r := by unfold resOf; rw [if_pos h]
theorem ml65 {n : Nat} (h : n ≤ 65536) : n ≤ maxLen := by unfold maxLen; omega
theorem add2 (x y : ByteArray) (hx : x.size ≤ 65536) (hy : y.size = x.size) (v : Value) (w : World) (h : StrsIn w v [x, y]) :
    Calls Tryz.prog 147 #[v] w fun e w' => e = .returned (.tuple #[.string (foldS x 1 y), .int .i64 0]) ∧ Kp w w' := by
  have H := add_any v [x, y] (small2 (ml65 hx) (ml65 (by omega))) w h
  rw [res_ok (fit_pair hx hy), fit_pair hx hy] at H
  exact H
theorem scale1 (c : Nat) (hc : c < 256) (x : ByteArray) (hx : x.size ≤ 65536) (w : World) :
    Calls Tryz.prog 210 #[.int .u8 c, .string x] w fun e w' => e = .returned (.tuple #[.string (scaleS c x), .int .i64 0]) ∧ Kp w w' := by
  have H := scale_any c hc x (ml65 hx) w
  rw [res_ok (fit_one hx), fit_one hx] at H
  exact H
theorem fold2 (x : ByteArray) (c : Nat) (hc : c < 256) (y : ByteArray) (hx : x.size ≤ 65536) (hy : y.size = x.size) (w : World) :
    Calls Tryz.prog 180 #[.string x, .int .u8 c, .string y] w fun e w' => e = .returned (.tuple #[.string (foldS x c y), .int .i64 0]) ∧ Kp w w' := by
  have H := fold_any x (ml65 hx) c hc y (ml65 (by omega)) w
  rw [res_ok (fit_pair hx hy), fit_pair hx hy] at H
  exact H
theorem double2 (x y : ByteArray) (hx : x.size ≤ 65536) (hy : y.size = x.size) (w : World) :
    Calls Tryz.prog 188 #[.string x, .string y] w fun e w' => e = .returned (.tuple #[.string (foldS y 2 x), .int .i64 0]) ∧ Kp w w' := by
  have H := double_any x y (ml65 hx) (ml65 (by omega)) w
  rw [res_ok (fit_pair hx hy), fit_pair hx hy] at H
  exact H

end Go.Proofs.YtonooelffokfkaaGreatDoor

namespace Go.Proofs.YtonooelffokfkaaGreatDoor
open Go.RowKit Plain

/-- each column times its weight: doubled from the last one on. -/
def wgtS (n : Nat) (l : List ByteArray) : ByteArray := l.foldr (fun c acc => foldS c 2 acc) (zs n)
theorem wgtS_size (n : Nat) : ∀ l : List ByteArray, (wgtS n l).size = n
  | [] => zs_size n
  | c :: r => by
    show (foldS c 2 (wgtS n r)).size = n
    rw [foldS_size, wgtS_size n r]
/-- the sum of columns, from noughts on. -/
def parS (n : Nat) (l : List ByteArray) : ByteArray := l.foldl (fun acc c => foldS acc 1 c) (zs n)
theorem zs_fold (n : Nat) (s : ByteArray) (h : s.size = n) : foldS (zs n) 1 s = s := by
  apply bs_ext
  · rw [foldS_size]
  · intro i hi
    rw [foldS_size] at hi
    rw [foldS_at _ 1 (by omega) s i hi, ml_one_left _ (bAt_lt _ _), show zs n = bs n (fun _ => 0) from rfl, bAt_bs n _ i (by omega) (by omega), Nat.zero_xor]
theorem par_add (n : Nat) (s : ByteArray) (r : List ByteArray) (h : s.size = n) : parS n (s :: r) = addS (s :: r) := by
  show List.foldl _ (foldS (zs n) 1 s) r = List.foldl _ s r
  rw [zs_fold n s h]
/-- by weights, column by column. -/
def refQ : Nat → ByteArray → List ByteArray → ByteArray
  | _, acc, [] => acc
  | k, acc, s :: r => refQ (k + 1) (foldS acc (pw k) s) r
theorem pw_lt (k : Nat) : pw k < 256 := (pw_pos k).2
theorem pw_succ (k : Nat) : pw (k + 1) = ml (pw k) 2 := by rw [ml_two _ (pw_lt k)]; rfl
theorem fold_step (acc s q : ByteArray) (k n : Nat) (hs : s.size = n) (hq : q.size = n) : foldS (foldS acc (pw k) s) (pw (k + 1)) q = foldS acc (pw k) (foldS s 2 q) := by
  apply bs_ext
  · simp only [foldS_size]
  · intro i hi
    simp only [foldS_size] at hi
    rw [foldS_at _ _ (pw_lt _) q i hi, foldS_at acc _ (pw_lt _) s i (by omega), foldS_at acc _ (pw_lt _) _ i (by rw [foldS_size]; exact hi), foldS_at s 2 (by omega) q i hi, ml_sum, pw_succ, ← ml_assoc _ 2 _ (pw_lt k) (by omega) (bAt_lt _ _), Nat.xor_assoc]
theorem refQ_is (n : Nat) : ∀ (l : List ByteArray) (k : Nat) (acc : ByteArray), acc.size = n → (∀ s ∈ l, s.size = n) → refQ k acc l = foldS acc (pw k) (wgtS n l)
  | [], k, acc, ha, _ => by
    show acc = foldS acc (pw k) (zs n)
    apply bs_ext
    · rw [foldS_size, zs_size, ha]
    · intro i hi
      rw [foldS_at _ _ (pw_lt _) _ i (by rw [zs_size]; omega), show zs n = bs n (fun _ => 0) from rfl, bAt_bs n _ i (by omega) (by omega), ml_zero _ (pw_lt _), Nat.xor_zero]
  | s :: r, k, acc, ha, h => by
    have hs := h s (by simp)
    show refQ (k + 1) (foldS acc (pw k) s) r = foldS acc (pw k) (foldS s 2 (wgtS n r))
    rw [refQ_is n r (k + 1) _ (by rw [foldS_size, hs]) (fun t ht => h t (by simp [ht])), fold_step _ _ _ _ n hs (wgtS_size n r)]
theorem wgt_ref (n : Nat) (l : List ByteArray) (h : ∀ s ∈ l, s.size = n) : refQ 0 (zs n) l = wgtS n l := by
  rw [refQ_is n l 0 _ (zs_size n) h]
  exact zs_fold n _ (wgtS_size n l)
theorem refQ_snoc (s : ByteArray) : ∀ (l : List ByteArray) (k : Nat) (acc : ByteArray), refQ k acc (l ++ [s]) = foldS (refQ k acc l) (pw (k + l.length)) s
  | [], k, acc => rfl
  | t :: r, k, acc => by
    show refQ (k + 1) _ (r ++ [s]) = foldS (refQ (k + 1) _ r) _ s
    rw [refQ_snoc s r, List.length_cons, show k + 1 + r.length = k + (r.length + 1) by omega]
theorem refQ_take (l : List ByteArray) (acc : ByteArray) (k : Nat) (h : k < l.length) : refQ 0 acc (l.take (k + 1)) = foldS (refQ 0 acc (l.take k)) (pw k) (l.getD k noS) := by
  rw [List.take_add_one, List.getElem?_eq_getElem h, Option.toList_some, refQ_snoc, List.length_take, Nat.min_eq_left (by omega), Nat.zero_add, List.getD_eq_getElem?_getD, List.getElem?_eq_getElem h]; rfl
theorem refQ_size (n : Nat) : ∀ (l : List ByteArray) (k : Nat) (acc : ByteArray), acc.size = n → (∀ s ∈ l, s.size = n) → (refQ k acc l).size = n
  | [], _, _, ha, _ => ha
  | s :: r, k, acc, _, h => refQ_size n r (k + 1) _ (by rw [foldS_size]; exact h s (by simp)) (fun t ht => h t (by simp [ht]))
theorem parS_take (n : Nat) (l : List ByteArray) (k : Nat) (h : k < l.length) : parS n (l.take (k + 1)) = foldS (parS n (l.take k)) 1 (l.getD k noS) := by
  unfold parS
  rw [List.take_add_one, List.getElem?_eq_getElem h, Option.toList_some, List.foldl_append, List.getD_eq_getElem?_getD, List.getElem?_eq_getElem h]; rfl
theorem par_size (n : Nat) : ∀ (l : List ByteArray) (acc : ByteArray), acc.size = n → (∀ s ∈ l, s.size = n) → (l.foldl (fun acc c => foldS acc 1 c) acc).size = n
  | [], _, ha, _ => ha
  | s :: r, acc, _, h => par_size n r _ (by rw [foldS_size]; exact h s (by simp)) (fun t ht => h t (by simp [ht]))
theorem parS_size (n : Nat) (l : List ByteArray) (h : ∀ s ∈ l, s.size = n) : (parS n l).size = n := par_size n l _ (zs_size n) h
/-- buffers of one length, as the document words it. -/
theorem fit_all {l : List ByteArray} (h : fitE l = 0) : ∀ s ∈ l, s.size = (l.getD 0 noS).size := all_of_at (P := fun s => s.size = (l.getD 0 noS).size) (fit_is l h).2

/-! ### what Make, Power, Delta answer -/
def mkE (l : List ByteArray) : Int := if l.length < 2 ∨ 30 < l.length then 3 else fitE l
def pS (l : List ByteArray) : ByteArray := if mkE l = 0 then parS (l.getD 0 noS).size l else noS
def qS (l : List ByteArray) : ByteArray := if mkE l = 0 then wgtS (l.getD 0 noS).size l else noS
theorem mk_out {l : List ByteArray} (h : l.length < 2 ∨ 30 < l.length) : mkE l = 3 := by unfold mkE; rw [if_pos h]
theorem mk_in {l : List ByteArray} (h1 : 2 ≤ l.length) (h2 : l.length ≤ 30) : mkE l = fitE l := by unfold mkE; rw [if_neg (by omega)]
theorem mk_ok {l : List ByteArray} (h : mkE l = 0) : 2 ≤ l.length ∧ l.length ≤ 30 ∧ fitE l = 0 := by
  unfold mkE at h
  split at h
  · cases h
  · exact ⟨by omega, by omega, h⟩
theorem p_ok {l : List ByteArray} (h : mkE l = 0) : pS l = parS (l.getD 0 noS).size l := by unfold pS; rw [if_pos h]
theorem q_ok {l : List ByteArray} (h : mkE l = 0) : qS l = wgtS (l.getD 0 noS).size l := by unfold qS; rw [if_pos h]
theorem p_not {l : List ByteArray} (h : mkE l ≠ 0) : pS l = noS := by unfold pS; rw [if_neg h]
theorem q_not {l : List ByteArray} (h : mkE l ≠ 0) : qS l = noS := by unfold qS; rw [if_neg h]
theorem p_add {l : List ByteArray} (h : mkE l = 0) : pS l = addS l := by
  rw [p_ok h]
  cases l with
  | nil => exact absurd (mk_ok h).1 (by simp)
  | cons s r => exact par_add _ s r rfl
def pwI (i : Int) : Nat := if 0 ≤ i ∧ i < 30 then pw i.toNat else 0
theorem pwI_out {i : Int} (h : ¬ (0 ≤ i ∧ i < 30)) : pwI i = 0 := by unfold pwI; rw [if_neg h]
theorem pwI_in (k : Nat) (h : k < 30) : pwI (k : Int) = pw k := by unfold pwI; rw [if_pos ⟨by omega, by omega⟩]; rfl

end Go.Proofs.YtonooelffokfkaaGreatDoor

namespace Go.Proofs.YtonooelffokfkaaGreatDoor
open Go.RowKit Plain

def xb (i : Nat) (l : List ByteArray) : Nat := l.foldr (fun s x => bAt s i ^^^ x) 0
def qb (i : Nat) (l : List ByteArray) : Nat := l.foldr (fun s x => bAt s i ^^^ ml 2 x) 0
theorem qx_lt (i : Nat) : ∀ l, qb i l < 256
  | [] => by show 0 < 256; omega
  | s :: r => Nat.xor_lt_two_pow (n := 8) (bAt_lt s i) (ml_lt 2 _ (by omega))
theorem xx_lt (i : Nat) : ∀ l, xb i l < 256
  | [] => by show 0 < 256; omega
  | s :: r => Nat.xor_lt_two_pow (n := 8) (bAt_lt s i) (xx_lt i r)
theorem wgt_at (n i : Nat) (h : i < n) : ∀ l : List ByteArray, bAt (wgtS n l) (i : Int) = qb i l
  | [] => zs_at n i
  | s :: r => by
    show bAt (foldS s 2 (wgtS n r)) (i : Int) = bAt s i ^^^ ml 2 (qb i r)
    rw [foldS_at s 2 (by omega) _ i (by rw [wgtS_size]; exact h), wgt_at n i h r]
theorem par_from (n i : Nat) (h : i < n) : ∀ (l : List ByteArray) (acc : ByteArray), (∀ s ∈ l, s.size = n) → bAt (l.foldl (fun acc c => foldS acc 1 c) acc) (i : Int) = bAt acc (i : Int) ^^^ xb i l
  | [], acc, _ => by show _ = bAt acc i ^^^ 0; rw [Nat.xor_zero]; rfl
  | s :: r, acc, hs => by
    show bAt (r.foldl (fun acc c => foldS acc 1 c) (foldS acc 1 s)) (i : Int) = bAt acc i ^^^ (bAt s i ^^^ xb i r)
    rw [par_from n i h r _ (fun t ht => hs t (by simp [ht])), foldS_at acc 1 (by omega) s i (by rw [hs s (by simp)]; exact h), ml_one_left _ (bAt_lt _ _), Nat.xor_assoc]
theorem par_at (n i : Nat) (h : i < n) (l : List ByteArray) (hs : ∀ s ∈ l, s.size = n) : bAt (parS n l) (i : Int) = xb i l := by
  unfold parS
  rw [par_from n i h l _ hs, zs_at n i, Nat.zero_xor]
theorem xor_swap (a b c : Nat) : a ^^^ b ^^^ (a ^^^ c) = c ^^^ b := by
  rw [Nat.xor_comm a b, Nat.xor_assoc, ← Nat.xor_assoc a a c, Nat.xor_self, Nat.zero_xor, Nat.xor_comm]
theorem xb_set (i : Nat) (t : ByteArray) : ∀ (l : List ByteArray) (k : Nat), k < l.length → xb i (l.set k t) = xb i l ^^^ (bAt (l.getD k noS) i ^^^ bAt t i)
  | [], _, h => by simp at h
  | s :: r, 0, _ => by
    show bAt t i ^^^ xb i r = bAt s i ^^^ xb i r ^^^ (bAt s i ^^^ bAt t i)
    rw [xor_swap]
  | s :: r, k + 1, h => by
    show bAt s i ^^^ xb i (r.set k t) = bAt s i ^^^ xb i r ^^^ (bAt (r.getD k noS) i ^^^ bAt t i)
    rw [xb_set i t r k (by simpa using h), Nat.xor_assoc]
theorem qb_set (i : Nat) (t : ByteArray) : ∀ (l : List ByteArray) (k : Nat), k < l.length → qb i (l.set k t) = qb i l ^^^ ml (pw k) (bAt (l.getD k noS) i ^^^ bAt t i)
  | [], _, h => by simp at h
  | s :: r, 0, _ => by
    show bAt t i ^^^ ml 2 (qb i r) = bAt s i ^^^ ml 2 (qb i r) ^^^ ml 1 (bAt s i ^^^ bAt t i)
    rw [ml_one_left _ (Nat.xor_lt_two_pow (n := 8) (bAt_lt s i) (bAt_lt t i)), xor_swap]
  | s :: r, k + 1, h => by
    show bAt s i ^^^ ml 2 (qb i (r.set k t)) = bAt s i ^^^ ml 2 (qb i r) ^^^ ml (pw (k + 1)) (bAt (r.getD k noS) i ^^^ bAt t i)
    rw [qb_set i t r k (by simpa using h), ml_sum, ml_assoc 2 _ _ (by omega) (pw_lt k) (Nat.xor_lt_two_pow (n := 8) (bAt_lt _ i) (bAt_lt t i)), ml_comm 2 _ (by omega) (pw_lt k), ← pw_succ, Nat.xor_assoc]
theorem set_sizes {n : Nat} {l : List ByteArray} {t : ByteArray} (h : ∀ s ∈ l, s.size = n) (ht : t.size = n) (k : Nat) : ∀ s ∈ l.set k t, s.size = n := fun s hs => by
  rcases List.mem_or_eq_of_mem_set hs with h' | rfl
  · exact h s h'
  · exact ht
/-- columns of one length, as many as may be. -/
theorem mk_all {n : Nat} {l : List ByteArray} (h2 : 2 ≤ l.length) (h30 : l.length ≤ 30) (hn : n ≤ 65536) (h : ∀ s ∈ l, s.size = n) : mkE l = 0 ∧ pS l = parS n l ∧ qS l = wgtS n l := by
  have h0 : (l.getD 0 noS).size = n := h _ (mem_of_at l 0 (by omega))
  have hf : fitE l = 0 := fit_ok (fun i hi => by rw [h _ (mem_of_at l i hi)]; exact hn) (fun i hi => by rw [h _ (mem_of_at l i hi), h0])
  have hm : mkE l = 0 := by rw [mk_in h2 h30, hf]
  exact ⟨hm, by rw [p_ok hm, h0], by rw [q_ok hm, h0]⟩

end Go.Proofs.YtonooelffokfkaaGreatDoor

namespace Go.Proofs.YtonooelffokfkaaGreatDoor
open Go.RowKit Go.Shelf Plain

attribute [local go_sem] Oper.semAt_some

def fixS (n : Nat) (s : ByteArray) : ByteArray := if s.size = n then s else zs n
theorem fixS_ok {n : Nat} {s : ByteArray} (h : s.size = n) : fixS n s = s := by unfold fixS; rw [if_pos h]
theorem fixS_size (n : Nat) (s : ByteArray) : (fixS n s).size = n := by
  unfold fixS
  split
  · assumption
  · exact zs_size n
def bwd (l : List ByteArray) (k : Nat) : List (Nat × ByteArray) := (List.range k).map fun j => (l.length - 1 - j, l.getD (l.length - 1 - j) noS)
theorem bwd_succ (l : List ByteArray) (k : Nat) : bwd l (k + 1) = bwd l k ++ [(l.length - 1 - k, l.getD (l.length - 1 - k) noS)] := by simp [bwd, List.range_succ]
theorem bwd_length (l : List ByteArray) (k : Nat) : (bwd l k).length = k := by simp [bwd]
def encB (n : Nat) (x : Nat × ByteArray) : Array Value := #[.int .i64 (x.1 : Int), .string (fixS n x.2)]

/-- two blocks lie as they lay. -/
structure Two (b B : Nat) (W W' : World) : Prop where
  one : W'.heap[b]? = W.heap[b]?
  two : W'.heap[B]? = W.heap[B]?
theorem Two.refl (b B : Nat) (W : World) : Two b B W W := ⟨rfl, rfl⟩
theorem Two.trans {b B : Nat} {X Y Z : World} (h : Two b B X Y) (k : Two b B Y Z) : Two b B X Z := ⟨k.one.trans h.one, k.two.trans h.two⟩
theorem cell_of {W W' : World} {b : Nat} (h : W'.heap[b]? = W.heap[b]?) (o : Nat) : W'.cell? ⟨b, o, none⟩ = W.cell? ⟨b, o, none⟩ := by simp [World.cell?, h]
theorem two_put {b B : Nat} {w : World} (hb : b < w.heap.size) (hB : B < w.heap.size) (W : World) (l : Nat) (o o' : Obj) (hl : w.heap.size ≤ l) (_h : W.heap[l]? = some o) (_ : o.isCells = false) (_ : o.isWalk = false) : Two b B W (W.putObj l o') :=
  ⟨World.putObj_heap_other (by omega), World.putObj_heap_other (by omega)⟩
theorem Kp.two {b B : Nat} {W W' : World} (h : Kp W W') (hb : b < W.heap.size) (hB : B < W.heap.size) : Two b B W W' := ⟨h.block b hb, h.block B hB⟩

set_option maxRecDepth 100000 in
set_option maxHeartbeats 2000000 in
theorem back1_in (F : Fence) (m : Nat) (hf : F.fn 216) (hro : F.round = none) (hm : 1 ≤ m) (ll Bs b off cap n : Nat) (l : List ByteArray) (h30 : l.length ≤ 30) (_h1 : l.length ≤ cap) (_h2 : cap ≤ maxLen) (he : ∀ i, i < l.length → (l.getD i noS).size = n) (J Jx : List (Nat × ByteArray) → World → Prop)
    (hY : ∀ pre x W, J pre W → pre.length < l.length → YieldAt F (m - 1) Tryz.prog ll (encB n x) W fun e W' =>
      (e = .returned (.bool true) ∧ J (pre ++ [x]) W' ∧ Two b Bs W W') ∨ (e = .returned (.bool false) ∧ Jx (pre ++ [x]) W'))
    (W : World) (hB : W.cell? ⟨Bs, 0, none⟩ = some (.slice (some ⟨b, off, none⟩) l.length cap)) (hc : ∀ j, j < l.length → W.cell? ⟨b, off + j, none⟩ = some (.string (l.getD j noS))) (h0 : J [] W) :
    CallsIn F m Tryz.prog 216 #[.func (.yield ll) #[] #[], .pointer (some ⟨Bs, 0, none⟩)] W fun e W' => (∃ v, e = .returned v) ∧
      ((∃ ys, ys = bwd l l.length ∧ J ys W') ∨ (∃ pre, (∃ k, k ≤ l.length ∧ pre = bwd l k) ∧ Jx pre W')) := by
  refine callsIn_of_wp Tryz.func216 rfl hf ?_ hro
  simp only [Tryz.ntmps216, List.size_toArray, List.length_cons, List.length_nil, Nat.reduceAdd, Nat.reduceSub, Array.replicate_succ, Array.replicate_zero, List.push_toArray, List.append_toArray, List.nil_append, List.cons_append]
  gi_wp2
  gi_loopw [3] (fun i wr => ∃ k : Nat, k ≤ l.length ∧ i = .int .i64 ((l.length : Int) - 1 - k) ∧ J (bwd l k) wr ∧ Two b Bs W wr) (fun i _ => (intOf i + 1).toNat)
  case atStart => exact ⟨0, Nat.zero_le _, by go_num, h0, Two.refl _ _ _⟩
  case round =>
    obtain ⟨k, hk, rfl, hJs, hnx⟩ := hrel
    have hBx : wr.cell? ⟨Bs, 0, none⟩ = some (.slice (some ⟨b, off, none⟩) l.length cap) := (cell_of hnx.two 0).trans hB
    by_cases hlt : k < l.length
    · obtain ⟨i, hi⟩ : ∃ i : Nat, i = l.length - 1 - k := ⟨_, rfl⟩
      have hil : i < l.length := by omega
      have hci : wr.cell? ⟨b, off + i, none⟩ = some (.string (l.getD i noS)) := (cell_of hnx.one _).trans (hc i hil)
      have hyy := hY _ (i, l.getD i noS) wr hJs (by rw [bwd_length]; exact hlt)
      rw [show bwd l k ++ [(i, l.getD i noS)] = bwd l (k + 1) by rw [bwd_succ, hi]] at hyy
      unfold encB at hyy
      dsimp only at hyy
      rw [fixS_ok (he i hil)] at hyy
      obtain ⟨s, hs⟩ : ∃ s, s = l.getD i noS := ⟨_, rfl⟩
      rw [← hs] at hyy hci
      clear hs hc he
      obtain ⟨fn, tmps, assign, body, hy, hR⟩ := hyy
      rw [show (l.length : Int) - 1 - k = (i : Int) by omega]
      have hi1 : i + k + 1 ≤ l.length := by omega
      have hi2 : l.length ≤ i + k + 1 := by omega
      clear hi
      gi_wp2
      refine hR.mono ?_
      rintro e W3 (⟨rfl, hJ3, hk3⟩ | ⟨rfl, hJx3⟩)
      · gi_wp2
        go_roundw
        case rel => exact ⟨k + 1, by omega, by go_num, hJ3, hnx.trans hk3⟩
        case measure => simp [intOf]
      · gi_wp2
        refine bodyPost_ret (results_none rfl _ _ _) rfl ?_
        exact ⟨⟨_, rfl⟩, .inr ⟨_, ⟨k + 1, by omega, rfl⟩, hJx3⟩⟩
    · obtain rfl : k = l.length := by omega
      gi_wp2
      go_end0
      exact ⟨⟨_, rfl⟩, .inl ⟨_, rfl, hJs⟩⟩

set_option maxHeartbeats 1000000 in
theorem backward_any (a : Option Addr) (len cap : Nat) (w : World) :
    Calls Tryz.prog 187 #[.slice a len cap] w fun e w' => e = .returned (.func (.func 216) #[] #[.pointer (some ⟨w.heap.size, 0, none⟩)]) ∧ w' = w.alloc (.cells #[.slice a len cap] 67) := by
  go_enter Tryz.func187, Tryz.ntmps187
  go_wp2
  go_ret
  exact ⟨rfl, rfl⟩

theorem back_stops (w : World) (F : Fence) (m : Nat) (hf : F.fn 216) (hro : F.round = none) (hm : 1 ≤ m) (Bs b off cap n : Nat) (l : List ByteArray) (h30 : l.length ≤ 30) (h1 : l.length ≤ cap) (h2 : cap ≤ maxLen) (he : ∀ i, i < l.length → (l.getD i noS).size = n) (hb : b < w.heap.size) (hBs : Bs < w.heap.size)
    (hB : w.cell? ⟨Bs, 0, none⟩ = some (.slice (some ⟨b, off, none⟩) l.length cap)) (hc : ∀ j, j < l.length → w.cell? ⟨b, off + j, none⟩ = some (.string (l.getD j noS))) :
    SeqStopsK F m Tryz.prog 216 #[.pointer (some ⟨Bs, 0, none⟩)] (encB n) (Two b Bs) (fun ys => ys = bwd l l.length) (fun pre => ∃ k, k ≤ l.length ∧ pre = bwd l k) l.length w := fun ll J Jx W hW _ _ hY h0 =>
  back1_in F m hf hro hm ll Bs b off cap n l h30 h1 h2 he J Jx hY W ((hW.cell (p := ⟨Bs, 0, none⟩) (by show Bs < _; omega)).trans hB) (fun j hj => (hW.cell (p := ⟨b, off + j, none⟩) (by show b < _; omega)).trans (hc j hj)) h0

/-- the sum so far. -/
def horn (n : Nat) (pre : List (Nat × ByteArray)) : ByteArray := pre.foldl (fun acc x => foldS (fixS n x.2) 2 acc) (zs n)
theorem horn_snoc (n : Nat) (pre : List (Nat × ByteArray)) (x : Nat × ByteArray) : horn n (pre ++ [x]) = foldS (fixS n x.2) 2 (horn n pre) := by simp [horn]
theorem horn_from (n : Nat) : ∀ (pre : List (Nat × ByteArray)) (acc : ByteArray), acc.size = n → (pre.foldl (fun acc x => foldS (fixS n x.2) 2 acc) acc).size = n
  | [], _, h => h
  | x :: r, acc, h => horn_from n r _ (by rw [foldS_size]; exact h)
theorem horn_size (n : Nat) (pre : List (Nat × ByteArray)) : (horn n pre).size = n := horn_from n pre _ (zs_size n)
theorem horn_drop (n : Nat) (l : List ByteArray) (he : ∀ i, i < l.length → (l.getD i noS).size = n) : ∀ k, k ≤ l.length → horn n (bwd l k) = wgtS n (l.drop (l.length - k))
  | 0, _ => by
    rw [Nat.sub_zero, List.drop_length]; rfl
  | k + 1, h => by
    have hi : l.length - 1 - k < l.length := by omega
    rw [bwd_succ, horn_snoc, fixS_ok (he _ hi), horn_drop n l he k (by omega), show l.length - (k + 1) = l.length - 1 - k by omega, List.drop_eq_getElem_cons hi, show l.length - 1 - k + 1 = l.length - k by omega, List.getD_eq_getElem?_getD, List.getElem?_eq_getElem hi]
    rfl
theorem horn_all (n : Nat) (l : List ByteArray) (he : ∀ i, i < l.length → (l.getD i noS).size = n) : horn n (bwd l l.length) = wgtS n l := by
  rw [horn_drop n l he _ (Nat.le_refl _), Nat.sub_self, List.drop_zero]
theorem Kp.others {w w' : World} (h : Kp w w') : KeepsOthers w w' := ⟨h.size, fun k _ hk _ => (h.block k (Array.getElem?_eq_some_iff.1 hk).1).trans hk⟩
theorem Kp.boxed {w w' : World} (h : Kp w w') {B : Nat} {t : TypeId} {v : Value} (hb : Boxed w B t v) : Boxed w' B t v := (h.block B hb.lt).trans hb

set_option maxRecDepth 100000 in
set_option maxHeartbeats 4000000 in
theorem weighted_any (b off cap n : Nat) (l : List ByteArray) (h0 : 0 < l.length) (h30 : l.length ≤ 30) (h1 : l.length ≤ cap) (h2 : cap ≤ maxLen) (hn : n ≤ 65536) (he : ∀ i, i < l.length → (l.getD i noS).size = n) (w : World) (hc : ∀ i, i < l.length → w.cell? ⟨b, off + i, none⟩ = some (.string (l.getD i noS))) :
    Calls Tryz.prog 163 #[.slice (some ⟨b, off, none⟩) l.length cap] w fun e w' => e = .returned (.string (wgtS n l)) ∧ Kp w w' := by
  obtain ⟨s0, hs0⟩ : ∃ s, s = l.getD 0 noS := ⟨_, rfl⟩
  have hc0 : w.cell? ⟨b, off, none⟩ = some (.string s0) := by rw [hs0]; exact hc 0 h0
  have hz0 : s0.size = n := by rw [hs0]; exact he 0 h0
  have hbw : b < w.heap.size := World.block_lt_of_cell? w _ hc0
  clear hs0
  have hN := noughts_any (n : Int) (by omega) (by omega) w
  rw [show noughtN (n : Int) = n by unfold noughtN; omega] at hN
  refine (callsIn_wide (n := 3)).1 ?_
  refine callsIn_of_wp_marks Tryz.func163 rfl trivial ?_ rfl
  simp only [Tryz.ntmps163, List.size_toArray, List.length_cons, List.length_nil, Nat.reduceAdd, Nat.reduceSub, Array.replicate_succ, Array.replicate_zero, List.push_toArray, List.append_toArray, List.nil_append, List.cons_append]
  gi_wp2_with (refine ⟨trivial, ?_⟩; gi_at_call 148; refine (callsIn_wide.2 hN).mono ?_; rintro e w1 ⟨rfl, k1⟩)
  gi_wp2_with (refine ⟨trivial, ?_⟩; gi_at_call 187; refine (callsIn_wide.2 (backward_any _ _ _ _)).mono ?_; rintro e w2 ⟨rfl, rfl⟩)
  clear hN
  obtain ⟨W0, hW0⟩ : ∃ W0, W0 = (w1.alloc (.cells #[.string (zs n)] 9)).alloc (.cells #[.slice (some ⟨b, off, none⟩) l.length cap] 67) := ⟨_, rfl⟩
  have bS : Boxed W0 w1.heap.size 9 (.string (zs n)) := by rw [hW0]; exact (Boxed.new w1 9 _).alloc _
  have bN : Boxed W0 (w1.heap.size + 1) 67 (.slice (some ⟨b, off, none⟩) l.length cap) := by
    rw [hW0]; have := Boxed.new (w1.alloc (.cells #[.string (zs n)] 9)) 67 (.slice (some ⟨b, off, none⟩) l.length cap); rwa [World.size_alloc] at this
  have K0 : Kp w W0 := by rw [hW0]; exact (k1.alloc _).alloc _
  have hsz : W0.heap.size = w1.heap.size + 2 := by rw [hW0]; simp
  have hzw := k1.size
  rw [← hW0]
  clear hW0
  have hc0' := fun i hi => K0.held (hc i hi)
  refine wpIn_rangeFunc_ownF rfl (by omega) (gf := 216) (lb := #[.pointer (some ⟨w1.heap.size + 1, 0, none⟩)]) rfl trivial (enters_of Tryz.func216 (by kernel_rfl) rfl)
    (back_stops W0 Fence.wide 2 trivial rfl (by omega) (w1.heap.size + 1) b off cap n l h30 h1 h2 he (by omega) (by omega) bN.cell hc0') Two.trans (two_put (by omega) (by omega)) (Below.refl _ _) (fun _ => rfl)
    (fun pre W => Boxed W w1.heap.size 9 (.string (horn n pre)) ∧ Kp w W ∧ W0.heap.size ≤ W.heap.size)
    (fun _ _ _ => False)
    (OwnFrom.and (Own.from (boxed_own _ _ _) _) (OwnFrom.and (ownFrom_below (Nat.le_refl _) (by omega)) (fun _ _ _ _ hs hg _ => Nat.le_trans hs hg.size)))
    (fun _ _ _ _ _ hs _ _ => hs)
    ⟨bS, K0, Nat.le_refl _⟩
    (fun x => { tmps := #[.slice (some ⟨b, off, none⟩) l.length cap, undef, .string ⟨#[]⟩, .pointer (some ⟨w1.heap.size, 0, none⟩), undef, .string (fixS n x.2), .slice (some ⟨b, off, none⟩) l.length cap, .pointer (some ⟨b, off, none⟩), .string s0, .int .i64 n, .string (zs n), .slice (some ⟨b, off, none⟩) l.length cap, .func (.func 216) #[] #[.pointer (some ⟨w1.heap.size + 1, 0, none⟩)], .int .i64 (x.1 : Int), .string (fixS n x.2), undef, undef, undef, undef, undef, undef, undef], defers := [] }) ?assign ?body ?done ?stop
  case assign =>
    intro l x W K hK
    unfold encB
    gi_wp2
    exact hK
  case body =>
    rintro ll pre x W ⟨hbx, hB, hz⟩ _
    have hbc := hbx.cell
    have hd := double2 (horn n pre) (fixS n x.2) (by rw [horn_size]; exact hn) (by rw [fixS_size, horn_size]) W
    rw [← horn_snoc n pre x] at hd
    gi_wp2_with (refine ⟨trivial, ?_⟩; gi_at_call 188; refine (CallsIn.inRound ll (callsIn_wide.2 hd)).mono ?_; rintro e w3 ⟨rfl, k3⟩; have hb3 := k3.boxed hbx; have hbc3 := hb3.cell; have hbf3 := hb3.frozen)
    have hz3 := k3.size
    have hg := grownBy_setCell' w3 w1.heap.size (Value.string (horn n (pre ++ [x])))
    exact ⟨k3.others.trans (KeepsOthers.setCell _ _ _), (k3.two (by omega) (by omega)).trans ⟨hg.block b (by omega) (by simp; omega), hg.block _ (by omega) (by simp)⟩, hb3.set _, (hB.trans k3).setCell (p := ⟨w1.heap.size, 0, none⟩) (by show _ ≤ w1.heap.size; omega) _, by rw [← show w3.heap.size = _ from (World.size_setCell _ _ _).symm]; omega⟩
  case done =>
    rintro D ys W hD rfl ⟨hbx, hB, hz⟩ hK
    have hbc := hbx.cell
    gi_wp2
    refine ⟨by simp, .inl ⟨_, _, rfl, run_takeDeferred hK, ?_⟩⟩
    rw [← horn_all n l he]
    exact ⟨_, results_tmp rfl _ _ _, rfl, Below.trans hB (belowK_b (w := w) (Nat.le_refl _) W D _ _ (by omega) hK rfl rfl)⟩
  case stop =>
    rintro D c pre W _ _ h _
    exact h.elim

end Go.Proofs.YtonooelffokfkaaGreatDoor

namespace Go.Proofs.YtonooelffokfkaaGreatDoor
open Go.RowKit Plain Go.BigFrame

def b1 (x : Nat) : ByteArray := bs 1 (fun _ => x)
theorem b1_size (x : Nat) : (b1 x).size = 1 := bs_size _ _
theorem b1_at (x : Nat) (h : x < 256) : bAt (b1 x) 0 = x := bAt_bs 1 _ 0 (by omega) h
theorem b1_one : (⟨#[1]⟩ : ByteArray) = b1 (pw 0) := by decide +kernel
theorem b1_scale (k : Nat) : scaleS 2 (b1 (pw k)) = b1 (pw (k + 1)) := by
  apply bs_ext
  · rw [scaleS_size, b1_size, b1_size]
  · intro i hi
    rw [scaleS_size, b1_size] at hi
    obtain rfl : i = 0 := by omega
    rw [scaleS_at 2 (by omega) _ 0 (by rw [b1_size]; omega)]
    show ml 2 (bAt (b1 (pw k)) 0) = bAt (b1 (pw (k + 1))) 0
    rw [b1_at _ (pw_lt _), b1_at _ (pw_lt _), pw_succ, ml_comm 2 _ (by omega) (pw_lt _)]

set_option maxRecDepth 100000 in
set_option maxHeartbeats 2000000 in
theorem power_in (n : Nat) (hn : n < 30) (w : World) : Calls Tryz.prog 179 #[.int .i64 (n : Int)] w fun e w' => e = .returned (.int .u8 (pw n : Nat)) ∧ Kp w w' := by
  go_enter Tryz.func179, Tryz.ntmps179
  go_wp2
  rw [b1_one]
  go_loopw [3, 11] (fun s i wr => ∃ k : Nat, k ≤ n ∧ i = .int .i64 k ∧ s = .string (b1 (pw k)) ∧ Kp w wr) (fun _ i _ => n - (intOf i).toNat)
  case atStart => exact ⟨0, by omega, rfl, rfl, Kp.refl w⟩
  case round =>
    obtain ⟨k, hk, rfl, rfl, hK⟩ := hrel
    by_cases hlt : k < n
    · have hS := scale1 2 (by omega) (b1 (pw k)) (by rw [b1_size]; omega) wr
      rw [b1_scale] at hS
      go_wp2_with (go_at_call 210; refine hS.mono ?_; rintro e w2 ⟨rfl, k2⟩)
      go_roundw
      case rel => exact ⟨k + 1, by omega, by go_num, rfl, hK.trans k2⟩
      case measure => simp [intOf] <;> omega
    · obtain rfl : k = n := by omega
      have hz := b1_size (pw k)
      have hb : ((b1 (pw k))[0]'(by rw [b1_size]; omega)).toNat = pw k := by rw [← bAt_nat]; exact b1_at _ (pw_lt _)
      go_wp2
      go_ret
      exact ⟨rfl, hK⟩

set_option maxHeartbeats 2000000 in
theorem power_any (i : Int) (h1 : -9223372036854775808 ≤ i) (h2 : i ≤ 9223372036854775807) (w : World) : Calls Tryz.prog 179 #[.int .i64 i] w fun e w' => e = .returned (.int .u8 (pwI i : Nat)) ∧ Kp w w' := by
  by_cases h : 0 ≤ i ∧ i < 30
  · obtain ⟨k, rfl⟩ : ∃ k : Nat, (k : Int) = i := ⟨i.toNat, by omega⟩
    rw [pwI_in k (by omega)]
    exact power_in k (by omega) w
  · rw [pwI_out h]
    by_cases hn : i < 0
    · go_enter Tryz.func179, Tryz.ntmps179
      go_wp2
      go_ret
      exact ⟨rfl, Kp.refl _⟩
    · have hn2 : 30 ≤ i := by omega
      have hn3 : 0 ≤ i := by omega
      clear h hn
      go_enter Tryz.func179, Tryz.ntmps179
      go_wp2
      go_ret
      exact ⟨rfl, Kp.refl _⟩

theorem ret3 (l : List ByteArray) (h : mkE l ≠ 0) : Ending.returned (.tuple #[.string noS, .string noS, .int .i64 (mkE l)]) = .returned (.tuple #[.string (pS l), .string (qS l), .int .i64 (mkE l)]) := by rw [p_not h, q_not h]
set_option maxHeartbeats 2000000 in
theorem make_few (a : Option Addr) (len cap : Nat) (h : len < 2) (w : World) : Calls Tryz.prog 127 #[.slice a len cap] w fun e w' => e = .returned (.tuple #[.string noS, .string noS, .int .i64 3]) ∧ Kp w w' := by
  go_enter Tryz.func127, Tryz.ntmps127
  go_wp2
  go_ret3
  exact ⟨rfl, Kp.refl _⟩
set_option maxHeartbeats 2000000 in
theorem make_many (a : Option Addr) (len cap : Nat) (h : 30 < len) (w : World) : Calls Tryz.prog 127 #[.slice a len cap] w fun e w' => e = .returned (.tuple #[.string noS, .string noS, .int .i64 3]) ∧ Kp w w' := by
  go_enter Tryz.func127, Tryz.ntmps127
  go_wp2
  go_ret3
  exact ⟨rfl, Kp.refl _⟩
set_option maxRecDepth 100000 in
set_option maxHeartbeats 4000000 in
theorem make_any (v : Value) (l : List ByteArray) (hs : ∀ i, i < l.length → (l.getD i noS).size ≤ maxLen) (w : World) (h : StrsIn w v l) :
    Calls Tryz.prog 127 #[v] w fun e w' => e = .returned (.tuple #[.string (pS l), .string (qS l), .int .i64 (mkE l)]) ∧ Kp w w' := by
  by_cases hf : l.length < 2
  · have e3 := mk_out (l := l) (.inl hf)
    rw [p_not (by rw [e3]; decide), q_not (by rw [e3]; decide), e3]
    cases h with
    | empty a cap h => exact make_few a 0 cap hf w
    | some b off cap l h0 h1 h2 hc => exact make_few _ _ cap hf w
  by_cases hm : 30 < l.length
  · have e3 := mk_out (l := l) (.inr hm)
    rw [p_not (by rw [e3]; decide), q_not (by rw [e3]; decide), e3]
    cases h with
    | empty a cap h => exact make_many a 0 cap hm w
    | some b off cap l h0 h1 h2 hc => exact make_many _ _ cap hm w
  have hA := add_any v l hs w h
  have e0 := mk_in (l := l) (by omega) (by omega)
  by_cases hok : fitE l = 0
  · have hm0 : mkE l = 0 := by rw [e0, hok]
    rw [res_ok hok, hok, ← p_add hm0] at hA
    rw [hm0, q_ok hm0]
    have hfit := fit_is l hok
    obtain ⟨P, hP⟩ : ∃ P, P = pS l := ⟨_, rfl⟩
    obtain ⟨n, hn⟩ : ∃ n, n = (l.getD 0 noS).size := ⟨_, rfl⟩
    rw [← hn] at hfit ⊢
    rw [← hP] at hA ⊢
    clear hP
    cases h with
    | empty a cap h => exact absurd hf (by simp)
    | some b off cap l h0 h1 h2 hc =>
      have hn6 : n ≤ 65536 := by have := hfit.1 0 h0; omega
      have hW := fun (w' : World) (k : Kp w w') => weighted_any b off cap n l h0 (by omega) h1 h2 hn6 hfit.2 w' (fun i hi => k.held (hc i hi))
      obtain ⟨Q, hQ⟩ : ∃ Q, Q = wgtS n l := ⟨_, rfl⟩
      rw [← hQ] at hW ⊢
      obtain ⟨len, hl⟩ : ∃ len, len = l.length := ⟨_, rfl⟩
      rw [← hl] at hA hW hf hm h1 ⊢
      clear hs hfit hc hn hQ h0 e0 hok hm0 hl
      have hf2 : 2 ≤ len := by omega
      have hm2 : len ≤ 30 := by omega
      clear hf hm
      go_enter Tryz.func127, Tryz.ntmps127
      go_wp2_with fail
      refine hA.mono ?_; rintro e w2 ⟨rfl, k2⟩
      go_wp2_with fail
      refine (hW w2 k2).mono ?_; rintro e w3 ⟨rfl, k3⟩
      go_wp2
      go_ret3
      exact ⟨rfl, k2.trans k3⟩
  · have hm0 : mkE l ≠ 0 := by rw [e0]; exact hok
    rw [← ret3 l hm0, e0]
    have hrr : resOf l (addS l) = noS := by unfold resOf; rw [if_neg hok]
    rw [hrr] at hA
    obtain ⟨E, hE⟩ : ∃ E, E = fitE l := ⟨_, rfl⟩
    rw [← hE] at hA hok ⊢
    have hr := fit_range l
    rw [← hE] at hr
    cases h with
    | empty a cap h => exact absurd hf (by simp)
    | some b off cap l h0 h1 h2 hc =>
      obtain ⟨len, hl⟩ : ∃ len, len = l.length := ⟨_, rfl⟩
      rw [← hl] at hA hf hm h1 ⊢
      clear hs hc hE h0 e0 hm0 hl hrr
      have hf2 : 2 ≤ len := by omega
      have hm2 : len ≤ 30 := by omega
      clear hf hm
      have hEn : (E == 0) = false := by rw [beq_eq_false_iff_ne]; exact hok
      go_enter Tryz.func127, Tryz.ntmps127
      go_wp2_with fail
      refine hA.mono ?_; rintro e w2 ⟨rfl, k2⟩
      go_wp2
      go_ret3
      exact ⟨rfl, k2⟩

def fitsB (l : List ByteArray) (p q : ByteArray) : Bool := (mkE l == 0) && ((p.toList == (pS l).toList) && (q.toList == (qS l).toList))
set_option maxRecDepth 100000 in
set_option maxHeartbeats 2000000 in
theorem fits_any (v : Value) (l : List ByteArray) (hs : ∀ i, i < l.length → (l.getD i noS).size ≤ maxLen) (p q : ByteArray) (w : World) (h : StrsIn w v l) :
    Calls Tryz.prog 72 #[v, .string p, .string q] w fun e w' => e = .returned (.bool (fitsB l p q)) ∧ Kp w w' := by
  have hM := make_any v l hs w h
  unfold fitsB
  obtain ⟨E, hE⟩ : ∃ E, E = mkE l := ⟨_, rfl⟩
  obtain ⟨P, hP⟩ : ∃ P, P = pS l := ⟨_, rfl⟩
  obtain ⟨Q, hQ⟩ : ∃ Q, Q = qS l := ⟨_, rfl⟩
  rw [← hE, ← hP, ← hQ] at hM ⊢
  clear hE hP hQ hs
  have key : ∀ v, (∃ a n c, v = .slice a n c) → Calls Tryz.prog 127 #[v] w (fun e w' => e = .returned (.tuple #[.string P, .string Q, .int .i64 E]) ∧ Kp w w') → Calls Tryz.prog 72 #[v, .string p, .string q] w fun e w' => e = .returned (.bool ((E == 0) && ((p.toList == P.toList) && (q.toList == Q.toList)))) ∧ Kp w w' := by
    rintro v ⟨a, n, c, rfl⟩ hM
    go_enter Tryz.func72, Tryz.ntmps72
    go_wp2_with fail
    refine hM.mono ?_; rintro e w2 ⟨rfl, k2⟩
    go_wp2
    all_goals (go_ret; refine ⟨?_, k2⟩)
    all_goals simp_all
  cases h with
  | empty a cap h => exact key _ ⟨_, _, _, rfl⟩ hM
  | some b off cap l h0 h1 h2 hc => exact key _ ⟨_, _, _, rfl⟩ hM


end Go.Proofs.YtonooelffokfkaaGreatDoor

namespace Go.Proofs.YtonooelffokfkaaGreatDoor
open Go.RowKit Plain Go.BigFrame

theorem rfold2 (x : ByteArray) (c : Nat) (hc : c < 256) (y : ByteArray) (hx : x.size ≤ 65536) (hy : y.size = x.size) (w : World) :
    Calls Tryz.prog 93 #[.string x, .int .u8 c, .string y] w fun e w' => e = .returned (.tuple #[.string (foldS x c y), .int .i64 0]) ∧ Kp w w' := by
  have H := rfold_any x (ml65 hx) c hc y (ml65 (by omega)) w
  rw [res_ok (fit_pair hx hy), fit_pair hx hy] at H
  exact H

set_option maxRecDepth 100000 in
set_option maxHeartbeats 2000000 in
theorem rpower_in (n : Nat) (hn : n < 30) (w : World) : Calls Tryz.prog 92 #[.int .i64 (n : Int)] w fun e w' => e = .returned (.int .u8 (pw n : Nat)) ∧ Kp w w' := by
  go_enter Tryz.func92, Tryz.ntmps92
  go_wp2
  go_loopw [3, 4] (fun x i wr => ∃ k : Nat, k ≤ n ∧ i = .int .i64 k ∧ x = .int .u8 (pw k : Nat) ∧ Kp w wr) (fun _ i _ => n - (intOf i).toNat)
  case atStart => exact ⟨0, by omega, rfl, rfl, Kp.refl w⟩
  case round =>
    obtain ⟨k, hk, rfl, rfl, hK⟩ := hrel
    by_cases hlt : k < n
    · have hS := rmul_any (pw k) 2 (pw_lt k) (by omega) wr
      rw [← pw_succ] at hS
      obtain ⟨x, hx⟩ : ∃ x, x = pw k := ⟨_, rfl⟩
      rw [← hx] at hS ⊢
      clear hx
      obtain ⟨y, hy⟩ : ∃ y, y = pw (k + 1) := ⟨_, rfl⟩
      rw [← hy] at hS
      have HY : Hid (y = pw (k + 1)) := hy
      clear hy
      go_wp2_with (go_at_call 138; refine hS.mono ?_; rintro e w2 ⟨rfl, k2⟩)
      go_roundw
      case rel => exact ⟨k + 1, by omega, by go_num, by rw [HY.out], hK.trans k2⟩
      case measure => simp [intOf] <;> omega
    · obtain rfl : k = n := by omega
      go_wp2
      go_ret
      exact ⟨rfl, hK⟩
set_option maxHeartbeats 2000000 in
theorem rpower_any (i : Int) (h1 : -9223372036854775808 ≤ i) (h2 : i ≤ 9223372036854775807) (w : World) : Calls Tryz.prog 92 #[.int .i64 i] w fun e w' => e = .returned (.int .u8 (pwI i : Nat)) ∧ Kp w w' := by
  by_cases h : 0 ≤ i ∧ i < 30
  · obtain ⟨k, rfl⟩ : ∃ k : Nat, (k : Int) = i := ⟨i.toNat, by omega⟩
    rw [pwI_in k (by omega)]
    exact rpower_in k (by omega) w
  · rw [pwI_out h]
    by_cases hn : i < 0
    · go_enter Tryz.func92, Tryz.ntmps92
      go_wp2
      go_ret
      exact ⟨rfl, Kp.refl _⟩
    · have hn2 : 30 ≤ i := by omega
      have hn3 : 0 ≤ i := by omega
      clear h hn
      go_enter Tryz.func92, Tryz.ntmps92
      go_wp2
      go_ret
      exact ⟨rfl, Kp.refl _⟩

set_option maxHeartbeats 2000000 in
theorem rmake_few (a : Option Addr) (len cap : Nat) (h : len < 2) (w : World) : Calls Tryz.prog 51 #[.slice a len cap] w fun e w' => e = .returned (.tuple #[.string noS, .string noS, .int .i64 3]) ∧ Kp w w' := by
  go_enter Tryz.func51, Tryz.ntmps51
  go_wp2
  go_ret3
  exact ⟨rfl, Kp.refl _⟩
set_option maxHeartbeats 2000000 in
theorem rmake_many (a : Option Addr) (len cap : Nat) (h : 30 < len) (w : World) : Calls Tryz.prog 51 #[.slice a len cap] w fun e w' => e = .returned (.tuple #[.string noS, .string noS, .int .i64 3]) ∧ Kp w w' := by
  go_enter Tryz.func51, Tryz.ntmps51
  go_wp2
  go_ret3
  exact ⟨rfl, Kp.refl _⟩

set_option maxRecDepth 100000 in
set_option maxHeartbeats 8000000 in
theorem rmake_ok (b off cap n : Nat) (l : List ByteArray) (h2 : 2 ≤ l.length) (h30 : l.length ≤ 30) (_h1 : l.length ≤ cap) (hn : n ≤ 65536) (hall : ∀ s ∈ l, s.size = n) (w : World) (hc : ∀ i, i < l.length → w.cell? ⟨b, off + i, none⟩ = some (.string (l.getD i noS)))
    (hF : Calls Tryz.prog 91 #[.slice (some ⟨b, off, none⟩) l.length cap] w fun e w' => e = .returned (.int .i64 0) ∧ Kp w w') :
    Calls Tryz.prog 51 #[.slice (some ⟨b, off, none⟩) l.length cap] w fun e w' => e = .returned (.tuple #[.string (parS n l), .string (refQ 0 (zs n) l), .int .i64 0]) ∧ Kp w w' := by
  obtain ⟨i0, hi, hz0, hz1, hz2⟩ := info_parts info_u8
  obtain ⟨s0, hs0⟩ : ∃ s, s = l.getD 0 noS := ⟨_, rfl⟩
  have hc0 : w.cell? ⟨b, off, none⟩ = some (.string s0) := by rw [hs0]; exact hc 0 (by omega)
  have hs : s0.size = n := by rw [hs0]; exact hall _ (getD_mem (by omega))
  clear hs0
  go_enter Tryz.func51, Tryz.ntmps51
  go_wp2_with fail
  refine hF.mono ?_; rintro e w2 ⟨rfl, k2⟩
  have hc2 := k2.held hc0
  go_wp2_with (at_make; refine wpList_make_full _ rfl _ _ 23 rfl w2.heap.size 5 i0 (.int .u8 0) 1 Tryz.underlying23 hi hz0 hz1 .i64 .i64 _ _ n rfl rfl (by omega) (by omega) (by rw [hz2]; omega) (by unfold maxLen; omega) (Nat.le_refl _) ?_; intro w0 hown0 hgrow0; have hcv := made_text (P := Tryz.prog) 23 9 Tryz.underlying23 Tryz.underlying5 Tryz.underlying9 hown0)
  have K0 : Kp w w0 := k2.trans ((Kp.refl w2).grown (by assumption) (fun k hk => by cases hk))
  clear hown0 hgrow0 hcv hc2 hF k2
  go_loopw [6, 7, 8] (fun p q i wr => ∃ k : Nat, k ≤ l.length ∧ i = .int .i64 k ∧ p = .string (parS n (l.take k)) ∧ q = .string (refQ 0 (zs n) (l.take k)) ∧ Kp w wr) (fun _ _ i _ => l.length - (intOf i).toNat)
  case atStart => exact ⟨0, by omega, rfl, rfl, rfl, K0⟩
  case round =>
    obtain ⟨k, hk, rfl, rfl, rfl, hK⟩ := hrel
    by_cases hlt : k < l.length
    · have htake : ∀ s ∈ l.take k, s.size = n := fun s hs => hall s (List.mem_of_mem_take hs)
      have hck := hK.held (hc k hlt)
      have hsz := hall _ (getD_mem hlt)
      have hP := fun w' => rpower_in k (by omega) w'
      have hA := fun w' => rfold2 (parS n (l.take k)) 1 (by omega) (l.getD k noS) (by rw [parS_size n _ htake]; exact hn) (by rw [parS_size n _ htake]; exact hsz) w'
      have hB := fun w' => rfold2 (refQ 0 (zs n) (l.take k)) (pw k) (pw_lt k) (l.getD k noS) (by rw [refQ_size n _ _ _ (zs_size n) htake]; exact hn) (by rw [refQ_size n _ _ _ (zs_size n) htake]; exact hsz) w'
      rw [← parS_take n l k hlt] at hA
      rw [← refQ_take l (zs n) k hlt] at hB
      obtain ⟨s, hse⟩ : ∃ s, s = l.getD k noS := ⟨_, rfl⟩
      obtain ⟨p, hpe⟩ : ∃ p, p = parS n (l.take k) := ⟨_, rfl⟩
      obtain ⟨q, hqe⟩ : ∃ q, q = refQ 0 (zs n) (l.take k) := ⟨_, rfl⟩
      obtain ⟨p', hpe'⟩ : ∃ p, p = parS n (l.take (k + 1)) := ⟨_, rfl⟩
      obtain ⟨q', hqe'⟩ : ∃ q, q = refQ 0 (zs n) (l.take (k + 1)) := ⟨_, rfl⟩
      rw [← hse] at hck hA hB
      rw [← hpe, ← hpe'] at hA
      rw [← hqe, ← hqe'] at hB
      rw [← hpe, ← hqe]
      have H1 : Hid (p' = parS n (l.take (k + 1))) := hpe'
      have H2 : Hid (q' = refQ 0 (zs n) (l.take (k + 1))) := hqe'
      clear hse hpe hqe hpe' hqe' htake hsz hc0 hs
      go_wp2_with fail
      refine (hP wr).mono ?_; rintro e w4 ⟨rfl, k4⟩
      have hck4 := k4.held hck
      have K4 := hK.trans k4
      clear hP hck k4
      go_wp2_with fail
      refine (hA w4).mono ?_; rintro e w5 ⟨rfl, k5⟩
      have hck5 := k5.held hck4
      have K5 := K4.trans k5
      clear hA hck4 k5 K4
      go_wp2_with fail
      refine (hB w5).mono ?_; rintro e w6 ⟨rfl, k6⟩
      have K6 := K5.trans k6
      clear hB hck5 k6 K5
      go_wp2
      go_roundw
      case rel => exact ⟨k + 1, by omega, by go_num, by rw [H1.out], by rw [H2.out], K6⟩
      case measure => simp [intOf] <;> omega
    · obtain rfl : k = l.length := by omega
      rw [List.take_length]
      clear hc hall
      go_wp2
      go_ret3
      exact ⟨rfl, hK⟩

set_option maxRecDepth 100000 in
set_option maxHeartbeats 4000000 in
theorem rmake_any (v : Value) (l : List ByteArray) (hs : ∀ i, i < l.length → (l.getD i noS).size ≤ maxLen) (w : World) (h : StrsIn w v l) :
    Calls Tryz.prog 51 #[v] w fun e w' => e = .returned (.tuple #[.string (pS l), .string (qS l), .int .i64 (mkE l)]) ∧ Kp w w' := by
  by_cases hf : l.length < 2
  · have e3 := mk_out (l := l) (.inl hf)
    rw [p_not (by rw [e3]; decide), q_not (by rw [e3]; decide), e3]
    cases h with
    | empty a cap h => exact rmake_few a 0 cap hf w
    | some b off cap l h0 h1 h2 hc => exact rmake_few _ _ cap hf w
  by_cases hm : 30 < l.length
  · have e3 := mk_out (l := l) (.inr hm)
    rw [p_not (by rw [e3]; decide), q_not (by rw [e3]; decide), e3]
    cases h with
    | empty a cap h => exact rmake_many a 0 cap hm w
    | some b off cap l h0 h1 h2 hc => exact rmake_many _ _ cap hm w
  have hA := fit_any v l hs w h
  have e0 := mk_in (l := l) (by omega) (by omega)
  by_cases hok : fitE l = 0
  · have hm0 : mkE l = 0 := by rw [e0, hok]
    rw [hm0, q_ok hm0, p_ok hm0, ← wgt_ref _ l (fit_all hok)]
    rw [hok] at hA
    cases h with
    | empty a cap h => exact absurd hf (by simp)
    | some b off cap l h0 h1 h2 hc => exact rmake_ok b off cap _ l (by omega) (by omega) h1 ((fit_is l hok).1 0 h0) (fit_all hok) w hc hA
  · have hm0 : mkE l ≠ 0 := by rw [e0]; exact hok
    rw [← ret3 l hm0, e0]
    obtain ⟨E, hE⟩ : ∃ E, E = fitE l := ⟨_, rfl⟩
    rw [← hE] at hA hok ⊢
    cases h with
    | empty a cap h => exact absurd hf (by simp)
    | some b off cap l h0 h1 h2 hc =>
      obtain ⟨len, hl⟩ : ∃ len, len = l.length := ⟨_, rfl⟩
      rw [← hl] at hA hf hm h1 ⊢
      clear hs hc hE h0 e0 hm0 hl
      have hf2 : 2 ≤ len := by omega
      have hm2 : len ≤ 30 := by omega
      clear hf hm
      have hEn : (E == 0) = false := by rw [beq_eq_false_iff_ne]; exact hok
      go_enter Tryz.func51, Tryz.ntmps51
      go_wp2_with fail
      refine hA.mono ?_; rintro e w2 ⟨rfl, k2⟩
      go_wp2
      go_ret3
      exact ⟨rfl, k2⟩

set_option maxRecDepth 100000 in
set_option maxHeartbeats 2000000 in
theorem rfits_any (v : Value) (l : List ByteArray) (hs : ∀ i, i < l.length → (l.getD i noS).size ≤ maxLen) (p q : ByteArray) (w : World) (h : StrsIn w v l) :
    Calls Tryz.prog 73 #[v, .string p, .string q] w fun e w' => e = .returned (.bool (fitsB l p q)) ∧ Kp w w' := by
  have hM := rmake_any v l hs w h
  unfold fitsB
  obtain ⟨E, hE⟩ : ∃ E, E = mkE l := ⟨_, rfl⟩
  obtain ⟨P, hP⟩ : ∃ P, P = pS l := ⟨_, rfl⟩
  obtain ⟨Q, hQ⟩ : ∃ Q, Q = qS l := ⟨_, rfl⟩
  rw [← hE, ← hP, ← hQ] at hM ⊢
  clear hE hP hQ hs
  rw [show (p.toList == P.toList) = (P.toList == p.toList) from BEq.comm, show (q.toList == Q.toList) = (Q.toList == q.toList) from BEq.comm]
  have key : ∀ v, (∃ a n c, v = .slice a n c) → Calls Tryz.prog 51 #[v] w (fun e w' => e = .returned (.tuple #[.string P, .string Q, .int .i64 E]) ∧ Kp w w') → Calls Tryz.prog 73 #[v, .string p, .string q] w fun e w' => e = .returned (.bool ((E == 0) && ((P.toList == p.toList) && (Q.toList == q.toList)))) ∧ Kp w w' := by
    rintro v ⟨a, n, c, rfl⟩ hM
    go_enter Tryz.func73, Tryz.ntmps73
    go_wp2_with fail
    refine hM.mono ?_; rintro e w2 ⟨rfl, k2⟩
    go_wp2
    all_goals (go_ret; refine ⟨?_, k2⟩)
    all_goals simp_all
  cases h with
  | empty a cap h => exact key _ ⟨_, _, _, rfl⟩ hM
  | some b off cap l h0 h1 h2 hc => exact key _ ⟨_, _, _, rfl⟩ hM


end Go.Proofs.YtonooelffokfkaaGreatDoor

namespace Go.Proofs.YtonooelffokfkaaGreatDoor
open Go.RowKit Plain


theorem StrsIn.four {w : World} {v : Value} {A B C D : ByteArray} (h : StrsIn w v [A, B, C, D]) : ∃ b off cap, v = .slice (Option.some ⟨b, off, none⟩) 4 cap ∧ 4 ≤ cap ∧ cap ≤ 9223372036854775807 ∧ w.cell? ⟨b, off, none⟩ = Option.some (.string A) ∧ w.cell? ⟨b, off + 1, none⟩ = Option.some (.string B) ∧ w.cell? ⟨b, off + 2, none⟩ = Option.some (.string C) ∧ w.cell? ⟨b, off + 3, none⟩ = Option.some (.string D) := by
  obtain ⟨l, hl⟩ : ∃ l, l = [A, B, C, D] := ⟨_, rfl⟩
  rw [← hl] at h
  cases h with
  | empty a cap h => cases hl
  | some b off cap l h0 h1 h2 hc =>
    subst hl
    exact ⟨b, off, cap, rfl, h1, by unfold maxLen at h2; omega, hc 0 (by simp), hc 1 (by simp), hc 2 (by simp), hc 3 (by simp)⟩

/-- block B holds the cells cs, none of them frozen. -/
def Laid (W : World) (B : Nat) (t : TypeId) (cs : Array Value) : Prop := W.heap[B]? = some (.cells cs t (0, 0))
theorem Laid.new (W : World) (t : TypeId) (cs : Array Value) : Laid (W.alloc (.cells cs t)) W.heap.size t cs := World.alloc_heap_new W _
theorem Laid.lt {W : World} {B : Nat} {t : TypeId} {cs : Array Value} (h : Laid W B t cs) : B < W.heap.size := (Array.getElem?_eq_some_iff.1 h).1
theorem Laid.cell {W : World} {B : Nat} {t : TypeId} {cs : Array Value} (h : Laid W B t cs) (i : Nat) : W.cell? ⟨B, i, none⟩ = cs[i]? := by simp [World.cell?, show W.heap[B]? = _ from h]
theorem Laid.frozen {W : World} {B : Nat} {t : TypeId} {cs : Array Value} (h : Laid W B t cs) (i : Nat) : W.frozen? ⟨B, i, none⟩ = false := by simp [World.frozen?, show W.heap[B]? = _ from h]
theorem Laid.kept {W W' : World} {B : Nat} {t : TypeId} {cs : Array Value} (h : Laid W B t cs) (k : Kp W W') : Laid W' B t cs := (k.block B h.lt).trans h
theorem Laid.set {W : World} {B : Nat} {t : TypeId} {cs : Array Value} (h : Laid W B t cs) (i : Nat) (v : Value) : Laid (W.setCell ⟨B, i, none⟩ v) B t (cs.setIfInBounds i v) := by
  obtain ⟨hlt, hk⟩ := Array.getElem?_eq_some_iff.1 h
  show (W.heap.modify B _)[B]? = _
  rw [Array.getElem?_eq_getElem (by rw [Array.size_modify]; exact hlt), Array.getElem_modify_self, hk]
  rfl

theorem own_at {w : World} {base g cp n : Nat} {e : TypeId} {M : List ByteArray} (h : w.ownsRow base e 1 (.slice (some ⟨g, 0, none⟩) n cp) n (M.map Value.string)) (hM : M.length = n) (j : Nat) (hj : j < n) : w.cell? ⟨g, j, none⟩ = some (.string (M.getD j noS)) := by
  rw [h.cellAt j (by omega), List.getElem?_map, List.getElem?_eq_getElem (by omega), List.getD_eq_getElem?_getD, List.getElem?_eq_getElem (by omega)]; rfl

end Go.Proofs.YtonooelffokfkaaGreatDoor

namespace Go.Proofs.YtonooelffokfkaaGreatDoor
open Go.RowKit Plain

theorem Byt.text {W : World} {B n : Nat} {f : Nat → Nat} (h : Byt W B n f) (c : Nat) : (convert 23 9 (.slice (some ⟨B, 0, none⟩) n c)).run Tryz.prog W = .ok (.string (bs n f)) W := by
  refine run_convert_bytes_arg (P := Tryz.prog) W 23 5 Tryz.underlying23 Tryz.underlying5 B 0 n c ((List.range n).map fun i => ((f i : Nat) : Int)) (by simp) (fun i hi => ?_) 9 Tryz.underlying9
  rw [Nat.zero_add, h.cell i (by simpa using hi)]
  simp only [List.getD_eq_getElem?_getD, List.getElem?_map]
  rw [List.getElem?_range (by simpa using hi)]
  rfl

/-! ### texts that differ -/
theorem text_ne {s t : ByteArray} (h : s ≠ t) : (s.toList == t.toList) = false := by
  rw [beq_eq_false_iff_ne]
  intro e
  rw [ByteArray.toList_eq, ByteArray.toList_eq] at e
  exact h (Go.WideShapes.bytes_inj e)
theorem xor_zero {a b : Nat} (h : a ^^^ b = 0) : a = b := by
  have : a ^^^ (a ^^^ b) = a ^^^ 0 := by rw [h]
  rw [← Nat.xor_assoc, Nat.xor_self, Nat.zero_xor, Nat.xor_zero] at this
  exact this.symm
theorem set_self {l : List ByteArray} {j : Nat} : l.set j (l.getD j noS) = l := by
  apply List.ext_getElem?
  intro i
  rw [List.getElem?_set]
  split
  · rename_i h
    subst h
    split
    · rename_i h2
      rw [List.getD_eq_getElem?_getD, List.getElem?_eq_getElem h2]; rfl
    · rename_i h2
      rw [List.getElem?_eq_none (by omega)]
  · rfl

end Go.Proofs.YtonooelffokfkaaGreatDoor

namespace Go.Proofs.YtonooelffokfkaaGreatDoor
open Go.RowKit

theorem disable (w : World) : (callFunc 97 #[]).run Tryz.prog w = .ok (.value (.tuple #[])) w := run_call_mark0 Tryz.func97 (by kernel_rfl) (by kernel_rfl) (by kernel_rfl) .disable (by kernel_rfl) w
theorem enable (w : World) : (callFunc 101 #[]).run Tryz.prog w = .ok (.value (.tuple #[])) w := run_call_mark0 Tryz.func101 (by kernel_rfl) (by kernel_rfl) (by kernel_rfl) .enable (by kernel_rfl) w
theorem acquire (a : Addr) (w : World) : (callFunc 102 #[.pointer (some a)]).run Tryz.prog w = .ok (.value (.tuple #[])) w := run_call_marked Tryz.func102 (by kernel_rfl) (by kernel_rfl) (by kernel_rfl) .acquire (by kernel_rfl) a w
theorem releaseMerge (a : Addr) (w : World) : (callFunc 104 #[.pointer (some a)]).run Tryz.prog w = .ok (.value (.tuple #[])) w := run_call_marked Tryz.func104 (by kernel_rfl) (by kernel_rfl) (by kernel_rfl) .releaseMerge (by kernel_rfl) a w

/-- '(*sync/atomic.Bool).Store(true)', entered as a deferred call: the cell holds 1. -/
theorem store_deferred (a : Addr) (x : Value) (u : FrameMode) (w : World) (hc : w.cell? a = some x) (hz : w.frozen? a = false) :
    CallsD Tryz.prog 109 #[.pointer (some a), .bool true] u w fun e u' w' => u' = u ∧ (e = .returned (.tuple #[]) ∧ w' = w.drew.setCell a (.int .u32 1)) := by
  have hc' : w.drew.cell? a = some x := by go_simp
  have hz' : w.drew.frozen? a = false := by go_simp
  have hst := run_call_store (P := Tryz.prog) Tryz.func143 (by kernel_rfl) (by kernel_rfl) (by kernel_rfl) (by kernel_rfl) (k := .u32) (y := 1) hc' hz'
  go_enter_d Tryz.func109, Tryz.ntmps109
  go_wp2
  go_region_calls
  all_goals (go_end0; exact ⟨rfl, rfl⟩)

set_option maxRecDepth 100000 in
/-- '(*sync.Mutex).Unlock', entered as a deferred call, the lock held and nobody waiting (state 1): state 0. -/
theorem unlock_deferred (a : Addr) (u : FrameMode) (w : World) (hc : w.cell? a = some (.int .i32 1)) (hz : w.frozen? a = false) :
    CallsD Tryz.prog 107 #[.pointer (some a)] u w fun e u' w' => u' = u ∧ (e = .returned (.tuple #[]) ∧ w' = w.setCell a (.int .i32 0)) := by
  have hd := disable
  have he := enable
  have hr := releaseMerge
  have hadd := run_call_add (P := Tryz.prog) Tryz.func140 (by kernel_rfl) (by kernel_rfl) (by kernel_rfl) .i32 (by kernel_rfl) (y := -1) (s := 0) hc hz (by simp [go_sem]; rfl)
  have hcv := run_convert_to_unsafe (P := Tryz.prog) (src := 283) (dst := 207) Tryz.underlying283 Tryz.underlying207 (by kernel_rfl) hc
  go_enter_d Tryz.func107, Tryz.ntmps107
  go_wp2
  go_end0
  go_wp2
  go_end0
  exact ⟨rfl, rfl⟩

set_option maxRecDepth 100000 in
/-- '(*sync.Mutex).Lock', the lock free (state 0): state 1. -/
theorem lock_free (a : Addr) (w : World) (hc : w.cell? a = some (.int .i32 0)) (hz : w.frozen? a = false) :
    Calls Tryz.prog 98 #[.pointer (some a)] w fun e w' => e = .returned (.tuple #[]) ∧ w' = w.setCell a (.int .i32 1) := by
  have hd := disable
  have he := enable
  have ha := acquire
  have hcas := run_call_cas_hit (P := Tryz.prog) Tryz.func169 (by kernel_rfl) (by kernel_rfl) (by kernel_rfl) .i32 (by kernel_rfl) (y := 1) hc hz
  have hc' : (w.setCell a (.int .i32 1)).cell? a = some (.int .i32 1) := World.cell?_setCell_same w a _ hc
  have hcv := run_convert_to_unsafe (P := Tryz.prog) (src := 283) (dst := 207) Tryz.underlying283 Tryz.underlying207 (by kernel_rfl) hc'
  go_enter Tryz.func98, Tryz.ntmps98
  go_wp2
  first | go_end0 | (simp only [Exit.inBlock, Exit.then]; refine bodyPost_ret (results_none rfl _ _ _) rfl ?_) | refine bodyPost_ret (results_none rfl _ _ _) rfl ?_
  go_wp2
  go_end0
  exact ⟨rfl, rfl⟩

/-- '(*sync/atomic.Bool).Load'. -/
theorem bool_load (a : Addr) (d : Int) (w : World) (hc : w.cell? a = some (.int .u32 d)) :
    Calls Tryz.prog 182 #[.pointer (some a)] w fun e w' => e = .returned (.bool (d != 0)) ∧ w' = w := by
  have hl := run_call_load (P := Tryz.prog) Tryz.func213 (by kernel_rfl) (by kernel_rfl) (by kernel_rfl) .u32 (by kernel_rfl) hc
  go_enter Tryz.func182, Tryz.ntmps182
  go_wp2
  go_ret
  exact ⟨rfl, rfl⟩
/-- '(*sync/atomic.Int64).Load'. -/
theorem count_load (a : Addr) (d : Int) (w : World) (hc : w.cell? a = some (.int .i64 d)) :
    Calls Tryz.prog 132 #[.pointer (some a)] w fun e w' => e = .returned (.int .i64 d) ∧ w' = w := by
  have hl := run_call_load (P := Tryz.prog) Tryz.func167 (by kernel_rfl) (by kernel_rfl) (by kernel_rfl) .i64 (by kernel_rfl) hc
  go_enter Tryz.func132, Tryz.ntmps132
  go_wp2
  go_ret
  exact ⟨rfl, rfl⟩
/-- '(*sync/atomic.Int64).Add', small numbers. -/
theorem count_add (a : Addr) (d y : Int) (h1 : -4611686018427387904 ≤ d) (h2 : d < 4611686018427387904) (h3 : -4611686018427387904 ≤ y) (h4 : y < 4611686018427387904) (w : World) (hc : w.cell? a = some (.int .i64 d)) (hz : w.frozen? a = false) :
    Calls Tryz.prog 153 #[.pointer (some a), .int .i64 y] w fun e w' => e = .returned (.int .i64 (d + y)) ∧ w' = w.setCell a (.int .i64 (d + y)) := by
  have hadd := run_call_add (P := Tryz.prog) Tryz.func181 (by kernel_rfl) (by kernel_rfl) (by kernel_rfl) .i64 (by kernel_rfl) (y := y) (s := d + y) hc hz (by simp only [go_sem, IntKind.wrap_i64]; simp; omega)
  go_enter Tryz.func153, Tryz.ntmps153
  go_wp2
  go_ret
  exact ⟨rfl, rfl⟩

end Go.Proofs.YtonooelffokfkaaGreatDoor

namespace Go.Proofs.YtonooelffokfkaaGreatDoor
open Go.RowKit Plain

/-- w' is w with new blocks, draws, and stores into block b alone. -/
structure Turned (b : Nat) (w w' : World) : Prop where
  block : ∀ k, k < w.heap.size → k ≠ b → w'.heap[k]? = w.heap[k]?
  size : w.heap.size ≤ w'.heap.size
  frozen : ∀ a, w'.frozen? a = w.frozen? a
  grown : ∀ W, Grown W w → W.heap.size ≤ b → Grown W w'
  same : w'.os = w.os ∧ w'.tape = w.tape ∧ w'.output = w.output

theorem Turned.refl (b : Nat) (w : World) : Turned b w w := ⟨fun _ _ _ => rfl, Nat.le_refl _, fun _ => rfl, fun _ h _ => h, rfl, rfl, rfl⟩
theorem Turned.trans {b : Nat} {w1 w2 w3 : World} (h : Turned b w1 w2) (k : Turned b w2 w3) : Turned b w1 w3 :=
  ⟨fun i hi hb => (k.block i (Nat.lt_of_lt_of_le hi h.size) hb).trans (h.block i hi hb), Nat.le_trans h.size k.size, fun a => (k.frozen a).trans (h.frozen a), fun W hg hs => k.grown W (h.grown W hg hs) hs, k.same.1.trans h.same.1, k.same.2.1.trans h.same.2.1, k.same.2.2.trans h.same.2.2⟩
theorem Turned.setCell {b : Nat} {w1 w2 : World} (h : Turned b w1 w2) (o : Nat) (v : Value) : Turned b w1 (w2.setCell ⟨b, o, none⟩ v) :=
  h.trans ⟨fun k _ hb => Below.heap_setCell _ _ _ _ hb, by simp [World.setCell], fun _ => World.frozen?_setCell _ _ _ _, fun _ hg hs => hg.setCell hs v, rfl, rfl, rfl⟩
theorem Turned.drew {b : Nat} {w1 w2 : World} (h : Turned b w1 w2) : Turned b w1 w2.drew :=
  h.trans ⟨fun _ _ _ => rfl, Nat.le_refl _, fun _ => rfl, fun _ hg _ => hg.drew, rfl, rfl, rfl⟩
theorem Turned.alloc {b : Nat} {w1 w2 : World} (h : Turned b w1 w2) (c : Array Value) (t : TypeId) : Turned b w1 (w2.alloc (.cells c t)) :=
  h.trans ⟨fun _ hk _ => Below.heap_alloc _ _ _ hk, by simp, fun a => frozen?_alloc_cells _ _ _ a, fun _ hg _ => hg.alloc c t, rfl, rfl, rfl⟩
theorem Turned.ext {b : Nat} {w1 w2 w3 : World} (h : Turned b w1 w2) (k : Ext w2 w3) : Turned b w1 w3 :=
  k.ind (Turned b w1) h (fun _ c t g => g.alloc c t) (fun _ g => g.drew)

/-- the field at block b: done, the lock's state, the count, the tables behind n rounds. -/
structure FieldIn (w : World) (b : Nat) (d s m : Int) (n : Nat) : Prop where
  hb : b < w.heap.size
  c0 : w.cell? ⟨b, 0, none⟩ = some (.int .u32 d)
  c1 : w.cell? ⟨b, 1, none⟩ = some (.int .i32 s)
  c3 : w.cell? ⟨b, 3, none⟩ = some (.int .i64 m)
  cp : ∀ i, i < 255 → w.cell? ⟨b, 4 + i, none⟩ = some (.int .u8 (pwT n i : Nat))
  cl : ∀ i, i < 256 → w.cell? ⟨b, 259 + i, none⟩ = some (.int .u8 (lgT n i : Nat))
  fz : ∀ o, w.frozen? ⟨b, o, none⟩ = false

theorem FieldIn.of_block {w w' : World} {b : Nat} {d s m : Int} {n : Nat} (h : FieldIn w b d s m n) (hk : w'.heap[b]? = w.heap[b]?) (hs : w.heap.size ≤ w'.heap.size) : FieldIn w' b d s m n := by
  have hc : ∀ o, w'.cell? ⟨b, o, none⟩ = w.cell? ⟨b, o, none⟩ := fun o => World.cell?_of_block (w := w) (a := ⟨b, o, none⟩) hk
  have hf : ∀ o, w'.frozen? ⟨b, o, none⟩ = w.frozen? ⟨b, o, none⟩ := fun o => World.frozen?_of_block (w := w) (a := ⟨b, o, none⟩) hk
  exact ⟨Nat.lt_of_lt_of_le h.hb hs, (hc 0).trans h.c0, (hc 1).trans h.c1, (hc 3).trans h.c3, fun i hi => (hc _).trans (h.cp i hi), fun i hi => (hc _).trans (h.cl i hi), fun o => (hf o).trans (h.fz o)⟩
theorem FieldIn.other {w w' : World} {b c : Nat} {d s m : Int} {n : Nat} (h : FieldIn w b d s m n) (k : Turned c w w') (hbc : b ≠ c) : FieldIn w' b d s m n :=
  h.of_block (k.block b h.hb hbc) k.size
theorem FieldIn.ext {w w' : World} {b : Nat} {d s m : Int} {n : Nat} (h : FieldIn w b d s m n) (k : Ext w w') : FieldIn w' b d s m n :=
  h.of_block (k.below.block b h.hb) k.size
theorem FieldIn.extp {w : World} {b : Nat} {d s m : Int} {n : Nat} (h : FieldIn w b d s m n) (p : List (Option (Array Value × TypeId))) : FieldIn (extp w p) b d s m n := h.ext (extp_ext w p)
theorem FieldIn.drew {w : World} {b : Nat} {d s m : Int} {n : Nat} (h : FieldIn w b d s m n) : FieldIn w.drew b d s m n := h.ext ((Ext.refl w).drew)

theorem FieldIn.set0 {w : World} {b : Nat} {d s m : Int} {n : Nat} (h : FieldIn w b d s m n) (d' : Int) : FieldIn (w.setCell ⟨b, 0, none⟩ (.int .u32 d')) b d' s m n := by
  refine ⟨by simpa [World.setCell] using h.hb, World.cell?_setCell_same w _ _ h.c0, ?_, ?_, fun i hi => ?_, fun i hi => ?_, fun o => (World.frozen?_setCell _ _ _ _).trans (h.fz o)⟩
  · rw [cell_off _ _ _ _ _ (by omega)]; exact h.c1
  · rw [cell_off _ _ _ _ _ (by omega)]; exact h.c3
  · rw [cell_off _ _ _ _ _ (by omega)]; exact h.cp i hi
  · rw [cell_off _ _ _ _ _ (by omega)]; exact h.cl i hi
theorem FieldIn.set1 {w : World} {b : Nat} {d s m : Int} {n : Nat} (h : FieldIn w b d s m n) (s' : Int) : FieldIn (w.setCell ⟨b, 1, none⟩ (.int .i32 s')) b d s' m n := by
  refine ⟨by simpa [World.setCell] using h.hb, ?_, World.cell?_setCell_same w _ _ h.c1, ?_, fun i hi => ?_, fun i hi => ?_, fun o => (World.frozen?_setCell _ _ _ _).trans (h.fz o)⟩
  · rw [cell_off _ _ _ _ _ (by omega)]; exact h.c0
  · rw [cell_off _ _ _ _ _ (by omega)]; exact h.c3
  · rw [cell_off _ _ _ _ _ (by omega)]; exact h.cp i hi
  · rw [cell_off _ _ _ _ _ (by omega)]; exact h.cl i hi
theorem FieldIn.set3 {w : World} {b : Nat} {d s m : Int} {n : Nat} (h : FieldIn w b d s m n) (m' : Int) : FieldIn (w.setCell ⟨b, 3, none⟩ (.int .i64 m')) b d s m' n := by
  refine ⟨by simpa [World.setCell] using h.hb, ?_, ?_, World.cell?_setCell_same w _ _ h.c3, fun i hi => ?_, fun i hi => ?_, fun o => (World.frozen?_setCell _ _ _ _).trans (h.fz o)⟩
  · rw [cell_off _ _ _ _ _ (by omega)]; exact h.c0
  · rw [cell_off _ _ _ _ _ (by omega)]; exact h.c1
  · rw [cell_off _ _ _ _ _ (by omega)]; exact h.cp i hi
  · rw [cell_off _ _ _ _ _ (by omega)]; exact h.cl i hi
theorem pwT_step (n i : Nat) (h : i ≠ n) : pwT (n + 1) i = pwT n i := by
  unfold pwT
  by_cases h1 : i < n
  · rw [if_pos h1, if_pos (by omega)]
  · rw [if_neg h1, if_neg (by omega)]
theorem pwT_at (n : Nat) : pwT (n + 1) n = pw n := by unfold pwT; rw [if_pos (by omega)]
theorem FieldIn.step {w : World} {b : Nat} {d s m : Int} {n : Nat} (h : FieldIn w b d s m n) (hn : n < 255) (X : Nat) (hX : pw n = X) :
    FieldIn ((w.setCell ⟨b, 4 + n, none⟩ (.int .u8 (X : Nat))).setCell ⟨b, 259 + X, none⟩ (.int .u8 (n : Nat))) b d s m (n + 1) := by
  have hp := (pw_pos n).2
  subst hX
  have k1 : (w.setCell ⟨b, 4 + n, none⟩ (.int .u8 (pw n : Nat))).cell? ⟨b, 259 + pw n, none⟩ = some (.int .u8 (lgT n (pw n) : Nat)) := by
    rw [cell_off _ _ _ _ _ (by omega)]; exact h.cl _ hp
  refine ⟨by simpa [World.setCell] using h.hb, ?_, ?_, ?_, fun i hi => ?_, fun i hi => ?_, fun o => (World.frozen?_setCell _ _ _ _).trans ((World.frozen?_setCell _ _ _ _).trans (h.fz o))⟩
  · rw [cell_off _ _ _ _ _ (by omega), cell_off _ _ _ _ _ (by omega)]; exact h.c0
  · rw [cell_off _ _ _ _ _ (by omega), cell_off _ _ _ _ _ (by omega)]; exact h.c1
  · rw [cell_off _ _ _ _ _ (by omega), cell_off _ _ _ _ _ (by omega)]; exact h.c3
  · rw [cell_off _ _ _ _ _ (by omega)]
    by_cases he : i = n
    · subst he; rw [World.cell?_setCell_same _ _ _ (h.cp i hi), pwT_at]
    · rw [cell_off _ _ _ _ _ (by omega), h.cp i hi, pwT_step _ _ he]
  · by_cases he : i = pw n
    · subst he; rw [World.cell?_setCell_same _ _ _ k1]; simp [lgT]
    · rw [cell_off _ _ _ _ _ (by omega), cell_off _ _ _ _ _ (by omega), h.cl i hi]
      simp only [lgT]; rw [if_neg he]

/-! ### New -/
def zFL : List Value := .int .u32 0 :: .int .i32 0 :: .int .u32 0 :: .int .i64 0 :: List.replicate 511 (.int .u8 0)
def zF : Array Value := zFL.toArray
theorem zero_field (w : World) : (zeroValue 262).run Tryz.prog w = .ok (.agg zF) w := by kernel_rfl
theorem zF_at (i : Nat) (h : i < 511) : zF[4 + i]? = some (.int .u8 0) := by
  unfold zF zFL
  rw [List.getElem?_toArray, show 4 + i = i + 1 + 1 + 1 + 1 by omega]
  simp only [List.getElem?_cons_succ]
  rw [List.getElem?_replicate, if_pos h]
set_option maxRecDepth 100000 in
theorem new_anyL5 (w : World) : Calls Tryz.prog 110 #[] w fun e w' => e = .returned (.pointer (some ⟨w.heap.size, 0, none⟩)) ∧ w' = w.alloc (.cells zF 262) := by
  have hz := zero_field
  go_enter Tryz.func110, Tryz.ntmps110
  go_wp2
  go_ret
  exact ⟨rfl, rfl⟩
theorem zF_0 : zF[0]? = some (.int .u32 0) := by kernel_rfl
theorem zF_1 : zF[1]? = some (.int .i32 0) := by kernel_rfl
theorem zF_3 : zF[3]? = some (.int .i64 0) := by kernel_rfl
theorem new_field (w : World) (t : TypeId) : FieldIn (w.alloc (.cells zF t)) w.heap.size 0 0 0 0 := by
  have hc : ∀ o, (w.alloc (.cells zF t)).cell? ⟨w.heap.size, o, none⟩ = zF[o]? := fun o => World.cell?_alloc_at _ _ _ _ rfl
  refine ⟨by simp, (hc 0).trans zF_0, (hc 1).trans zF_1, (hc 3).trans zF_3, fun i hi => ?_, fun i hi => ?_, fun o => ?_⟩
  · rw [hc, zF_at i (by omega)]; rfl
  · rw [hc, show 259 + i = 4 + (255 + i) by omega, zF_at _ (by omega)]; rfl
  · rw [frozen?_alloc_cells]; simp [World.frozen?]

/-! ### Made, power -/

end Go.Proofs.YtonooelffokfkaaGreatDoor

namespace Go.Proofs.YtonooelffokfkaaGreatDoor
open Go.RowKit Plain

set_option maxHeartbeats 1000000 in
theorem product_any (a c : Nat) (ha : a < 256) (hc : c < 256) (w : World) :
    Calls Tryz.prog 232 #[.int .u8 a, .int .u8 c] w fun e w' => e = .returned (.int .u8 (ml a c : Nat)) ∧ w' = w := by
  go_enter Tryz.func232, Tryz.ntmps232
  go_wp2_with fail
  refine (times_any a c (by omega) hc w).mono ?_; rintro e w' ⟨rfl, rfl⟩
  go_wp2
  go_ret
  refine ⟨ret_int ?_, rfl⟩
  rw [tm_ml a c ha]
  have := ml_lt a c ha
  omega

theorem ix_tmod (n : Int) : (ix n : Int) = if n.tmod 255 < 0 then n.tmod 255 + 255 else n.tmod 255 := by
  have h := Int.tmod_eq_emod (a := n) (b := 255)
  unfold ix
  split at h <;> split <;> omega
set_option maxHeartbeats 1000000 in
theorem fpow_any (b : Nat) (d s m : Int) (n : Int) (w : World) (hF : FieldIn w b d s m 255) :
    Calls Tryz.prog 227 #[.pointer (some ⟨b, 0, none⟩), .int .i64 n] w fun e w' => e = .returned (.int .u8 (exN n : Nat)) ∧ w' = w := by
  have hx := ix_tmod n
  have hl := ix_lt n
  have hc := hF.cp (ix n) hl
  have hp : pwT 255 (ix n) = exN n := by unfold pwT exN; rw [if_pos hl]
  rw [hp] at hc
  clear hp hF
  generalize ix n = k at *
  obtain ⟨t, ht⟩ : ∃ t, n.tmod 255 = t := ⟨_, rfl⟩
  rw [ht] at hx
  by_cases h0 : t < 0
  · rw [if_pos h0] at hx
    have e : t = (k : Int) - 255 := by omega
    subst e
    clear hx
    go_enter Tryz.func227, Tryz.ntmps227
    go_wp2
    go_ret
    exact ⟨rfl, rfl⟩
  · rw [if_neg h0] at hx
    subst hx
    go_enter Tryz.func227, Tryz.ntmps227
    go_wp2
    go_ret
    exact ⟨rfl, rfl⟩

set_option maxRecDepth 100000 in
set_option maxHeartbeats 2000000 in
theorem fill_any (b : Nat) (d s m : Int) (hm : 0 ≤ m ∧ m < 1000) (w : World) (hF : FieldIn w b d s m 0) :
    Calls Tryz.prog 226 #[.pointer (some ⟨b, 0, none⟩)] w fun e w' => e = .returned (.tuple #[]) ∧ FieldIn w' b d s (m + 1) 255 ∧ Turned b w w' := by
  go_enter Tryz.func226, Tryz.ntmps226
  go_wp2
  go_loopw [2, 4] (fun X i wr => ∃ k : Nat, k ≤ 255 ∧ i = .int .i64 k ∧ X = .int .u8 (pw k : Nat) ∧ FieldIn wr b d s m k ∧ Turned b w wr) (fun _ i _ => 255 - (intOf i).toNat)
  case atStart => exact ⟨0, by omega, rfl, rfl, hF, Turned.refl b w⟩
  case round =>
    obtain ⟨k, hk, rfl, rfl, hK, hT⟩ := hrel
    by_cases hlt : k < 255
    · have hst := fun X hX => hK.step hlt X hX
      have hz := hK.fz
      have hpl := (pw_pos k).2
      have hcp := hK.cp k hlt
      have hcl := hK.cl (pw k) hpl
      have HN : Hid (ml (pw k) 2 = pw (k + 1)) := by show ml (pw k) 2 = _; rw [ml_two _ hpl]; rfl
      obtain ⟨X, hX⟩ : ∃ X, pw k = X := ⟨_, rfl⟩
      have hs := hst X hX
      have HS : Hid (FieldIn ((wr.setCell ⟨b, 4 + k, none⟩ (.int .u8 (X : Nat))).setCell ⟨b, 259 + X, none⟩ (.int .u8 (k : Nat))) b d s m (k + 1)) := hs
      have HX : Hid (pw k = X) := hX
      have HT : Hid (Turned b w wr) := hT
      rw [hX] at hpl hcl
      have hcl2 := cell_off wr b (4 + k) (259 + X) (.int .u8 (X : Nat)) (by omega)
      rw [hcl] at hcl2
      rw [hX]
      clear hst hs hX hK hT
      go_wp2_with fail
      refine (product_any X 2 hpl (by omega) _).mono ?_; rintro e w' ⟨rfl, rfl⟩
      go_wp2
      go_roundw
      case rel =>
        refine ⟨k + 1, by omega, by go_num, ?_, HS.out, (HT.out.setCell _ _).setCell _ _⟩
        rw [← HX.out, HN.out]
      case measure => simp [intOf]; omega
    · obtain rfl : k = 255 := by omega
      have c3 := hK.c3
      have z3 := hK.fz 3
      have HS : Hid (FieldIn (wr.setCell ⟨b, 3, none⟩ (.int .i64 (m + 1))) b d s (m + 1) 255) := hK.set3 (m + 1)
      have HT : Hid (Turned b w wr) := hT
      clear hK hT
      go_wp2_with (go_at_call 153; refine (count_add ⟨b, 3, none⟩ m 1 (by omega) (by omega) (by omega) (by omega) _ c3 z3).mono ?_; rintro e w' ⟨rfl, rfl⟩)
      go_end0
      exact ⟨rfl, HS.out, HT.out.setCell _ _⟩

end Go.Proofs.YtonooelffokfkaaGreatDoor

namespace Go.Proofs.YtonooelffokfkaaGreatDoor
open Go.RowKit Plain

set_option maxRecDepth 100000 in
set_option maxHeartbeats 2000000 in
theorem slow_any (b : Nat) (m : Int) (hm : 0 ≤ m ∧ m < 1000) (w : World) (hF : FieldIn w b 0 0 m 0) :
    Calls Tryz.prog 231 #[.pointer (some ⟨b, 0, none⟩), .func (.func 226) #[.pointer (some ⟨b, 0, none⟩)] #[]] w fun e w' => e = .returned (.tuple #[]) ∧ FieldIn w' b 1 0 (m + 1) 255 ∧ Turned b w w' := by
  have hF1 : FieldIn (w.setCell ⟨b, 1, none⟩ (.int .i32 1)) b 0 1 m 0 := hF.set1 1
  have h10 := hF1.c0
  have c1 := hF.c1
  have z1 := hF.fz 1
  have hnot : ∀ (x : Bool) (w : World), (Op.unary .not (.bool x)).run Tryz.prog w = .ok (.bool (!x)) w := fun _ _ => rfl
  go_enter_defers Tryz.func231, Tryz.ntmps231
  go_wp2_with (go_at_call 98; refine (lock_free ⟨b, 1, none⟩ _ c1 z1).mono ?_; rintro e w' ⟨rfl, rfl⟩)
  go_wp2_with fail
  refine (bool_load ⟨b, 0, none⟩ 0 _ h10).mono ?_; rintro e w' ⟨rfl, rfl⟩
  go_wp2_with fail
  refine (fill_any b 0 1 m hm _ hF1).mono ?_; rintro e w2 ⟨rfl, hF2, hT⟩
  go_wp2
  have hF3 : FieldIn (w2.drew.setCell ⟨b, 0, none⟩ (.int .u32 1)) b 1 1 (m + 1) 255 := hF2.drew.set0 1
  refine leaves_cons (f := 109) (args := #[.pointer (some ⟨b, 0, none⟩), .bool true]) (by simp) (by simp [go_sem]) ?_
  refine (store_deferred ⟨b, 0, none⟩ (.int .u32 0) .returning _ hF2.c0 (hF2.fz 0)).mono ?_
  rintro e u' w3 ⟨rfl, rfl, rfl⟩
  refine leaves_cons (f := 107) (args := #[.pointer (some ⟨b, 1, none⟩)]) (by simp [settle]) (by simp [go_sem]) ?_
  refine (unlock_deferred ⟨b, 1, none⟩ _ _ hF3.c1 (hF3.fz 1)).mono ?_
  rintro e u' w3 ⟨rfl, rfl, rfl⟩
  have hT2 : Turned b w ((w2.drew.setCell ⟨b, 0, none⟩ (.int .u32 1)).setCell ⟨b, 1, none⟩ (.int .i32 0)) :=
    ((((((Turned.refl b w).setCell 1 (.int .i32 1)).trans hT).drew).setCell _ _).setCell _ _)
  have hF4 := hF3.set1 0
  simp [Leaves, settle, results, Tryz.results231]
  exact ⟨hF4, hT2⟩

set_option maxRecDepth 100000 in
set_option maxHeartbeats 1600000 in
/-- not yet done, the lock free. -/
theorem do_first (b : Nat) (m : Int) (hm : 0 ≤ m ∧ m < 1000) (w : World) (hF : FieldIn w b 0 0 m 0) :
    Calls Tryz.prog 225 #[.pointer (some ⟨b, 0, none⟩), .func (.func 226) #[.pointer (some ⟨b, 0, none⟩)] #[]] w fun e w' => e = .returned (.tuple #[]) ∧ FieldIn w' b 1 0 (m + 1) 255 ∧ Turned b w w' := by
  have c0 := hF.c0
  have hnot : ∀ (x : Bool) (w : World), (Op.unary .not (.bool x)).run Tryz.prog w = .ok (.bool (!x)) w := fun _ _ => rfl
  go_enter Tryz.func225, Tryz.ntmps225
  go_wp2_with fail
  refine (bool_load ⟨b, 0, none⟩ 0 _ c0).mono ?_; rintro e w' ⟨rfl, rfl⟩
  go_wp2_with fail
  refine (slow_any b m hm _ hF).mono ?_; rintro e w2 ⟨rfl, hF2, hT⟩
  go_wp2
  go_end0
  exact ⟨rfl, hF2, hT⟩

/-- done already: the function is not called. -/
theorem do_done (a : Addr) (d : Int) (hd : ¬ d = 0) (fv : Value) (w : World) (h0 : w.cell? a = some (.int .u32 d)) :
    Calls Tryz.prog 225 #[.pointer (some a), fv] w fun e w' => e = .returned (.tuple #[]) ∧ w' = w := by
  have hnot : ∀ (x : Bool) (w : World), (Op.unary .not (.bool x)).run Tryz.prog w = .ok (.bool (!x)) w := fun _ _ => rfl
  have hd' : (d != 0) = true := by simp [hd]
  go_enter Tryz.func225, Tryz.ntmps225
  go_wp2_with fail
  refine (bool_load _ d _ h0).mono ?_; rintro e w' ⟨rfl, rfl⟩
  go_wp2
  go_end0
  exact ⟨rfl, rfl⟩

end Go.Proofs.YtonooelffokfkaaGreatDoor

namespace Go.Proofs.YtonooelffokfkaaGreatDoor
open Go.RowKit Plain Go.BigFrame

def Ready (w : World) (b : Nat) : Prop := FieldIn w b 1 0 1 255
def Fresh (w : World) (b : Nat) : Prop := FieldIn w b 0 0 0 0

/-- what Div and Log answer, and their errors. -/
def dvV (x y : Nat) : Nat := if y = 0 then 0 else dv x y
def erV (y : Nat) : Int := if y = 0 then 5 else 0
theorem dvV_pos (x y : Nat) (h : y ≠ 0) : dvV x y = dv x y := if_neg h
theorem erV_pos (y : Nat) (h : y ≠ 0) : erV y = 0 := if_neg h

theorem do_any (b : Nat) (w : World) (h : Fresh w b ∨ Ready w b) :
    Calls Tryz.prog 225 #[.pointer (some ⟨b, 0, none⟩), .func (.func 226) #[.pointer (some ⟨b, 0, none⟩)] #[]] w fun e w' => e = .returned (.tuple #[]) ∧ Ready w' b ∧ Turned b w w' := by
  rcases h with h | h
  · exact do_first b 0 (by omega) w h
  · refine (do_done ⟨b, 0, none⟩ 1 (by omega) _ w h.c0).mono ?_
    rintro e w' ⟨rfl, rfl⟩
    exact ⟨rfl, h, Turned.refl b w'⟩
theorem Ready.log {w : World} {b : Nat} (h : Ready w b) (a : Nat) (ha : a < 256) (h0 : a ≠ 0) : w.cell? ⟨b, 259 + a, none⟩ = some (.int .u8 (lg a : Nat)) := by
  rw [h.cl a ha, lgT_full a ha h0]

set_option maxRecDepth 100000 in
set_option maxHeartbeats 2000000 in
theorem fdiv_any (b : Nat) (x y : Nat) (hx : x < 256) (hy : y < 256) (w : World) (h : Fresh w b ∨ Ready w b) :
    Calls Tryz.prog 209 #[.pointer (some ⟨b, 0, none⟩), .int .u8 x, .int .u8 y] w fun e w' => e = .returned (.tuple #[.int .u8 (dvV x y : Nat), .int .i64 (erV y)]) ∧ Ready w' b ∧ Turned b w w' := by
  have hmf : ∀ (fn : Fn) (first cap : Array Value) (w : World), (Instr.makeFunc fn first cap).run Tryz.prog w = .ok (.func fn first cap) w := fun _ _ _ _ => rfl
  go_enter Tryz.func209, Tryz.ntmps209
  go_wp2_with fail
  refine (do_any b w h).mono ?_; rintro e w2 ⟨rfl, hR, hT⟩
  by_cases hy0 : y = 0
  · subst hy0
    go_wp2
    go_ret2
    exact ⟨rfl, hR, hT⟩
  have ey : ((y : Int) == 0) = false := by simp; omega
  by_cases hx0 : x = 0
  · subst hx0
    have HD : Hid (dvV 0 y = 0) := dvV_pos 0 y hy0
    have HE : Hid (erV y = 0) := erV_pos y hy0
    go_wp2
    go_ret2
    exact ⟨by rw [HD.out, HE.out]; rfl, hR, hT⟩
  have ex : ((x : Int) == 0) = false := by simp; omega
  have k1 : ∀ p, (extp w2 p).cell? ⟨b, 259 + x, none⟩ = some (.int .u8 (lg x : Nat)) := fun p => Ready.log (hR.extp p) x hx hx0
  have k2 : ∀ p, (extp w2 p).cell? ⟨b, 259 + y, none⟩ = some (.int .u8 (lg y : Nat)) := fun p => Ready.log (hR.extp p) y hy hy0
  have k3 : ∀ p, FieldIn (extp w2 p) b 1 0 1 255 := fun p => hR.extp p
  have l1 := lg_lt x hx
  have l2 := lg_lt y hy
  have HM : Hid (dvV x y = exN ((lg x : Int) - lg y)) := by show dvV x y = _; rw [dvV_pos x y hy0]; unfold dv; rw [if_neg hx0]
  have HE : Hid (erV y = 0) := erV_pos y hy0
  clear hx0 hy0
  go_wp2_with fail
  refine wp_region_ext (by kernel_rfl) (by kernel_rfl) ?_
  repeat (first
    | go_big_quiet_skip
    | (go_big_quiet_want; go_big_quiet_op; go_big_quiet_on)
    | (go_big_quiet_want; go_big_quiet_op; apply Exists.intro; refine ⟨fun p => ?_, ?_⟩; (focus
        first
        | (go_at_call 227; exact ext_call_same (fpow_any b 1 0 1 _ _ (k3 p)))); go_big_quiet_on))
  refine wpQuiet_nil ?_
  rintro w' ⟨p, rfl⟩
  go_wp2
  go_ret2
  exact ⟨by rw [HM.out, HE.out]; rfl, hR.extp p, hT.ext (extp_ext _ p)⟩


end Go.Proofs.YtonooelffokfkaaGreatDoor
