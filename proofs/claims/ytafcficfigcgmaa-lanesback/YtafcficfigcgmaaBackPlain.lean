/-
  A word that is stored behind any text is loaded back from there, as plain arithmetic; no condition but that the word is below 2^64.
-/
import Derived.Test.YtafcficfigcgmaaStrs
namespace Go.Proofs.Ytafcficfigcgmaa
open Go.RowKit Plain

theorem bAt_nat (s : ByteArray) (k : Nat) : bAt s (k : Int) = ((s.data.toList[k]?).getD 0).toNat := by
  unfold bAt
  by_cases h : k < s.size
  · rw [dif_pos (by omega)]
    have e : s.data.toList[k]? = some s[k] := by
      rw [List.getElem?_eq_getElem (by simpa using h)]; rfl
    rw [e]; simp
  · rw [dif_neg (by omega), List.getElem?_eq_none (by simpa using Nat.le_of_not_lt h)]; rfl
theorem byI_nat (x i : Nat) : byI x i = ((x / 2 ^ (8 * i) % 256 : Nat) : Int) := by
  unfold byI; rw [Int.natCast_emod, Int.natCast_ediv, Int.natCast_pow]; rfl
theorem stL_at (x i : Nat) (h : i < 8) : (stL x)[i]? = some (byI x i) := by
  have h : i = 0 ∨ i = 1 ∨ i = 2 ∨ i = 3 ∨ i = 4 ∨ i = 5 ∨ i = 6 ∨ i = 7 := by omega
  rcases h with rfl | rfl | rfl | rfl | rfl | rfl | rfl | rfl <;> rfl
theorem back_at (t m : ByteArray) (x i : Nat) (h : i < 8) : bAt (t ++ strOfNums (stL x) ++ m) ((t.size : Int) + (i : Int)) = x / 2 ^ (8 * i) % 256 := by
  have e : (t.size : Int) + (i : Int) = ((t.size + i : Nat) : Int) := by omega
  rw [e, bAt_nat]
  have e2 : (t ++ strOfNums (stL x) ++ m).data.toList = t.data.toList ++ (strOfNums (stL x)).data.toList ++ m.data.toList := by simp
  rw [e2, strOfNums_data, List.append_assoc, List.getElem?_append_right (by simp)]
  have e3 : t.size + i - t.data.toList.length = i := by simp
  have hl : (stL x).length = 8 := rfl
  rw [e3, List.getElem?_append_left (by simp [hl]; omega), List.getElem?_map, stL_at x i h, byI_nat]
  generalize x / 2 ^ (8 * i) = y
  show (UInt8.ofNat ((y % 256 : Nat) : Int).toNat).toNat = y % 256
  rw [Int.toNat_natCast, UInt8.toNat_ofNat']
  omega
theorem back_eq (t m : ByteArray) (x : Nat) (hx : x < 18446744073709551616) : ldS (t ++ strOfNums (stL x) ++ m) (t.size : Int) 8 = x := by
  have h := back_at t m x
  simp only [ldS]
  rw [h 0 (by omega), h 1 (by omega), h 2 (by omega), h 3 (by omega), h 4 (by omega), h 5 (by omega), h 6 (by omega), h 7 (by omega)]
  simp only [Nat.reduceMul, Nat.reducePow]
  omega
theorem more_size (x : Nat) : (strOfNums (stL x)).size = 8 := rfl

end Go.Proofs.Ytafcficfigcgmaa
