/-
  Plain arithmetic of the field of 256 elements: powers of 2, logarithms, products, quotients. No condition but that elements are bytes.
-/
import Derived.Test.YtffbachgbcefiaaDoorMulPlain
namespace Go.Proofs.YtffbachgbcefiaaDoor.Plain

def pw : Nat → Nat
  | 0 => 1
  | n + 1 => tb (pw n)
def lgL : List Nat := [0, 0, 1, 25, 2, 50, 26, 198, 3, 223, 51, 238, 27, 104, 199, 75, 4, 100, 224, 14, 52, 141, 239, 129, 28, 193, 105, 248, 200, 8, 76, 113, 5, 138, 101, 47, 225, 36, 15, 33, 53, 147, 142, 218, 240, 18, 130, 69, 29, 181, 194, 125, 106, 39, 249, 185, 201, 154, 9, 120, 77, 228, 114, 166, 6, 191, 139, 98, 102, 221, 48, 253, 226, 152, 37, 179, 16, 145, 34, 136, 54, 208, 148, 206, 143, 150, 219, 189, 241, 210, 19, 92, 131, 56, 70, 64, 30, 66, 182, 163, 195, 72, 126, 110, 107, 58, 40, 84, 250, 133, 186, 61, 202, 94, 155, 159, 10, 21, 121, 43, 78, 212, 229, 172, 115, 243, 167, 87, 7, 112, 192, 247, 140, 128, 99, 13, 103, 74, 222, 237, 49, 197, 254, 24, 227, 165, 153, 119, 38, 184, 180, 124, 17, 68, 146, 217, 35, 32, 137, 46, 55, 63, 209, 91, 149, 188, 207, 205, 144, 135, 151, 178, 220, 252, 190, 97, 242, 86, 211, 171, 20, 42, 93, 158, 132, 60, 57, 83, 71, 109, 65, 162, 31, 45, 67, 216, 183, 123, 164, 118, 196, 23, 73, 236, 127, 12, 111, 246, 108, 161, 59, 82, 41, 157, 85, 170, 251, 96, 134, 177, 187, 204, 62, 90, 203, 89, 95, 176, 156, 169, 160, 81, 11, 245, 22, 235, 122, 117, 44, 215, 79, 174, 213, 233, 230, 231, 173, 232, 116, 214, 244, 234, 168, 80, 88, 175]
def lg (a : Nat) : Nat := lgL.getD a 0
def ml (a b : Nat) : Nat := tbS a b 8

theorem pw_ok : ∀ i, i < 255 → lg (pw i) = i ∧ 0 < pw i ∧ pw i < 256 := by decide +kernel
theorem lg_ok : ∀ a, a < 256 → a ≠ 0 → pw (lg a) = a ∧ lg a < 255 := by decide +kernel
theorem pw_round : pw 255 = 1 := by decide +kernel
theorem pw_add255 : ∀ n, pw (n + 255) = pw n
  | 0 => by rw [Nat.zero_add]; exact pw_round
  | n + 1 => by
    have h : tb (pw (n + 255)) = tb (pw n) := congrArg tb (pw_add255 n)
    exact h
theorem pw_mul : ∀ k n, pw (n + 255 * k) = pw n
  | 0, n => by rw [Nat.mul_zero, Nat.add_zero]
  | k + 1, n => by rw [show n + 255 * (k + 1) = (n + 255 * k) + 255 by omega, pw_add255, pw_mul k n]
theorem pw_mod (n : Nat) : pw (n % 255) = pw n := by
  have h := pw_mul (n / 255) (n % 255)
  rw [Nat.mod_add_div] at h
  exact h.symm
theorem pw_pos (n : Nat) : 0 < pw n ∧ pw n < 256 := by
  rw [← pw_mod]; exact (pw_ok _ (Nat.mod_lt _ (by omega))).2
theorem lg_pw (n : Nat) : lg (pw n) = n % 255 := by
  rw [← pw_mod]; exact (pw_ok _ (Nat.mod_lt _ (by omega))).1
theorem lg_lt (a : Nat) (ha : a < 256) : lg a < 255 := by
  by_cases h : a = 0
  · subst h; decide
  · exact (lg_ok a ha h).2
theorem pw_lg (a : Nat) (ha : a < 256) (h : a ≠ 0) : pw (lg a) = a := (lg_ok a ha h).1

theorem tbI_zero : ∀ n, tbI 0 n = 0
  | 0 => rfl
  | n + 1 => by simp only [tbI]; rw [tbI_zero n]; decide
theorem tbS_zero (c : Nat) : ∀ n, tbS 0 c n = 0
  | 0 => rfl
  | n + 1 => by
    simp only [tbS]; rw [tbS_zero c n, tbI_zero n]
    split <;> rfl
theorem lm_small {f : Nat → Nat} (h0 : f 0 = 0) : ∀ n x, x < 256 → lm f (n + 1) x = f x := by
  have hz : ∀ n, lm f n 0 = 0 := by
    intro n
    induction n with
    | zero => rfl
    | succ n ih => simp only [lm]; simp [h0, ih]
  intro n x hx
  simp only [lm]
  rw [Nat.mod_eq_of_lt hx, Nat.div_eq_of_lt hx, hz n]
  omega
theorem tm_ml (a c : Nat) (ha : a < 256) : tmN a c = ml a c := by
  rw [tm_lm a c (by omega)]
  exact lm_small (f := fun b => tbS b c 8) (tbS_zero c 8) 7 a ha
theorem ml_lt (a b : Nat) (ha : a < 256) : ml a b < 256 := tbS_lt a b ha 8
theorem ml_swap (a c d : Nat) (ha : a < 256) : ml (ml a c) d = ml (ml a d) c := by
  have h := tm_comm a c d
  rw [tm_ml a c ha, tm_ml a d ha, tm_ml _ d (ml_lt a c ha), tm_ml _ c (ml_lt a d ha)] at h
  exact h
theorem ml_one_left : ∀ c, c < 256 → ml 1 c = c := by decide +kernel
theorem ml_two : ∀ a, a < 256 → ml a 2 = tb a := by decide +kernel
theorem ml_comm (a b : Nat) (ha : a < 256) (hb : b < 256) : ml a b = ml b a := by
  have h := ml_swap 1 a b (by omega)
  rw [ml_one_left a ha, ml_one_left b hb] at h
  exact h
theorem ml_assoc (a b c : Nat) (ha : a < 256) (hb : b < 256) (_hc : c < 256) : ml a (ml b c) = ml (ml a b) c := by
  rw [ml_comm a b ha hb, ml_swap b a c hb, ml_comm _ a (ml_lt b c hb) ha]
theorem ml_one (a : Nat) (ha : a < 256) : ml a 1 = a := by rw [ml_comm a 1 ha (by omega), ml_one_left a ha]
theorem ml_zero_left (b : Nat) : ml 0 b = 0 := tbS_zero b 8
theorem ml_zero (a : Nat) (ha : a < 256) : ml a 0 = 0 := by rw [ml_comm a 0 ha (by omega), ml_zero_left]
theorem ml_sum (a b c : Nat) : ml a (b ^^^ c) = ml a b ^^^ ml a c := tbS_sum a b c 8
theorem ml_pw (i : Nat) : ∀ j, ml (pw i) (pw j) = pw (i + j)
  | 0 => ml_one _ (pw_pos i).2
  | j + 1 => by
    have h1 : pw (j + 1) = ml (pw j) 2 := by rw [ml_two _ (pw_pos j).2]; rfl
    rw [h1, ml_assoc _ _ _ (pw_pos i).2 (pw_pos j).2 (by omega), ml_pw i j, ml_two _ (pw_pos _).2]; rfl
theorem ml_lg (a b : Nat) (ha : a < 256) (hb : b < 256) (ha0 : a ≠ 0) (hb0 : b ≠ 0) : ml a b = pw (lg a + lg b) := by
  rw [← ml_pw, pw_lg a ha ha0, pw_lg b hb hb0]

/-- 2 to the power of n. -/
def ix (n : Int) : Nat := (n % 255).toNat
def exN (n : Int) : Nat := pw (ix n)
theorem ix_lt (n : Int) : ix n < 255 := by unfold ix; omega
theorem exN_nat (n : Nat) : exN n = pw n := by
  unfold exN ix; rw [← pw_mod n]; congr 1
theorem exN_lt (n : Int) : exN n < 256 := (pw_pos _).2
theorem exN_pos (n : Int) : exN n ≠ 0 := by have := (pw_pos (ix n)).1; unfold exN; omega
theorem exN_add (m n : Int) : ml (exN m) (exN n) = exN (m + n) := by
  unfold exN; rw [ml_pw, ← pw_mod]; congr 1; unfold ix; omega
theorem exN_255 (m : Int) : exN (m + 255) = exN m := by
  unfold exN; congr 1; unfold ix; omega
theorem ml_ex (a b : Nat) (ha : a < 256) (hb : b < 256) (ha0 : a ≠ 0) (hb0 : b ≠ 0) : exN ((lg a : Int) + lg b) = ml a b := by
  rw [ml_lg a b ha hb ha0 hb0, show ((lg a : Int) + lg b) = ((lg a + lg b : Nat) : Int) by omega, exN_nat]
/-- the quotient. -/
def dv (a b : Nat) : Nat := if a = 0 then 0 else exN ((lg a : Int) - lg b)
theorem dv_lt (a b : Nat) : dv a b < 256 := by
  unfold dv; split
  · omega
  · exact exN_lt _
theorem dv_back (a b : Nat) (ha : a < 256) (hb : b < 256) (hb0 : b ≠ 0) : ml (dv a b) b = a := by
  unfold dv
  by_cases h : a = 0
  · rw [if_pos h, ml_zero_left, h]
  · rw [if_neg h]
    have e : b = exN (lg b) := by rw [exN_nat, pw_lg b hb hb0]
    have e2 : ml (exN ((lg a : Int) - lg b)) b = ml (exN ((lg a : Int) - lg b)) (exN (lg b)) := by rw [← e]
    rw [e2, exN_add, show ((lg a : Int) - lg b + lg b) = ((lg a : Nat) : Int) by omega, exN_nat, pw_lg a ha h]
theorem dv_only (x a b : Nat) (hx : x < 256) (hb : b < 256) (hb0 : b ≠ 0) (h : ml x b = a) : x = dv a b := by
  have hd := dv_back a b (by rw [← h]; exact ml_lt x b hx) hb hb0
  have key : ∀ y, y < 256 → ml (ml y b) (dv 1 b) = y := by
    intro y hy
    rw [← ml_assoc y b _ hy hb (dv_lt 1 b), ml_comm b _ hb (dv_lt 1 b), dv_back 1 b (by omega) hb hb0, ml_one y hy]
  rw [← key x hx, ← key (dv a b) (dv_lt a b), hd, h]

/-- the tables behind n rounds. -/
def pwT (n i : Nat) : Nat := if i < n then pw i else 0
def lgT : Nat → Nat → Nat
  | 0, _ => 0
  | n + 1, x => if x = pw n then n else lgT n x
theorem lgT_at (i : Nat) : ∀ n, n ≤ 255 → i < n → lgT n (pw i) = i
  | 0, _, h => absurd h (by omega)
  | n + 1, hn, h => by
    simp only [lgT]
    by_cases he : i = n
    · rw [if_pos (by rw [he]), he]
    · rw [if_neg, lgT_at i n (by omega) (by omega)]
      intro hp
      have h1 := (pw_ok i (by omega)).1
      rw [hp, (pw_ok n (by omega)).1] at h1
      omega
theorem lgT_full (a : Nat) (ha : a < 256) (h : a ≠ 0) : lgT 255 a = lg a := by
  have h1 := lgT_at (lg a) 255 (by omega) (lg_lt a ha)
  rw [pw_lg a ha h] at h1; exact h1
theorem lgT_lt : ∀ n x, n ≤ 255 → lgT n x < 256
  | 0, _, _ => by simp [lgT]
  | n + 1, x, h => by
    simp only [lgT]; split
    · omega
    · exact lgT_lt n x (by omega)
theorem pwT_lt (n i : Nat) : pwT n i < 256 := by
  unfold pwT; split
  · exact (pw_pos i).2
  · omega

end Go.Proofs.YtffbachgbcefiaaDoor.Plain
