/-
  Plain facts on words of bits: the word of 64 bits (wn), what is one of two words, both, the first alone; how many bits are set (cn), as math/bits reckons it; the first (fs) and the last (ls); the numbers of a set below 256, rising (fl), and their runs (rn). No condition but bounds.
-/
import Derived.Test.YtffbachgbcefiaaDoorShr
import Derived.Lib.BitFns
import Derived.Lib.TrailingZeros
namespace Go.Proofs.YtffbachgbcefiaaDoor.Plain

/-! ### a word of bits -/
def wn : Nat → (Nat → Bool) → Nat
  | 0, _ => 0
  | n + 1, h => (h 0).toNat + 2 * wn n (fun j => h (j + 1))
theorem wn_lt : ∀ n h, wn n h < 2 ^ n
  | 0, _ => by simp [wn]
  | n + 1, h => by
    have := wn_lt n (fun j => h (j + 1))
    have h2 := Bool.toNat_le (h 0)
    simp only [wn]; rw [Nat.pow_succ]; omega
theorem wn_congr : ∀ n (h g : Nat → Bool), (∀ j, j < n → h j = g j) → wn n h = wn n g
  | 0, _, _, _ => rfl
  | n + 1, h, g, e => by
    simp only [wn]
    rw [e 0 (by omega), wn_congr n _ _ (fun j hj => e (j + 1) (by omega))]
theorem wn_bit : ∀ n h j, (wn n h).testBit j = (decide (j < n) && h j)
  | 0, _, j => by simp [wn]
  | n + 1, h, 0 => by
    simp only [wn, Nat.testBit_zero]
    cases h 0 <;> simp <;> omega
  | n + 1, h, j + 1 => by
    have e : ((h 0).toNat + 2 * wn n (fun j => h (j + 1))) / 2 = wn n (fun j => h (j + 1)) := by have := Bool.toNat_le (h 0); omega
    simp only [wn]
    rw [Nat.testBit_succ, e, wn_bit n]
    simp
theorem wn_of : ∀ n x, x < 2 ^ n → wn n x.testBit = x
  | 0, x, h => by simp [wn] at *; omega
  | n + 1, x, h => by
    simp only [wn]
    rw [show (fun j => x.testBit (j + 1)) = (x / 2).testBit from funext fun j => Nat.testBit_succ x j, wn_of n (x / 2) (by rw [Nat.pow_succ] at h; omega), Nat.testBit_zero]
    have : x % 2 = 0 ∨ x % 2 = 1 := by omega
    rcases this with e | e <;> (rw [e]; simp; omega)
theorem wn_or (n : Nat) (h g : Nat → Bool) : wn n h ||| wn n g = wn n (fun j => h j || g j) := by
  apply Nat.eq_of_testBit_eq
  intro j
  rw [Nat.testBit_or, wn_bit, wn_bit, wn_bit]
  cases decide (j < n) <;> simp
theorem wn_and (n : Nat) (h g : Nat → Bool) : wn n h &&& wn n g = wn n (fun j => h j && g j) := by
  apply Nat.eq_of_testBit_eq
  intro j
  rw [Nat.testBit_and, wn_bit, wn_bit, wn_bit]
  cases decide (j < n) <;> simp
theorem wn_less (h g : Nat → Bool) : wn 64 h &&& (18446744073709551615 - wn 64 g) = wn 64 (fun j => h j && !g j) := by
  apply Nat.eq_of_testBit_eq
  intro j
  have hl := wn_lt 64 g
  rw [Nat.testBit_and, wn_bit, show 18446744073709551615 - wn 64 g = 2 ^ 64 - (wn 64 g + 1) by omega, Nat.testBit_two_pow_sub_succ hl, wn_bit, wn_bit]
  cases decide (j < 64) <;> simp
theorem wn_zero (n : Nat) (h : Nat → Bool) (e : ∀ j, j < n → h j = false) : wn n h = 0 := by
  apply Nat.eq_of_testBit_eq
  intro j
  rw [wn_bit, Nat.zero_testBit]
  by_cases hj : j < n
  · simp [e j hj]
  · simp [hj]
theorem wn_zero_iff (n : Nat) (h : Nat → Bool) (e : wn n h = 0) (j : Nat) (hj : j < n) : h j = false := by
  have := wn_bit n h j
  rw [e, Nat.zero_testBit, decide_eq_true hj] at this
  simpa using this.symm
theorem wn_inj (n : Nat) (h g : Nat → Bool) (e : wn n h = wn n g) (j : Nat) (hj : j < n) : h j = g j := by
  have h1 := wn_bit n h j
  have h2 := wn_bit n g j
  rw [e, decide_eq_true hj] at h1
  rw [decide_eq_true hj] at h2
  simpa using h1.symm.trans h2
theorem wn_one (i : Nat) (hi : i < 64) : wn 64 (fun j => decide (j = i)) = 2 ^ i := by
  apply Nat.eq_of_testBit_eq
  intro j
  rw [wn_bit, Nat.testBit_two_pow]
  by_cases h : j = i
  · subst h; simp [hi]
  · simp [h]; omega
theorem wn_below (i : Nat) (hi : i ≤ 64) : wn 64 (fun j => decide (j < i)) = 2 ^ i - 1 := by
  apply Nat.eq_of_testBit_eq
  intro j
  rw [wn_bit, Nat.testBit_two_pow_sub_one]
  by_cases h : j < i
  · simp [h]; omega
  · simp [h]
/-- the word k of a set. -/
def wd (f : Nat → Bool) (k : Nat) : Nat := wn 64 (fun j => f (64 * k + j))
theorem wd_lt (f : Nat → Bool) (k : Nat) : wd f k < 18446744073709551616 := wn_lt 64 _
theorem wd_congr (f g : Nat → Bool) (h : ∀ i, i < 256 → f i = g i) (k : Nat) (hk : k < 4) : wd f k = wd g k := wn_congr 64 _ _ (fun j hj => h _ (by omega))
theorem wd_inj (f g : Nat → Bool) (h : ∀ k, k < 4 → wd f k = wd g k) (i : Nat) (hi : i < 256) : f i = g i := by
  have := wn_inj 64 _ _ (h (i / 64) (by omega)) (i % 64) (by omega)
  simpa [show 64 * (i / 64) + i % 64 = i by omega] using this
/-- the numbers of a set of four words. -/
def b4 (a b c d : Nat) (i : Nat) : Bool := (if i < 64 then a else if i < 128 then b else if i < 192 then c else d).testBit (i % 64)
theorem b4_word (x : Nat) (hx : x < 18446744073709551616) (f : Nat → Bool) (k : Nat) (h : ∀ j, j < 64 → f (64 * k + j) = x.testBit j) : wd f k = x := by
  unfold wd
  rw [wn_congr 64 _ x.testBit h]
  exact wn_of 64 x hx
theorem b4_words (a b c d : Nat) (ha : a < 18446744073709551616) (hb : b < 18446744073709551616) (hc : c < 18446744073709551616) (hd : d < 18446744073709551616) :
    wd (b4 a b c d) 0 = a ∧ wd (b4 a b c d) 1 = b ∧ wd (b4 a b c d) 2 = c ∧ wd (b4 a b c d) 3 = d := by
  refine ⟨b4_word a ha _ 0 fun j hj => ?_, b4_word b hb _ 1 fun j hj => ?_, b4_word c hc _ 2 fun j hj => ?_, b4_word d hd _ 3 fun j hj => ?_⟩
  · unfold b4; rw [if_pos (by omega), show (64 * 0 + j) % 64 = j by omega]
  · unfold b4; rw [if_neg (by omega), if_pos (by omega), show (64 * 1 + j) % 64 = j by omega]
  · unfold b4; rw [if_neg (by omega), if_neg (by omega), if_pos (by omega), show (64 * 2 + j) % 64 = j by omega]
  · unfold b4; rw [if_neg (by omega), if_neg (by omega), if_neg (by omega), show (64 * 3 + j) % 64 = j by omega]

/-! ### how many -/
def cn : Nat → (Nat → Bool) → Nat
  | 0, _ => 0
  | n + 1, h => (h 0).toNat + cn n (fun j => h (j + 1))
theorem cn_congr : ∀ n (h g : Nat → Bool), (∀ j, j < n → h j = g j) → cn n h = cn n g
  | 0, _, _, _ => rfl
  | n + 1, h, g, e => by
    simp only [cn]
    rw [e 0 (by omega), cn_congr n _ _ (fun j hj => e (j + 1) (by omega))]
theorem cn_le : ∀ n h, cn n h ≤ n
  | 0, _ => by simp [cn]
  | n + 1, h => by
    have := cn_le n (fun j => h (j + 1))
    have h2 := Bool.toNat_le (h 0)
    simp only [cn]; omega
theorem cn_add : ∀ n m h, cn (n + m) h = cn n h + cn m (fun j => h (n + j))
  | 0, m, h => by simp [cn]
  | n + 1, m, h => by
    rw [show n + 1 + m = n + m + 1 by omega]
    simp only [cn]
    rw [cn_add n m]
    rw [show (fun j => h (n + j + 1)) = fun j => h (n + 1 + j) from funext fun j => by congr 1; omega]
    omega
theorem cn_both : ∀ n (h g : Nat → Bool), cn n (fun j => h j || g j) + cn n (fun j => h j && g j) = cn n h + cn n g
  | 0, _, _ => rfl
  | n + 1, h, g => by
    have := cn_both n (fun j => h (j + 1)) (fun j => g (j + 1))
    simp only [cn]
    have e : (h 0 || g 0).toNat + (h 0 && g 0).toNat = (h 0).toNat + (g 0).toNat := by cases h 0 <;> cases g 0 <;> rfl
    omega
theorem cn_words (f : Nat → Bool) (k : Nat) : cn (64 * (k + 1)) f = cn (64 * k) f + cn 64 (fun j => f (64 * k + j)) := by
  rw [show 64 * (k + 1) = 64 * k + 64 by omega, cn_add]

/-! ### bits of a word counted -/
def oc1 (x : Nat) : Nat := (x / 2 &&& 6148914691236517205) + (x &&& 6148914691236517205)
def oc2 (x : Nat) : Nat := (x / 4 &&& 3689348814741910323) + (x &&& 3689348814741910323)
def oc3 (x : Nat) : Nat := (x / 16 + x) &&& 1085102592571150095
def f1 (b : Nat) : Nat := (b / 2 &&& 85) + (b &&& 85)
def f2 (b : Nat) : Nat := (b / 4 &&& 51) + (b &&& 51)
def f3 (b : Nat) : Nat := (f2 (f1 b) / 16 + f2 (f1 b)) % 16
theorem lm_add (f g : Nat → Nat) : ∀ n x, lm f n x + lm g n x = lm (fun b => f b + g b) n x
  | 0, _ => rfl
  | n + 1, x => by simp only [lm]; rw [← lm_add f g n]; omega
theorem id_and (k : Nat) (hk : k < 256) : ∀ n x, x &&& rep k n = lm (fun b => b &&& k) n x
  | 0, _ => by simp [lm, rep]
  | n + 1, x => by
    simp only [lm, rep]
    conv => lhs; rw [show x = x % 256 + 256 * (x / 256) by omega]
    rw [and_cons _ _ _ _ (Nat.mod_lt _ (by omega)) hk, id_and k hk n]
theorem half_and : ∀ n x, x / 2 &&& rep 85 n = lm (fun b => b / 2 &&& 85) n x
  | 0, _ => by simp [lm, rep]
  | n + 1, x => by
    have key : ∀ a, a < 256 → ∀ c, c < 2 → ((a / 2 + 128 * c) &&& 85) = (a / 2 &&& 85) := by decide +kernel
    have hl := Nat.mod_lt x (by omega : 256 > 0)
    simp only [lm, rep]
    rw [show x / 2 = (x % 256 / 2 + 128 * (x / 256 % 2)) + 256 * (x / 256 / 2) by omega, and_cons _ _ _ _ (by omega) (by omega), key _ hl _ (by omega), half_and n]
theorem quart_and : ∀ n x, x / 4 &&& rep 51 n = lm (fun b => b / 4 &&& 51) n x
  | 0, _ => by simp [lm, rep]
  | n + 1, x => by
    have key : ∀ a, a < 256 → ∀ c, c < 4 → ((a / 4 + 64 * c) &&& 51) = (a / 4 &&& 51) := by decide +kernel
    have hl := Nat.mod_lt x (by omega : 256 > 0)
    simp only [lm, rep]
    rw [show x / 4 = (x % 256 / 4 + 64 * (x / 256 % 4)) + 256 * (x / 256 / 4) by omega, and_cons _ _ _ _ (by omega) (by omega), key _ hl _ (by omega), quart_and n]
theorem oc1_lm (x : Nat) : oc1 x = lm f1 8 x := by
  unfold oc1
  rw [show (6148914691236517205 : Nat) = rep 85 8 by decide +kernel, half_and, id_and 85 (by omega), lm_add]
  rfl
theorem oc2_lm (x : Nat) : oc2 x = lm f2 8 x := by
  unfold oc2
  rw [show (3689348814741910323 : Nat) = rep 51 8 by decide +kernel, quart_and, id_and 51 (by omega), lm_add]
  rfl
theorem nib_and {g : Nat → Nat} (hg : ∀ b, b < 256 → g b < 256 ∧ g b % 16 ≤ 4 ∧ g b / 16 ≤ 4) : ∀ n x, (lm g n x / 16 + lm g n x) &&& rep 15 n = lm (fun b => (g b / 16 + g b) % 16) n x
  | 0, _ => by simp [lm, rep]
  | n + 1, x => by
    have ih := nib_and hg n (x / 256)
    obtain ⟨h1, h2, h3⟩ := hg _ (Nat.mod_lt x (by omega : 256 > 0))
    have hn : lm g n (x / 256) % 16 ≤ 4 := by
      cases n with
      | zero => simp [lm]
      | succ n =>
        obtain ⟨_, h5, _⟩ := hg _ (Nat.mod_lt (x / 256) (by omega : 256 > 0))
        simp only [lm]; omega
    have key : ∀ a, a < 256 → (a &&& 15) = a % 16 := by decide +kernel
    simp only [lm, rep]
    generalize g (x % 256) = b at *
    generalize lm g n (x / 256) = y at *
    rw [show (b + 256 * y) / 16 + (b + 256 * y) = (b / 16 + 16 * (y % 16) + b) + 256 * (y / 16 + y) by omega, and_cons _ _ _ _ (by omega) (by omega), key _ (by omega), ih]
    congr 1
    omega
theorem f21_ok : ∀ b, b < 256 → f2 (f1 b) < 256 ∧ f2 (f1 b) % 16 ≤ 4 ∧ f2 (f1 b) / 16 ≤ 4 := by decide +kernel
theorem f1_lt : ∀ b, b < 256 → f1 b < 256 := by decide +kernel
theorem f3_is : ∀ b, b < 256 → f3 b = cn 8 b.testBit := by decide +kernel
theorem f3_le (b : Nat) (h : b < 256) : f3 b ≤ 8 := by rw [f3_is b h]; exact cn_le 8 _
theorem oc3_lm (x : Nat) : oc3 (oc2 (oc1 x)) = lm f3 8 x := by
  rw [oc1_lm, oc2_lm, lm_lm f1_lt]
  unfold oc3
  rw [show (1085102592571150095 : Nat) = rep 15 8 by decide +kernel, nib_and f21_ok]
  rfl
theorem cn_byte (n x : Nat) : cn (8 + n) x.testBit = cn 8 (x % 256).testBit + cn n (x / 256).testBit := by
  rw [cn_add]
  congr 1
  · exact cn_congr 8 _ _ (fun j hj => by rw [show 256 = 2 ^ 8 from rfl, Nat.testBit_mod_two_pow]; simp [hj])
  · exact cn_congr n _ _ (fun j hj => by rw [show 256 = 2 ^ 8 from rfl, Nat.testBit_div_two_pow]; congr 1; omega)
def oc (x : Nat) : Nat :=
  let p := oc3 (oc2 (oc1 x))
  let q := p + p / 256
  let r := q + q / 65536
  (r + r / 4294967296) % 128
theorem lm_le {f : Nat → Nat} (k : Nat) (h : ∀ b, b < 256 → f b ≤ k) : ∀ n x, lm f n x ≤ rep k n
  | 0, _ => by simp [lm, rep]
  | n + 1, x => by
    have h1 := h _ (Nat.mod_lt x (by omega : 256 > 0))
    have h2 := lm_le k h n (x / 256)
    simp only [lm, rep]; omega
theorem oc_le (x : Nat) : oc1 x ≤ 12297829382473034410 ∧ oc2 (oc1 x) ≤ 4919131752989213764 ∧ oc3 (oc2 (oc1 x)) ≤ 578721382704613384 := by
  refine ⟨?_, ?_, ?_⟩
  · rw [oc1_lm]; exact Nat.le_trans (lm_le 170 (by decide +kernel) 8 x) (by decide +kernel)
  · rw [oc1_lm, oc2_lm, lm_lm f1_lt]; exact Nat.le_trans (lm_le 68 (by decide +kernel) 8 x) (by decide +kernel)
  · rw [oc3_lm]; exact Nat.le_trans (lm_le 8 f3_le 8 x) (by decide +kernel)
theorem oc_is (x : Nat) (hx : x < 18446744073709551616) : oc x = cn 64 x.testBit := by
  have e : cn 64 x.testBit = cn 8 (x % 256).testBit + (cn 8 (x / 256 % 256).testBit + (cn 8 (x / 256 / 256 % 256).testBit + (cn 8 (x / 256 / 256 / 256 % 256).testBit + (cn 8 (x / 256 / 256 / 256 / 256 % 256).testBit + (cn 8 (x / 256 / 256 / 256 / 256 / 256 % 256).testBit + (cn 8 (x / 256 / 256 / 256 / 256 / 256 / 256 % 256).testBit + (cn 8 (x / 256 / 256 / 256 / 256 / 256 / 256 / 256 % 256).testBit))))))) := by
    rw [cn_byte 56, cn_byte 48, cn_byte 40, cn_byte 32, cn_byte 24, cn_byte 16, cn_byte 8, show x / 256 / 256 / 256 / 256 / 256 / 256 / 256 % 256 = x / 256 / 256 / 256 / 256 / 256 / 256 / 256 by omega]
  rw [e]
  unfold oc
  rw [oc3_lm]
  simp only [lm]
  have hb : ∀ y : Nat, y % 256 < 256 := fun y => Nat.mod_lt _ (by omega)
  rw [← f3_is _ (hb _), ← f3_is _ (hb _), ← f3_is _ (hb _), ← f3_is _ (hb _), ← f3_is _ (hb _), ← f3_is _ (hb _), ← f3_is _ (hb _), ← f3_is _ (hb _)]
  have l0 := f3_le _ (hb x)
  have l1 := f3_le _ (hb (x / 256))
  have l2 := f3_le _ (hb (x / 256 / 256))
  have l3 := f3_le _ (hb (x / 256 / 256 / 256))
  have l4 := f3_le _ (hb (x / 256 / 256 / 256 / 256))
  have l5 := f3_le _ (hb (x / 256 / 256 / 256 / 256 / 256))
  have l6 := f3_le _ (hb (x / 256 / 256 / 256 / 256 / 256 / 256))
  have l7 := f3_le _ (hb (x / 256 / 256 / 256 / 256 / 256 / 256 / 256))
  revert l0 l1 l2 l3 l4 l5 l6 l7
  generalize f3 (x % 256) = c0
  generalize f3 (x / 256 % 256) = c1
  generalize f3 (x / 256 / 256 % 256) = c2
  generalize f3 (x / 256 / 256 / 256 % 256) = c3
  generalize f3 (x / 256 / 256 / 256 / 256 % 256) = c4
  generalize f3 (x / 256 / 256 / 256 / 256 / 256 % 256) = c5
  generalize f3 (x / 256 / 256 / 256 / 256 / 256 / 256 % 256) = c6
  generalize f3 (x / 256 / 256 / 256 / 256 / 256 / 256 / 256 % 256) = c7
  intro l0 l1 l2 l3 l4 l5 l6 l7
  obtain ⟨q7, h7⟩ : ∃ q, q = c7 + 256 * 0 := ⟨_, rfl⟩
  rw [← h7]
  obtain ⟨q6, h6⟩ : ∃ q, q = c6 + 256 * q7 := ⟨_, rfl⟩
  rw [← h6]
  obtain ⟨q5, h5⟩ : ∃ q, q = c5 + 256 * q6 := ⟨_, rfl⟩
  rw [← h5]
  obtain ⟨q4, h4⟩ : ∃ q, q = c4 + 256 * q5 := ⟨_, rfl⟩
  rw [← h4]
  obtain ⟨q3, h3⟩ : ∃ q, q = c3 + 256 * q4 := ⟨_, rfl⟩
  rw [← h3]
  obtain ⟨q2, h2⟩ : ∃ q, q = c2 + 256 * q3 := ⟨_, rfl⟩
  rw [← h2]
  obtain ⟨q1, h1⟩ : ∃ q, q = c1 + 256 * q2 := ⟨_, rfl⟩
  rw [← h1]
  obtain ⟨q0, h0⟩ : ∃ q, q = c0 + 256 * q1 := ⟨_, rfl⟩
  rw [← h0]
  have d1 : q0 / 256 = q1 := by omega
  have d2 : (q0 + q1) / 65536 = q2 + q3 := by omega
  have d3 : (q0 + q1 + (q2 + q3)) / 4294967296 = q4 + q5 + q6 + q7 := by omega
  simp only [d1, d2, d3]
  omega

/-! ### the first and the last -/
def fs : Nat → (Nat → Bool) → Nat
  | 0, _ => 0
  | n + 1, h => if h 0 then 0 else 1 + fs n (fun j => h (j + 1))
theorem fs_le : ∀ n h, fs n h ≤ n
  | 0, _ => by simp [fs]
  | n + 1, h => by
    have := fs_le n (fun j => h (j + 1))
    simp only [fs]; split <;> omega
theorem fs_at : ∀ n h, fs n h < n → h (fs n h) = true
  | 0, _, hl => by simp [fs] at hl
  | n + 1, h, hl => by
    simp only [fs] at hl ⊢
    by_cases h0 : h 0 = true
    · rw [if_pos h0]; exact h0
    · rw [if_neg h0] at hl ⊢
      have := fs_at n (fun j => h (j + 1)) (by omega)
      rw [Nat.add_comm]; exact this
theorem fs_before : ∀ n h j, j < fs n h → h j = false
  | 0, _, j, hl => by simp [fs] at hl
  | n + 1, h, j, hl => by
    simp only [fs] at hl
    by_cases h0 : h 0 = true
    · rw [if_pos h0] at hl; omega
    · rw [if_neg h0] at hl
      cases j with
      | zero => simpa using h0
      | succ j => exact fs_before n (fun j => h (j + 1)) j (by omega)
theorem fs_is (n : Nat) (h : Nat → Bool) (j : Nat) (hj : j < n) (h1 : h j = true) (h2 : ∀ i, i < j → h i = false) : fs n h = j := by
  have a := fs_le n h
  have b := fs_before n h
  have c := fs_at n h
  by_cases e : fs n h < j
  · have := h2 _ e
    rw [c (by omega)] at this; cases this
  · by_cases e2 : j < fs n h
    · rw [b j e2] at h1; cases h1
    · omega
theorem fs_none (n : Nat) (h : Nat → Bool) (h2 : ∀ i, i < n → h i = false) : fs n h = n := by
  have a := fs_le n h
  have c := fs_at n h
  by_cases e : fs n h < n
  · have := h2 _ e
    rw [c e] at this; cases this
  · omega
theorem fs_congr (n : Nat) (h g : Nat → Bool) (e : ∀ j, j < n → h j = g j) : fs n h = fs n g := by
  by_cases hl : fs n g < n
  · refine fs_is n h _ hl ?_ ?_
    · rw [e _ hl]; exact fs_at n g hl
    · intro i hi; rw [e _ (by omega)]; exact fs_before n g i hi
  · have := fs_le n g
    rw [show fs n g = n by omega]
    exact fs_none n h (fun i hi => by rw [e i hi]; exact fs_before n g i (by omega))
theorem ctz_from : ∀ n h, wn n h ≠ 0 → Go.Lib.ctzFrom n (wn n h) = fs n h
  | 0, _, hn => absurd rfl hn
  | n + 1, h, hn => by
    have h2 := Bool.toNat_le (h 0)
    have e1 : wn (n + 1) h % 2 = (h 0).toNat := by simp only [wn]; omega
    have e2 : wn (n + 1) h / 2 = wn n (fun j => h (j + 1)) := by simp only [wn]; omega
    have e3 : wn (n + 1) h = (h 0).toNat + 2 * wn n (fun j => h (j + 1)) := rfl
    unfold Go.Lib.ctzFrom fs
    rw [e1, e2]
    by_cases h0 : h 0 = true
    · rw [if_pos (by rw [h0]; rfl), if_pos h0]
    · have h0' : h 0 = false := by simpa using h0
      rw [if_neg (by rw [h0']; simp), if_neg h0, ctz_from n]
      rw [e3, h0'] at hn
      simp at hn
      omega
theorem ctz_is (h : Nat → Bool) : Go.Lib.ctz 64 (wn 64 h) = fs 64 h := by
  unfold Go.Lib.ctz
  split
  · rename_i e
    exact (fs_none 64 h (fun i hi => wn_zero_iff 64 h e i hi)).symm
  · rename_i e
    exact ctz_from 64 h e
/-- one more than the last, or 0. -/
def ls : Nat → (Nat → Bool) → Nat
  | 0, _ => 0
  | n + 1, h => if h n then n + 1 else ls n h
theorem ls_le : ∀ n h, ls n h ≤ n
  | 0, _ => by simp [ls]
  | n + 1, h => by
    have := ls_le n h
    simp only [ls]; split <;> omega
theorem ls_is : ∀ n h m, m < n → h m = true → (∀ i, m < i → i < n → h i = false) → ls n h = m + 1
  | 0, _, m, hm, _, _ => by omega
  | n + 1, h, m, hm, h1, h2 => by
    simp only [ls]
    by_cases e : m = n
    · subst e; rw [if_pos h1]
    · rw [h2 n (by omega) (by omega)]
      simp
      exact ls_is n h m (by omega) h1 (fun i a b => h2 i a (by omega))
theorem ls_none (n : Nat) (h : Nat → Bool) (h2 : ∀ i, i < n → h i = false) : ls n h = 0 := by
  induction n with
  | zero => rfl
  | succ n ih =>
    simp only [ls]
    rw [h2 n (by omega)]
    simp
    exact ih (fun i hi => h2 i (by omega))
theorem ls_at : ∀ n h, 0 < ls n h → h (ls n h - 1) = true
  | 0, _, hl => by simp [ls] at hl
  | n + 1, h, hl => by
    simp only [ls] at hl ⊢
    by_cases e : h n = true
    · rw [if_pos e]; simpa using e
    · rw [if_neg e] at hl ⊢; exact ls_at n h hl
theorem ls_behind : ∀ n h i, ls n h ≤ i → i < n → h i = false
  | 0, _, i, _, hi => by omega
  | n + 1, h, i, hl, hi => by
    simp only [ls] at hl
    by_cases e : h n = true
    · rw [if_pos e] at hl; omega
    · rw [if_neg e] at hl
      by_cases e2 : i = n
      · subst e2; simpa using e
      · exact ls_behind n h i hl (by omega)
theorem len_is (h : Nat → Bool) (h0 : wn 64 h ≠ 0) : Go.Lib.bitLen (wn 64 h) = ls 64 h := by
  have hl := wn_lt 64 h
  obtain ⟨m, hm⟩ : ∃ m, m = ls 64 h - 1 := ⟨_, rfl⟩
  have hp : 0 < ls 64 h := by
    apply Nat.pos_of_ne_zero
    intro e
    exact h0 (wn_zero 64 h (fun i hi => ls_behind 64 h i (by omega) hi))
  have h1 := ls_at 64 h hp
  have h2 := ls_behind 64 h
  have h3 := ls_le 64 h
  have e1 : 2 ^ m ≤ wn 64 h := by
    apply Nat.ge_two_pow_of_testBit
    rw [wn_bit, hm, h1, decide_eq_true (by omega)]; rfl
  have e2 : wn 64 h < 2 ^ (m + 1) := by
    apply Nat.lt_pow_two_of_testBit
    intro i hi
    rw [wn_bit]
    by_cases e : i < 64
    · rw [h2 i (by omega) e]; simp
    · simp [e]
  rw [Go.Lib.bitLen_shift m _ e1 hl]
  have e3 : wn 64 h / 2 ^ m = 1 := by
    have a1 : 1 ≤ wn 64 h / 2 ^ m := (Nat.le_div_iff_mul_le (Nat.two_pow_pos m)).2 (by omega)
    have a2 : wn 64 h / 2 ^ m < 2 := (Nat.div_lt_iff_lt_mul (Nat.two_pow_pos m)).2 (by rw [Nat.pow_succ] at e2; omega)
    omega
  rw [e3]
  have e4 : Go.Lib.bitLen 1 = 1 := by decide +kernel
  omega

end Go.Proofs.YtffbachgbcefiaaDoor.Plain
