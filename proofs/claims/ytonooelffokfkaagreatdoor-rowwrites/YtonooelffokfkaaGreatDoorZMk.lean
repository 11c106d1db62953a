/-
  Sets of numbers (layer 7): contracts. Condition: the table of trailing zeros.
-/
import Derived.Test.YtonooelffokfkaaGreatDoorZBase
import Derived.Lib.BitFns
import Derived.Lib.TrailingZeros
import Derived.Test.YtonooelffokfkaaGreatDoorProg
import Derived.Shelf.Small.Bits
import Derived.Shelf.Spec.TrailingZeros
import Derived.Laws.Bits128
import Derived.Test.YtonooelffokfkaaGreatDoorRows
import Derived.WalkKit
import Derived.WalkSpells
import Derived.WalkLawsBesides
import Derived.Deep.RegionHeld3
import Derived.Deep.RegionWith
import Derived.Laws.NewBlocks
import Derived.Laws.Rows
import Derived.Laws.Tables
import Derived.Deep.WholeRow
import Derived.Deep.OwnRows
import Derived.Maps.AppendAt
namespace Go.Proofs.YtonooelffokfkaaGreatDoor.Plain

/-! ### a word of bits -/
def wn : Nat → (Nat → Bool) → Nat
  | 0, _ => 0
  | n + 1, h => (h 0).toNat + 2 * wn n (fun j => h (j + 1))
theorem wn_lt : ∀ n h, wn n h < 2 ^ n
  | 0, _ => by simp [wn]
  | n + 1, h => by
    have := wn_lt n (fun j => h (j + 1))
    have h2 := Bool.toNat_le (h 0)
    simp only [wn]; rw [Nat.pow_succ]; omega
theorem wn_congr : ∀ n (h g : Nat → Bool), (∀ j, j < n → h j = g j) → wn n h = wn n g
  | 0, _, _, _ => rfl
  | n + 1, h, g, e => by
    simp only [wn]
    rw [e 0 (by omega), wn_congr n _ _ (fun j hj => e (j + 1) (by omega))]
theorem wn_bit : ∀ n h j, (wn n h).testBit j = (decide (j < n) && h j)
  | 0, _, j => by simp [wn]
  | n + 1, h, 0 => by
    simp only [wn, Nat.testBit_zero]
    cases h 0 <;> simp <;> omega
  | n + 1, h, j + 1 => by
    have e : ((h 0).toNat + 2 * wn n (fun j => h (j + 1))) / 2 = wn n (fun j => h (j + 1)) := by have := Bool.toNat_le (h 0); omega
    simp only [wn]
    rw [Nat.testBit_succ, e, wn_bit n]
    simp
theorem wn_or (n : Nat) (h g : Nat → Bool) : wn n h ||| wn n g = wn n (fun j => h j || g j) := by
  apply Nat.eq_of_testBit_eq
  intro j
  rw [Nat.testBit_or, wn_bit, wn_bit, wn_bit]
  cases decide (j < n) <;> simp
theorem wn_and (n : Nat) (h g : Nat → Bool) : wn n h &&& wn n g = wn n (fun j => h j && g j) := by
  apply Nat.eq_of_testBit_eq
  intro j
  rw [Nat.testBit_and, wn_bit, wn_bit, wn_bit]
  cases decide (j < n) <;> simp
theorem wn_less (h g : Nat → Bool) : wn 64 h &&& (18446744073709551615 - wn 64 g) = wn 64 (fun j => h j && !g j) := by
  apply Nat.eq_of_testBit_eq
  intro j
  have hl := wn_lt 64 g
  rw [Nat.testBit_and, wn_bit, show 18446744073709551615 - wn 64 g = 2 ^ 64 - (wn 64 g + 1) by omega, Nat.testBit_two_pow_sub_succ hl, wn_bit, wn_bit]
  cases decide (j < 64) <;> simp
theorem wn_zero (n : Nat) (h : Nat → Bool) (e : ∀ j, j < n → h j = false) : wn n h = 0 := by
  apply Nat.eq_of_testBit_eq
  intro j
  rw [wn_bit, Nat.zero_testBit]
  by_cases hj : j < n
  · simp [e j hj]
  · simp [hj]
theorem wn_zero_iff (n : Nat) (h : Nat → Bool) (e : wn n h = 0) (j : Nat) (hj : j < n) : h j = false := by
  have := wn_bit n h j
  rw [e, Nat.zero_testBit, decide_eq_true hj] at this
  simpa using this.symm
theorem wn_inj (n : Nat) (h g : Nat → Bool) (e : wn n h = wn n g) (j : Nat) (hj : j < n) : h j = g j := by
  have h1 := wn_bit n h j
  have h2 := wn_bit n g j
  rw [e, decide_eq_true hj] at h1
  rw [decide_eq_true hj] at h2
  simpa using h1.symm.trans h2
theorem wn_one (i : Nat) (hi : i < 64) : wn 64 (fun j => decide (j = i)) = 2 ^ i := by
  apply Nat.eq_of_testBit_eq
  intro j
  rw [wn_bit, Nat.testBit_two_pow]
  by_cases h : j = i
  · subst h; simp [hi]
  · simp [h]; omega
theorem wn_below (i : Nat) (hi : i ≤ 64) : wn 64 (fun j => decide (j < i)) = 2 ^ i - 1 := by
  apply Nat.eq_of_testBit_eq
  intro j
  rw [wn_bit, Nat.testBit_two_pow_sub_one]
  by_cases h : j < i
  · simp [h]; omega
  · simp [h]
/-- the word k of a set. -/
def wd (f : Nat → Bool) (k : Nat) : Nat := wn 64 (fun j => f (64 * k + j))
theorem wd_congr (f g : Nat → Bool) (h : ∀ i, i < 256 → f i = g i) (k : Nat) (hk : k < 4) : wd f k = wd g k := wn_congr 64 _ _ (fun j hj => h _ (by omega))
theorem wd_inj (f g : Nat → Bool) (h : ∀ k, k < 4 → wd f k = wd g k) (i : Nat) (hi : i < 256) : f i = g i := by
  have := wn_inj 64 _ _ (h (i / 64) (by omega)) (i % 64) (by omega)
  simpa [show 64 * (i / 64) + i % 64 = i by omega] using this
/-- the numbers of a set of four words. -/
def b4 (a b c d : Nat) (i : Nat) : Bool := (if i < 64 then a else if i < 128 then b else if i < 192 then c else d).testBit (i % 64)

/-! ### how many -/
def cn : Nat → (Nat → Bool) → Nat
  | 0, _ => 0
  | n + 1, h => (h 0).toNat + cn n (fun j => h (j + 1))
theorem cn_congr : ∀ n (h g : Nat → Bool), (∀ j, j < n → h j = g j) → cn n h = cn n g
  | 0, _, _, _ => rfl
  | n + 1, h, g, e => by
    simp only [cn]
    rw [e 0 (by omega), cn_congr n _ _ (fun j hj => e (j + 1) (by omega))]
theorem cn_le : ∀ n h, cn n h ≤ n
  | 0, _ => by simp [cn]
  | n + 1, h => by
    have := cn_le n (fun j => h (j + 1))
    have h2 := Bool.toNat_le (h 0)
    simp only [cn]; omega
theorem cn_add : ∀ n m h, cn (n + m) h = cn n h + cn m (fun j => h (n + j))
  | 0, m, h => by simp [cn]
  | n + 1, m, h => by
    rw [show n + 1 + m = n + m + 1 by omega]
    simp only [cn]
    rw [cn_add n m]
    rw [show (fun j => h (n + j + 1)) = fun j => h (n + 1 + j) from funext fun j => by congr 1; omega]
    omega
theorem cn_words (f : Nat → Bool) (k : Nat) : cn (64 * (k + 1)) f = cn (64 * k) f + cn 64 (fun j => f (64 * k + j)) := by
  rw [show 64 * (k + 1) = 64 * k + 64 by omega, cn_add]

/-! ### bits of a word counted -/
def oc1 (x : Nat) : Nat := (x / 2 &&& 6148914691236517205) + (x &&& 6148914691236517205)
def oc2 (x : Nat) : Nat := (x / 4 &&& 3689348814741910323) + (x &&& 3689348814741910323)
def oc3 (x : Nat) : Nat := (x / 16 + x) &&& 1085102592571150095
def f1 (b : Nat) : Nat := (b / 2 &&& 85) + (b &&& 85)
def f2 (b : Nat) : Nat := (b / 4 &&& 51) + (b &&& 51)
def f3 (b : Nat) : Nat := (f2 (f1 b) / 16 + f2 (f1 b)) % 16
theorem lm_add (f g : Nat → Nat) : ∀ n x, lm f n x + lm g n x = lm (fun b => f b + g b) n x
  | 0, _ => rfl
  | n + 1, x => by simp only [lm]; rw [← lm_add f g n]; omega
theorem id_and (k : Nat) (hk : k < 256) : ∀ n x, x &&& rep k n = lm (fun b => b &&& k) n x
  | 0, _ => by simp [lm, rep]
  | n + 1, x => by
    simp only [lm, rep]
    conv => lhs; rw [show x = x % 256 + 256 * (x / 256) by omega]
    rw [and_cons _ _ _ _ (Nat.mod_lt _ (by omega)) hk, id_and k hk n]
theorem half_and : ∀ n x, x / 2 &&& rep 85 n = lm (fun b => b / 2 &&& 85) n x
  | 0, _ => by simp [lm, rep]
  | n + 1, x => by
    have key : ∀ a, a < 256 → ∀ c, c < 2 → ((a / 2 + 128 * c) &&& 85) = (a / 2 &&& 85) := by decide +kernel
    have hl := Nat.mod_lt x (by omega : 256 > 0)
    simp only [lm, rep]
    rw [show x / 2 = (x % 256 / 2 + 128 * (x / 256 % 2)) + 256 * (x / 256 / 2) by omega, and_cons _ _ _ _ (by omega) (by omega), key _ hl _ (by omega), half_and n]
theorem quart_and : ∀ n x, x / 4 &&& rep 51 n = lm (fun b => b / 4 &&& 51) n x
  | 0, _ => by simp [lm, rep]
  | n + 1, x => by
    have key : ∀ a, a < 256 → ∀ c, c < 4 → ((a / 4 + 64 * c) &&& 51) = (a / 4 &&& 51) := by decide +kernel
    have hl := Nat.mod_lt x (by omega : 256 > 0)
    simp only [lm, rep]
    rw [show x / 4 = (x % 256 / 4 + 64 * (x / 256 % 4)) + 256 * (x / 256 / 4) by omega, and_cons _ _ _ _ (by omega) (by omega), key _ hl _ (by omega), quart_and n]
theorem oc1_lm (x : Nat) : oc1 x = lm f1 8 x := by
  unfold oc1
  rw [show (6148914691236517205 : Nat) = rep 85 8 by decide +kernel, half_and, id_and 85 (by omega), lm_add]
  rfl
theorem oc2_lm (x : Nat) : oc2 x = lm f2 8 x := by
  unfold oc2
  rw [show (3689348814741910323 : Nat) = rep 51 8 by decide +kernel, quart_and, id_and 51 (by omega), lm_add]
  rfl
theorem nib_and {g : Nat → Nat} (hg : ∀ b, b < 256 → g b < 256 ∧ g b % 16 ≤ 4 ∧ g b / 16 ≤ 4) : ∀ n x, (lm g n x / 16 + lm g n x) &&& rep 15 n = lm (fun b => (g b / 16 + g b) % 16) n x
  | 0, _ => by simp [lm, rep]
  | n + 1, x => by
    have ih := nib_and hg n (x / 256)
    obtain ⟨h1, h2, h3⟩ := hg _ (Nat.mod_lt x (by omega : 256 > 0))
    have hn : lm g n (x / 256) % 16 ≤ 4 := by
      cases n with
      | zero => simp [lm]
      | succ n =>
        obtain ⟨_, h5, _⟩ := hg _ (Nat.mod_lt (x / 256) (by omega : 256 > 0))
        simp only [lm]; omega
    have key : ∀ a, a < 256 → (a &&& 15) = a % 16 := by decide +kernel
    simp only [lm, rep]
    generalize g (x % 256) = b at *
    generalize lm g n (x / 256) = y at *
    rw [show (b + 256 * y) / 16 + (b + 256 * y) = (b / 16 + 16 * (y % 16) + b) + 256 * (y / 16 + y) by omega, and_cons _ _ _ _ (by omega) (by omega), key _ (by omega), ih]
    congr 1
    omega
theorem f21_ok : ∀ b, b < 256 → f2 (f1 b) < 256 ∧ f2 (f1 b) % 16 ≤ 4 ∧ f2 (f1 b) / 16 ≤ 4 := by decide +kernel
theorem f1_lt : ∀ b, b < 256 → f1 b < 256 := by decide +kernel
theorem f3_is : ∀ b, b < 256 → f3 b = cn 8 b.testBit := by decide +kernel
theorem f3_le (b : Nat) (h : b < 256) : f3 b ≤ 8 := by rw [f3_is b h]; exact cn_le 8 _
theorem oc3_lm (x : Nat) : oc3 (oc2 (oc1 x)) = lm f3 8 x := by
  rw [oc1_lm, oc2_lm, lm_lm f1_lt]
  unfold oc3
  rw [show (1085102592571150095 : Nat) = rep 15 8 by decide +kernel, nib_and f21_ok]
  rfl
theorem cn_byte (n x : Nat) : cn (8 + n) x.testBit = cn 8 (x % 256).testBit + cn n (x / 256).testBit := by
  rw [cn_add]
  congr 1
  · exact cn_congr 8 _ _ (fun j hj => by rw [show 256 = 2 ^ 8 from rfl, Nat.testBit_mod_two_pow]; simp [hj])
  · exact cn_congr n _ _ (fun j hj => by rw [show 256 = 2 ^ 8 from rfl, Nat.testBit_div_two_pow]; congr 1; omega)
def oc (x : Nat) : Nat :=
  let p := oc3 (oc2 (oc1 x))
  let q := p + p / 256
  let r := q + q / 65536
  (r + r / 4294967296) % 128
theorem lm_le {f : Nat → Nat} (k : Nat) (h : ∀ b, b < 256 → f b ≤ k) : ∀ n x, lm f n x ≤ rep k n
  | 0, _ => by simp [lm, rep]
  | n + 1, x => by
    have h1 := h _ (Nat.mod_lt x (by omega : 256 > 0))
    have h2 := lm_le k h n (x / 256)
    simp only [lm, rep]; omega
theorem oc_le (x : Nat) : oc1 x ≤ 12297829382473034410 ∧ oc2 (oc1 x) ≤ 4919131752989213764 ∧ oc3 (oc2 (oc1 x)) ≤ 578721382704613384 := by
  refine ⟨?_, ?_, ?_⟩
  · rw [oc1_lm]; exact Nat.le_trans (lm_le 170 (by decide +kernel) 8 x) (by decide +kernel)
  · rw [oc1_lm, oc2_lm, lm_lm f1_lt]; exact Nat.le_trans (lm_le 68 (by decide +kernel) 8 x) (by decide +kernel)
  · rw [oc3_lm]; exact Nat.le_trans (lm_le 8 f3_le 8 x) (by decide +kernel)
theorem oc_is (x : Nat) (hx : x < 18446744073709551616) : oc x = cn 64 x.testBit := by
  have e : cn 64 x.testBit = cn 8 (x % 256).testBit + (cn 8 (x / 256 % 256).testBit + (cn 8 (x / 256 / 256 % 256).testBit + (cn 8 (x / 256 / 256 / 256 % 256).testBit + (cn 8 (x / 256 / 256 / 256 / 256 % 256).testBit + (cn 8 (x / 256 / 256 / 256 / 256 / 256 % 256).testBit + (cn 8 (x / 256 / 256 / 256 / 256 / 256 / 256 % 256).testBit + (cn 8 (x / 256 / 256 / 256 / 256 / 256 / 256 / 256 % 256).testBit))))))) := by
    rw [cn_byte 56, cn_byte 48, cn_byte 40, cn_byte 32, cn_byte 24, cn_byte 16, cn_byte 8, show x / 256 / 256 / 256 / 256 / 256 / 256 / 256 % 256 = x / 256 / 256 / 256 / 256 / 256 / 256 / 256 by omega]
  rw [e]
  unfold oc
  rw [oc3_lm]
  simp only [lm]
  have hb : ∀ y : Nat, y % 256 < 256 := fun y => Nat.mod_lt _ (by omega)
  rw [← f3_is _ (hb _), ← f3_is _ (hb _), ← f3_is _ (hb _), ← f3_is _ (hb _), ← f3_is _ (hb _), ← f3_is _ (hb _), ← f3_is _ (hb _), ← f3_is _ (hb _)]
  have l0 := f3_le _ (hb x)
  have l1 := f3_le _ (hb (x / 256))
  have l2 := f3_le _ (hb (x / 256 / 256))
  have l3 := f3_le _ (hb (x / 256 / 256 / 256))
  have l4 := f3_le _ (hb (x / 256 / 256 / 256 / 256))
  have l5 := f3_le _ (hb (x / 256 / 256 / 256 / 256 / 256))
  have l6 := f3_le _ (hb (x / 256 / 256 / 256 / 256 / 256 / 256))
  have l7 := f3_le _ (hb (x / 256 / 256 / 256 / 256 / 256 / 256 / 256))
  revert l0 l1 l2 l3 l4 l5 l6 l7
  generalize f3 (x % 256) = c0
  generalize f3 (x / 256 % 256) = c1
  generalize f3 (x / 256 / 256 % 256) = c2
  generalize f3 (x / 256 / 256 / 256 % 256) = c3
  generalize f3 (x / 256 / 256 / 256 / 256 % 256) = c4
  generalize f3 (x / 256 / 256 / 256 / 256 / 256 % 256) = c5
  generalize f3 (x / 256 / 256 / 256 / 256 / 256 / 256 % 256) = c6
  generalize f3 (x / 256 / 256 / 256 / 256 / 256 / 256 / 256 % 256) = c7
  intro l0 l1 l2 l3 l4 l5 l6 l7
  obtain ⟨q7, h7⟩ : ∃ q, q = c7 + 256 * 0 := ⟨_, rfl⟩
  rw [← h7]
  obtain ⟨q6, h6⟩ : ∃ q, q = c6 + 256 * q7 := ⟨_, rfl⟩
  rw [← h6]
  obtain ⟨q5, h5⟩ : ∃ q, q = c5 + 256 * q6 := ⟨_, rfl⟩
  rw [← h5]
  obtain ⟨q4, h4⟩ : ∃ q, q = c4 + 256 * q5 := ⟨_, rfl⟩
  rw [← h4]
  obtain ⟨q3, h3⟩ : ∃ q, q = c3 + 256 * q4 := ⟨_, rfl⟩
  rw [← h3]
  obtain ⟨q2, h2⟩ : ∃ q, q = c2 + 256 * q3 := ⟨_, rfl⟩
  rw [← h2]
  obtain ⟨q1, h1⟩ : ∃ q, q = c1 + 256 * q2 := ⟨_, rfl⟩
  rw [← h1]
  obtain ⟨q0, h0⟩ : ∃ q, q = c0 + 256 * q1 := ⟨_, rfl⟩
  rw [← h0]
  have d1 : q0 / 256 = q1 := by omega
  have d2 : (q0 + q1) / 65536 = q2 + q3 := by omega
  have d3 : (q0 + q1 + (q2 + q3)) / 4294967296 = q4 + q5 + q6 + q7 := by omega
  simp only [d1, d2, d3]
  omega

/-! ### the first and the last -/
def fs : Nat → (Nat → Bool) → Nat
  | 0, _ => 0
  | n + 1, h => if h 0 then 0 else 1 + fs n (fun j => h (j + 1))
theorem fs_le : ∀ n h, fs n h ≤ n
  | 0, _ => by simp [fs]
  | n + 1, h => by
    have := fs_le n (fun j => h (j + 1))
    simp only [fs]; split <;> omega
theorem fs_at : ∀ n h, fs n h < n → h (fs n h) = true
  | 0, _, hl => by simp [fs] at hl
  | n + 1, h, hl => by
    simp only [fs] at hl ⊢
    by_cases h0 : h 0 = true
    · rw [if_pos h0]; exact h0
    · rw [if_neg h0] at hl ⊢
      have := fs_at n (fun j => h (j + 1)) (by omega)
      rw [Nat.add_comm]; exact this
theorem fs_before : ∀ n h j, j < fs n h → h j = false
  | 0, _, j, hl => by simp [fs] at hl
  | n + 1, h, j, hl => by
    simp only [fs] at hl
    by_cases h0 : h 0 = true
    · rw [if_pos h0] at hl; omega
    · rw [if_neg h0] at hl
      cases j with
      | zero => simpa using h0
      | succ j => exact fs_before n (fun j => h (j + 1)) j (by omega)
theorem fs_is (n : Nat) (h : Nat → Bool) (j : Nat) (hj : j < n) (h1 : h j = true) (h2 : ∀ i, i < j → h i = false) : fs n h = j := by
  have a := fs_le n h
  have b := fs_before n h
  have c := fs_at n h
  by_cases e : fs n h < j
  · have := h2 _ e
    rw [c (by omega)] at this; cases this
  · by_cases e2 : j < fs n h
    · rw [b j e2] at h1; cases h1
    · omega
theorem fs_none (n : Nat) (h : Nat → Bool) (h2 : ∀ i, i < n → h i = false) : fs n h = n := by
  have a := fs_le n h
  have c := fs_at n h
  by_cases e : fs n h < n
  · have := h2 _ e
    rw [c e] at this; cases this
  · omega
theorem ctz_from : ∀ n h, wn n h ≠ 0 → Go.Lib.ctzFrom n (wn n h) = fs n h
  | 0, _, hn => absurd rfl hn
  | n + 1, h, hn => by
    have h2 := Bool.toNat_le (h 0)
    have e1 : wn (n + 1) h % 2 = (h 0).toNat := by simp only [wn]; omega
    have e2 : wn (n + 1) h / 2 = wn n (fun j => h (j + 1)) := by simp only [wn]; omega
    have e3 : wn (n + 1) h = (h 0).toNat + 2 * wn n (fun j => h (j + 1)) := rfl
    unfold Go.Lib.ctzFrom fs
    rw [e1, e2]
    by_cases h0 : h 0 = true
    · rw [if_pos (by rw [h0]; rfl), if_pos h0]
    · have h0' : h 0 = false := by simpa using h0
      rw [if_neg (by rw [h0']; simp), if_neg h0, ctz_from n]
      rw [e3, h0'] at hn
      simp at hn
      omega
theorem ctz_is (h : Nat → Bool) : Go.Lib.ctz 64 (wn 64 h) = fs 64 h := by
  unfold Go.Lib.ctz
  split
  · rename_i e
    exact (fs_none 64 h (fun i hi => wn_zero_iff 64 h e i hi)).symm
  · rename_i e
    exact ctz_from 64 h e
/-- one more than the last, or 0. -/
def ls : Nat → (Nat → Bool) → Nat
  | 0, _ => 0
  | n + 1, h => if h n then n + 1 else ls n h

end Go.Proofs.YtonooelffokfkaaGreatDoor.Plain

namespace Go.Proofs.YtonooelffokfkaaGreatDoor.Plain

/-! ### all numbers below n, rising -/
def fl : Nat → (Nat → Bool) → List Nat
  | 0, _ => []
  | n + 1, f => if f n then fl n f ++ [n] else fl n f
theorem fl_congr : ∀ n (f g : Nat → Bool), (∀ j, j < n → f j = g j) → fl n f = fl n g
  | 0, _, _, _ => rfl
  | n + 1, f, g, e => by
    simp only [fl]
    rw [e n (by omega), fl_congr n f g (fun j hj => e j (by omega))]
theorem fl_len : ∀ n f, (fl n f).length = cn n f
  | 0, _ => rfl
  | n + 1, f => by
    rw [cn_add n 1]
    simp only [fl, cn]
    by_cases h : f n = true
    · rw [if_pos h, List.length_append, fl_len n f, show n + 0 = n from rfl, h]; rfl
    · have h' : f n = false := by simpa using h
      rw [if_neg h, fl_len n f, show n + 0 = n from rfl, h']; rfl
theorem fl_le (n : Nat) (f : Nat → Bool) : (fl n f).length ≤ n := by rw [fl_len]; exact cn_le n f
theorem fl_mem : ∀ n f i, i ∈ fl n f ↔ i < n ∧ f i = true
  | 0, _, i => by simp [fl]
  | n + 1, f, i => by
    simp only [fl]
    by_cases h : f n = true
    · rw [if_pos h, List.mem_append, fl_mem n f i]
      constructor
      · rintro (⟨a, b⟩ | a)
        · exact ⟨by omega, b⟩
        · obtain rfl : i = n := by simpa using a
          exact ⟨by omega, h⟩
      · rintro ⟨a, b⟩
        by_cases e : i = n
        · exact .inr (by simp [e])
        · exact .inl ⟨by omega, b⟩
    · rw [if_neg h, fl_mem n f i]
      constructor
      · rintro ⟨a, b⟩
        exact ⟨by omega, b⟩
      · rintro ⟨a, b⟩
        refine ⟨?_, b⟩
        by_cases e : i = n
        · subst e; exact absurd b h
        · omega
theorem fl_skip (f : Nat → Bool) (a : Nat) : ∀ d, (∀ j, a ≤ j → j < a + d → f j = false) → fl (a + d) f = fl a f
  | 0, _ => rfl
  | d + 1, h => by
    rw [show a + (d + 1) = a + d + 1 by omega]
    simp only [fl]
    rw [h (a + d) (by omega) (by omega)]
    simp
    exact fl_skip f a d (fun j h1 h2 => h j h1 (by omega))
theorem fl_skip' (f : Nat → Bool) (a b : Nat) (hab : a ≤ b) (h : ∀ j, a ≤ j → j < b → f j = false) : fl b f = fl a f := by
  obtain ⟨d, rfl⟩ : ∃ d, b = a + d := ⟨b - a, by omega⟩
  exact fl_skip f a d h
/-- all numbers of a list as a set. -/
def inL (l : List Int) (i : Nat) : Bool := l.any fun x => x == (i : Int)
theorem inL_app (l : List Int) (x : Int) (i : Nat) : inL (l ++ [x]) i = (inL l i || (x == (i : Int))) := by unfold inL; rw [List.any_append]; simp
theorem inL_fl (n : Nat) (f : Nat → Bool) (i : Nat) (hi : i < n) : inL ((fl n f).map Int.ofNat) i = f i := by
  unfold inL
  rw [List.any_map]
  by_cases h : f i = true
  · rw [h, List.any_eq_true]
    exact ⟨i, (fl_mem n f i).2 ⟨hi, h⟩, by simp⟩
  · have h' : f i = false := by simpa using h
    rw [h', List.any_eq_false]
    intro x hx
    have := (fl_mem n f x).1 hx
    intro e
    have e' : x = i := by have h5 := eq_of_beq e; exact Int.ofNat.inj h5
    subst e'
    exact h this.2


end Go.Proofs.YtonooelffokfkaaGreatDoor.Plain

namespace Go.Proofs
open Go.Shelf
def Tryz.lays7x29_ren : Go.Shelf.Ren := ⟨fun | 29 => 186 | n => n, fun | 22 => 113 | 3 => 3 | 4 => 4 | 25 => 60 | 54 => 163 | 0 => 0 | 5 => 5 | n => n, fun | 1 => 0 | n => n⟩
theorem Tryz.lays7x29 : Go.Proofs.Lays7.n29 Tryz.prog Tryz.lays7x29_ren := {
  mixed := by kernel_rfl
  f29 := Tryz.func186.trans (congrArg some (by kernel_rfl))
  t0 := Tryz.underlying0
  a0 := Tryz.isAgg0
  z0 := Tryz.sizeOf0
  v0 := Tryz.zeroValue0
  i0 := by kernel_rfl
  t3 := Tryz.underlying3
  a3 := Tryz.isAgg3
  z3 := Tryz.sizeOf3
  v3 := Tryz.zeroValue3
  i3 := by kernel_rfl
  t4 := Tryz.underlying4
  a4 := Tryz.isAgg4
  z4 := Tryz.sizeOf4
  v4 := Tryz.zeroValue4
  i4 := by kernel_rfl
  t5 := Tryz.underlying5
  a5 := Tryz.isAgg5
  z5 := Tryz.sizeOf5
  v5 := Tryz.zeroValue5
  i5 := by kernel_rfl
  t22 := Tryz.underlying113
  a22 := Tryz.isAgg113
  z22 := Tryz.sizeOf113
  v22 := Tryz.zeroValue113
  i22 := by kernel_rfl
  t25 := Tryz.underlying60
  a25 := Tryz.isAgg60
  z25 := Tryz.sizeOf60
  v25 := Tryz.zeroValue60
  i25 := by kernel_rfl
  t54 := Tryz.underlying163
  a54 := Tryz.isAgg163
  z54 := Tryz.sizeOf163
  g1 := by kernel_rfl }
end Go.Proofs
namespace Go.Proofs.YtonooelffokfkaaGreatDoor
open Go.RowKit Plain

/-- the library's table, in its variable. -/
def Tab (w : World) : Prop := TabAt 0 Lib.deBruijn64tab w
theorem Tab.kp {w w' : World} (h : Tab w) (k : Kp w w') : Tab w' := fun j hj => k.held (h j hj)
theorem tz_any (h : Nat → Bool) (w : World) (hT : Tab w) : Calls Tryz.prog 186 #[.int .u64 (wn 64 h : Nat)] w fun e w' => e = .returned (.int .i64 (fs 64 h : Nat)) ∧ w' = w := by
  have H := Any7.bits_TrailingZeros64 Tryz.lays7x29 (wn 64 h) (wn_lt 64 h) w (fun _ => hT)
  rw [ctz_is h] at H
  exact H
theorem oc_int1 (x : Nat) (hx : x < 18446744073709551616) : IntKind.u64.wrap (bits .and .u64 ((x : Int) / 2) 6148914691236517205 + bits .and .u64 (x : Int) 6148914691236517205) = (oc1 x : Int) := by
  have h1 := and64 (x / 2) 6148914691236517205 (by omega) (by omega)
  have h2 := and64 x 6148914691236517205 hx (by omega)
  have hl := (oc_le x).1
  rw [show ((x / 2 : Nat) : Int) = (x : Int) / 2 by omega] at h1
  rw [show ((6148914691236517205 : Nat) : Int) = 6148914691236517205 from rfl] at h1 h2
  unfold oc1 at hl ⊢
  rw [h1, h2, IntKind.wrap_u64]
  omega
theorem oc_int2 (x : Nat) (hx : x < 18446744073709551616) (hl : oc2 x < 18446744073709551616) : IntKind.u64.wrap (bits .and .u64 ((x : Int) / 4) 3689348814741910323 + bits .and .u64 (x : Int) 3689348814741910323) = (oc2 x : Int) := by
  have h1 := and64 (x / 4) 3689348814741910323 (by omega) (by omega)
  have h2 := and64 x 3689348814741910323 hx (by omega)
  rw [show ((x / 4 : Nat) : Int) = (x : Int) / 4 by omega] at h1
  rw [show ((3689348814741910323 : Nat) : Int) = 3689348814741910323 from rfl] at h1 h2
  unfold oc2 at hl ⊢
  rw [h1, h2, IntKind.wrap_u64]
  omega
theorem oc_int3 (x : Nat) (hx : x / 16 + x < 18446744073709551616) : bits .and .u64 ((x : Int) / 16 + (x : Int)) 1085102592571150095 = (oc3 x : Int) := by
  have h1 := and64 (x / 16 + x) 1085102592571150095 hx (by omega)
  rw [show ((x : Int) / 16 + (x : Int)) = ((x / 16 + x : Nat) : Int) by omega]
  exact h1
set_option maxHeartbeats 1000000 in
theorem ones_any (h : Nat → Bool) (w : World) : Calls Tryz.prog 185 #[.int .u64 (wn 64 h : Nat)] w fun e w' => e = .returned (.int .i64 (cn 64 h : Nat)) ∧ w' = w := by
  have hx := wn_lt 64 h
  have hr : cn 64 h = oc (wn 64 h) := by
    rw [oc_is _ hx]
    exact cn_congr 64 _ _ (fun j hj => by rw [wn_bit, decide_eq_true hj]; rfl)
  rw [hr]
  clear hr
  generalize wn 64 h = x at hx
  obtain ⟨l1, l2, l3⟩ := oc_le x
  have e1 := oc_int1 x hx
  have e2 := oc_int2 (oc1 x) (by omega) (by omega)
  have e3 := oc_int3 (oc2 (oc1 x)) (by omega)
  have HO : Hid (oc x = (let p := oc3 (oc2 (oc1 x)); let q := p + p / 256; let r := q + q / 65536; (r + r / 4294967296) % 128)) := rfl
  generalize oc x = z at HO
  generalize hp : oc3 (oc2 (oc1 x)) = p at HO l3 e3
  generalize hp2 : oc2 (oc1 x) = p2 at l2 e2 e3
  generalize hp1 : oc1 x = p1 at l1 e1 e2
  clear hp hp2 hp1
  have HZ : Hid (z = (p + p / 256 + (p + p / 256) / 65536 + (p + p / 256 + (p + p / 256) / 65536) / 4294967296) % 128) := HO.out
  clear HO
  have e4 : IntKind.u64.wrap ((p : Int) + (p : Int) / 256) = ((p + p / 256 : Nat) : Int) := by rw [IntKind.wrap_u64]; omega
  have l4 : p + p / 256 ≤ 2305843009213693952 := by omega
  generalize p + p / 256 = q at HZ e4 l4
  have e5 : IntKind.u64.wrap ((q : Int) + (q : Int) / 65536) = ((q + q / 65536 : Nat) : Int) := by rw [IntKind.wrap_u64]; omega
  have l5 : q + q / 65536 ≤ 4611686018427387904 := by omega
  generalize q + q / 65536 = r at HZ e5 l5
  have e6 : IntKind.u64.wrap ((r : Int) + (r : Int) / 4294967296) = ((r + r / 4294967296 : Nat) : Int) := by rw [IntKind.wrap_u64]; omega
  have l6 : r + r / 4294967296 ≤ 9223372036854775807 := by omega
  generalize r + r / 4294967296 = t at HZ e6 l6
  go_enter Tryz.func185, Tryz.ntmps185
  go_wp2
  go_ret
  exact ⟨ret_int (by rw [HZ.out, i64_and127]; omega), rfl⟩

end Go.Proofs.YtonooelffokfkaaGreatDoor

namespace Go.Proofs.YtonooelffokfkaaGreatDoor
open Go.RowKit Plain

/-- four words. -/
def w4 (v : Nat → Nat) : Array Value := #[.int .u64 (v 0 : Nat), .int .u64 (v 1 : Nat), .int .u64 (v 2 : Nat), .int .u64 (v 3 : Nat)]
/-- a set as a value. -/
def SV (f : Nat → Bool) : Value := .agg #[.int .u64 (wd f 0 : Nat), .int .u64 (wd f 1 : Nat), .int .u64 (wd f 2 : Nat), .int .u64 (wd f 3 : Nat)]
theorem SV_congr {f g : Nat → Bool} (h : ∀ i, i < 256 → f i = g i) : SV f = SV g := by
  unfold SV
  rw [wd_congr f g h 0 (by omega), wd_congr f g h 1 (by omega), wd_congr f g h 2 (by omega), wd_congr f g h 3 (by omega)]
theorem w4_at (v : Nat → Nat) (j : Nat) (hj : j < 4) : (w4 v)[j]? = some (.int .u64 (v j : Nat)) := by
  have h : j = 0 ∨ j = 1 ∨ j = 2 ∨ j = 3 := by omega
  rcases h with rfl | rfl | rfl | rfl <;> rfl
theorem cell_far (w : World) (b c o o' : Nat) (v : Value) (h : b ≠ c) : (w.setCell ⟨c, o, none⟩ v).cell? ⟨b, o', none⟩ = w.cell? ⟨b, o', none⟩ :=
  World.cell?_setCell_other w ⟨c, o, none⟩ ⟨b, o', none⟩ v (fun hh => h (by have := congrArg Addr.block hh; simp at this; omega))
theorem size_set (w : World) (a : Addr) (v : Value) : (w.setCell a v).heap.size = w.heap.size := by simp [World.setCell]

/-- four words at block b. -/
structure A4 (w : World) (b : Nat) (v : Nat → Nat) : Prop where
  lt : b < w.heap.size
  c : ∀ j, j < 4 → w.cell? ⟨b, j, none⟩ = some (.int .u64 (v j : Nat))
  z : ∀ o, w.frozen? ⟨b, o, none⟩ = false
theorem A4.new (w : World) (v : Nat → Nat) (t : TypeId) : A4 (w.alloc (.cells (w4 v) t)) w.heap.size v :=
  ⟨by simp, fun j hj => by rw [World.cell?_alloc_at _ _ _ _ rfl]; exact w4_at v j hj, fun o => by rw [frozen?_alloc_cells]; simp [World.frozen?]⟩
theorem A4.of_block {w w' : World} {b : Nat} {v : Nat → Nat} (h : A4 w b v) (hk : w'.heap[b]? = w.heap[b]?) (hs : w.heap.size ≤ w'.heap.size) : A4 w' b v :=
  ⟨Nat.lt_of_lt_of_le h.lt hs, fun j hj => (World.cell?_of_block (w := w) (a := ⟨b, j, none⟩) hk).trans (h.c j hj), fun o => (World.frozen?_of_block (w := w) (a := ⟨b, o, none⟩) hk).trans (h.z o)⟩
theorem A4.kept {w w' : World} {b : Nat} {v : Nat → Nat} (h : A4 w b v) (k : Kp w w') : A4 w' b v := h.of_block (k.block b h.lt) k.size
theorem A4.drew {w : World} {b : Nat} {v : Nat → Nat} (h : A4 w b v) : A4 w.drew b v := h.kept (Kp.refl w).drew
theorem A4.alloc {w : World} {b : Nat} {v : Nat → Nat} (h : A4 w b v) (o : Obj) : A4 (w.alloc o) b v := h.kept ((Kp.refl w).alloc o)
theorem A4.far {w : World} {b c : Nat} {v : Nat → Nat} (h : A4 w b v) (hb : b ≠ c) (o : Nat) (x : Value) : A4 (w.setCell ⟨c, o, none⟩ x) b v :=
  ⟨by rw [size_set]; exact h.lt, fun j hj => (cell_far _ _ _ _ _ _ hb).trans (h.c j hj), fun o' => (World.frozen?_setCell _ _ _ _).trans (h.z o')⟩
def upd (f : Nat → Nat) (k v i : Nat) : Nat := if i = k then v else f i
theorem A4.set {w : World} {b : Nat} {v : Nat → Nat} (h : A4 w b v) (k x : Nat) (hk : k < 4) : A4 (w.setCell ⟨b, k, none⟩ (.int .u64 (x : Nat))) b (upd v k x) := by
  refine ⟨by rw [size_set]; exact h.lt, fun j hj => ?_, fun o => (World.frozen?_setCell _ _ _ _).trans (h.z o)⟩
  unfold upd
  by_cases e : j = k
  · subst e; rw [if_pos rfl]; exact World.cell?_setCell_same _ _ _ (h.c j hj)
  · rw [if_neg e, cell_off _ _ _ _ _ e]; exact h.c j hj
theorem A4.congr {w : World} {b : Nat} {v u : Nat → Nat} (h : A4 w b v) (e : ∀ j, j < 4 → v j = u j) : A4 w b u := ⟨h.lt, fun j hj => by rw [← e j hj]; exact h.c j hj, h.z⟩

/-- w behind a store of four words. -/
def put4 (w : World) (b : Nat) (v : Nat → Nat) : World := (((w.setCell ⟨b, 0, none⟩ (.int .u64 (v 0 : Nat))).setCell ⟨b, 1, none⟩ (.int .u64 (v 1 : Nat))).setCell ⟨b, 2, none⟩ (.int .u64 (v 2 : Nat))).setCell ⟨b, 3, none⟩ (.int .u64 (v 3 : Nat))
theorem A4.put {w : World} {b : Nat} {u : Nat → Nat} (h : A4 w b u) (v : Nat → Nat) : A4 (put4 w b v) b v := by
  refine ((((h.set 0 (v 0) (by omega)).set 1 (v 1) (by omega)).set 2 (v 2) (by omega)).set 3 (v 3) (by omega)).congr fun j hj => ?_
  have h : j = 0 ∨ j = 1 ∨ j = 2 ∨ j = 3 := by omega
  rcases h with rfl | rfl | rfl | rfl <;> rfl
theorem A4.putFar {w : World} {b c : Nat} {u : Nat → Nat} (h : A4 w b u) (hb : b ≠ c) (v : Nat → Nat) : A4 (put4 w c v) b u := (((h.far hb _ _).far hb _ _).far hb _ _).far hb _ _
theorem Kp.put4 {a b : World} (h : Kp a b) {c : Nat} (hc : a.heap.size ≤ c) (v : Nat → Nat) : Kp a (put4 b c v) := (((h.set c _ hc _).set c _ hc _).set c _ hc _).set c _ hc _
theorem load_a4 {P : Program} {w : World} {b : Nat} {v : Nat → Nat} (h : A4 w b v) (ty e : TypeId) (hu : P.underlying ty = some (.array 4 e)) (hi : (P.info? ty).map (·.size) = some 4) :
    (loadVar ty ⟨b, 0, none⟩).run P w = .ok (.agg (w4 v)) w := by
  have hl : (loadCells ⟨b, 0, none⟩ (w4 v).toList.length).run P w = .ok (w4 v).toList.toArray w :=
    run_loadCells_list (P := P) w ⟨b, 0, none⟩ (w4 v).toList (fun j x hx => by
      have hadd : (⟨b, 0, none⟩ : Addr).add j = ⟨b, j, none⟩ := by unfold Addr.add; split <;> simp_all
      have hj : j < 4 := by
        have := List.getElem?_eq_some_iff.1 hx
        obtain ⟨h1, _⟩ := this
        simpa [w4] using h1
      rw [hadd, h.c j hj]
      rw [Array.getElem?_toList, w4_at v j hj] at hx
      exact hx)
  cases hq : P.info? ty with
  | none => simp [hq] at hi
  | some i =>
    have hs : i.size = 4 := by simpa [hq] using hi
    have hagg : (isAgg ty).run P w = .ok true w := by
      unfold isAgg
      rw [Sem.run_bind, run_underlying hu w]
      rfl
    simp only [Array.length_toList, Array.toArray_toList] at hl
    have h4 : (w4 v).size = 4 := rfl
    rw [h4] at hl
    simp [loadVar, Sem.run_bind, hagg, sizeOf, typeInfo, hq, hs, hl]
theorem size_set' : (Tryz.prog.info? 115).map (·.size) = some 4 := by kernel_rfl
theorem results_set {fn : Func} {p : Tmp} (h : fn.results = #[.cell p 115]) (tmps : Array Value) (w : World) (b : Nat) (v : Nat → Nat) (hp : tmps.getD p undef = .pointer (some ⟨b, 0, none⟩)) (hA : A4 w b v) :
    (results fn tmps).run Tryz.prog w = .ok (.agg (w4 v)) w := by
  have hp' : tmps[p]?.getD undef = .pointer (some ⟨b, 0, none⟩) := by simpa using hp
  simp [results, h, hp', asAddr, load_a4 hA 115 _ Tryz.underlying115 size_set']

end Go.Proofs.YtonooelffokfkaaGreatDoor

namespace Go.Proofs.YtonooelffokfkaaGreatDoor
open Go.RowKit Plain
set_option linter.unusedVariables false

def orF (f g : Nat → Bool) (i : Nat) : Bool := f i || g i
theorem or_int (h g : Nat → Bool) : bits .or .u64 (wn 64 h : Nat) (wn 64 g : Nat) = ((wn 64 (fun j => h j || g j) : Nat) : Int) := by
  rw [u64_or_nat _ _ (wn_lt 64 h) (wn_lt 64 g), wn_or 64]
theorem or_word (f g : Nat → Bool) (k : Nat) : bits .or .u64 (wd f k : Nat) (wd g k : Nat) = ((wd (orF f g) k : Nat) : Int) := or_int _ _
theorem or1_any (x y : Nat) (w : World) : Calls Tryz.prog 168 #[.int .u64 x, .int .u64 y] w fun e w' => e = .returned (.int .u64 (bits .or .u64 x y)) ∧ w' = w := by
  go_enter Tryz.func168, Tryz.ntmps168
  go_wp2
  go_ret
  exact ⟨rfl, rfl⟩
def orK (f g : Nat → Bool) (k j : Nat) : Nat := if j < k then wd (orF f g) j else wd f j
theorem orK_step (f g : Nat → Bool) (k j : Nat) : upd (orK f g k) k (wd (orF f g) k) j = orK f g (k + 1) j := by
  unfold upd orK
  by_cases e : j = k
  · subst e; rw [if_pos rfl, if_pos (by omega)]
  · rw [if_neg e]
    by_cases e2 : j < k
    · rw [if_pos e2, if_pos (by omega)]
    · rw [if_neg e2, if_neg (by omega)]
set_option maxRecDepth 100000 in
set_option maxHeartbeats 2000000 in
theorem orT_any (f g : Nat → Bool) (w : World) : Calls Tryz.prog 135 #[SV f, SV g, .func (.func 168) #[] #[]] w fun e w' => e = .returned (SV (orF f g)) ∧ Kp w w' := by
  have a1 := A4.new w (wd f) 115
  have a2 := A4.new (w.alloc (.cells (w4 (wd f)) 115)) (wd g) 115
  have a3 := A4.new ((w.alloc (.cells (w4 (wd f)) 115)).alloc (.cells (w4 (wd g)) 115)) (fun _ => 0) 115
  have K0 : Kp w (((w.alloc (.cells (w4 (wd f)) 115)).alloc (.cells (w4 (wd g)) 115)).alloc (.cells (w4 (fun _ => 0)) 115)) := (((Kp.refl w).alloc _).alloc _).alloc _
  have b1 := (a1.alloc (.cells (w4 (wd g)) 115)).alloc (.cells (w4 (fun _ => 0)) 115)
  have b2 := a2.alloc (.cells (w4 (fun _ => 0)) 115)
  clear a1 a2
  have e0 : (w.alloc (.cells (w4 (wd f)) 115)).heap.size = w.heap.size + 1 := by simp
  have e1 : ((w.alloc (.cells (w4 (wd f)) 115)).alloc (.cells (w4 (wd g)) 115)).heap.size = w.heap.size + 2 := by simp
  rw [e0] at b2
  rw [e1] at a3
  clear e0 e1
  unfold SV
  go_enter Tryz.func135, Tryz.ntmps135
  go_wp2
  go_loopw [8] (fun i wr => ∃ k : Nat, k ≤ 4 ∧ i = .int .i64 k ∧ A4 wr w.heap.size (orK f g k) ∧ A4 wr (w.heap.size + 1) (wd g) ∧ A4 wr (w.heap.size + 2) (fun _ => 0) ∧ Kp w wr) (fun i _ => 4 - (intOf i).toNat)
  case atStart => exact ⟨0, by omega, rfl, b1.congr (fun j _ => by unfold orK; rw [if_neg (by omega)]), b2, a3, K0⟩
  case round =>
    clear b1 b2 a3 K0
    obtain ⟨k, hk, rfl, h1, h2, h3, hK⟩ := hrel
    by_cases hlt : k < 4
    · have c1 := h1.c k hlt
      rw [show orK f g k k = wd f k by unfold orK; rw [if_neg (by omega)]] at c1
      have c2 := h2.c k hlt
      have z1 := h1.z k
      have hN := or1_any (wd f k) (wd g k) wr.drew
      rw [or_word] at hN
      have HS : Hid (A4 (wr.drew.setCell ⟨w.heap.size, k, none⟩ (.int .u64 (wd (orF f g) k : Nat))) w.heap.size (orK f g (k + 1)) ∧ A4 (wr.drew.setCell ⟨w.heap.size, k, none⟩ (.int .u64 (wd (orF f g) k : Nat))) (w.heap.size + 1) (wd g) ∧ A4 (wr.drew.setCell ⟨w.heap.size, k, none⟩ (.int .u64 (wd (orF f g) k : Nat))) (w.heap.size + 2) (fun _ => 0) ∧ Kp w (wr.drew.setCell ⟨w.heap.size, k, none⟩ (.int .u64 (wd (orF f g) k : Nat)))) :=
        ⟨(h1.drew.set k _ hlt).congr (fun j _ => orK_step f g k j), h2.drew.far (by omega) _ _, h3.drew.far (by omega) _ _, hK.drew.set _ _ (Nat.le_refl _) _⟩
      clear h1 h2 h3 hK
      go_wp2_with fail
      go_region_with (go_at_call 168; refine hN.mono ?_; rintro e wn ⟨rfl, rfl⟩)
      all_goals (go_wp2; go_roundw)
      all_goals first | exact ⟨k + 1, by omega, by go_num, HS.out⟩ | (simp [intOf]; omega)
    · obtain rfl : k = 4 := by omega
      have c0 := h1.c 0 (by omega)
      have c1 := h1.c 1 (by omega)
      have c2 := h1.c 2 (by omega)
      have c3 := h1.c 3 (by omega)
      simp only [orK] at c0 c1 c2 c3
      rw [if_pos (by omega)] at c0 c1 c2 c3
      have d0 := h3.c 0 (by omega)
      have d1 := h3.c 1 (by omega)
      have d2 := h3.c 2 (by omega)
      have d3 := h3.c 3 (by omega)
      have z3 := h3.z
      have HA : Hid (A4 (put4 wr (w.heap.size + 2) (wd (orF f g))) (w.heap.size + 2) (wd (orF f g)) ∧ Kp w (put4 wr (w.heap.size + 2) (wd (orF f g)))) := ⟨h3.put _, hK.put4 (by omega) _⟩
      clear h1 h2 h3 hK
      go_wp2
      refine bodyPost_ret (results_set rfl _ _ (w.heap.size + 2) (wd (orF f g)) rfl HA.out.1) rfl ?_
      exact ⟨rfl, HA.out.2⟩

def andF (f g : Nat → Bool) (i : Nat) : Bool := f i && g i
theorem and_int (h g : Nat → Bool) : bits .and .u64 (wn 64 h : Nat) (wn 64 g : Nat) = ((wn 64 (fun j => h j && g j) : Nat) : Int) := by
  rw [u64_and_nat _ _ (wn_lt 64 h) (wn_lt 64 g), wn_and 64]
theorem and_word (f g : Nat → Bool) (k : Nat) : bits .and .u64 (wd f k : Nat) (wd g k : Nat) = ((wd (andF f g) k : Nat) : Int) := and_int _ _
theorem and1_any (x y : Nat) (w : World) : Calls Tryz.prog 136 #[.int .u64 x, .int .u64 y] w fun e w' => e = .returned (.int .u64 (bits .and .u64 x y)) ∧ w' = w := by
  go_enter Tryz.func136, Tryz.ntmps136
  go_wp2
  go_ret
  exact ⟨rfl, rfl⟩
def andK (f g : Nat → Bool) (k j : Nat) : Nat := if j < k then wd (andF f g) j else wd f j
theorem andK_step (f g : Nat → Bool) (k j : Nat) : upd (andK f g k) k (wd (andF f g) k) j = andK f g (k + 1) j := by
  unfold upd andK
  by_cases e : j = k
  · subst e; rw [if_pos rfl, if_pos (by omega)]
  · rw [if_neg e]
    by_cases e2 : j < k
    · rw [if_pos e2, if_pos (by omega)]
    · rw [if_neg e2, if_neg (by omega)]
set_option maxRecDepth 100000 in
set_option maxHeartbeats 2000000 in
theorem andT_any (f g : Nat → Bool) (w : World) : Calls Tryz.prog 135 #[SV f, SV g, .func (.func 136) #[] #[]] w fun e w' => e = .returned (SV (andF f g)) ∧ Kp w w' := by
  have a1 := A4.new w (wd f) 115
  have a2 := A4.new (w.alloc (.cells (w4 (wd f)) 115)) (wd g) 115
  have a3 := A4.new ((w.alloc (.cells (w4 (wd f)) 115)).alloc (.cells (w4 (wd g)) 115)) (fun _ => 0) 115
  have K0 : Kp w (((w.alloc (.cells (w4 (wd f)) 115)).alloc (.cells (w4 (wd g)) 115)).alloc (.cells (w4 (fun _ => 0)) 115)) := (((Kp.refl w).alloc _).alloc _).alloc _
  have b1 := (a1.alloc (.cells (w4 (wd g)) 115)).alloc (.cells (w4 (fun _ => 0)) 115)
  have b2 := a2.alloc (.cells (w4 (fun _ => 0)) 115)
  clear a1 a2
  have e0 : (w.alloc (.cells (w4 (wd f)) 115)).heap.size = w.heap.size + 1 := by simp
  have e1 : ((w.alloc (.cells (w4 (wd f)) 115)).alloc (.cells (w4 (wd g)) 115)).heap.size = w.heap.size + 2 := by simp
  rw [e0] at b2
  rw [e1] at a3
  clear e0 e1
  unfold SV
  go_enter Tryz.func135, Tryz.ntmps135
  go_wp2
  go_loopw [8] (fun i wr => ∃ k : Nat, k ≤ 4 ∧ i = .int .i64 k ∧ A4 wr w.heap.size (andK f g k) ∧ A4 wr (w.heap.size + 1) (wd g) ∧ A4 wr (w.heap.size + 2) (fun _ => 0) ∧ Kp w wr) (fun i _ => 4 - (intOf i).toNat)
  case atStart => exact ⟨0, by omega, rfl, b1.congr (fun j _ => by unfold andK; rw [if_neg (by omega)]), b2, a3, K0⟩
  case round =>
    clear b1 b2 a3 K0
    obtain ⟨k, hk, rfl, h1, h2, h3, hK⟩ := hrel
    by_cases hlt : k < 4
    · have c1 := h1.c k hlt
      rw [show andK f g k k = wd f k by unfold andK; rw [if_neg (by omega)]] at c1
      have c2 := h2.c k hlt
      have z1 := h1.z k
      have hN := and1_any (wd f k) (wd g k) wr.drew
      rw [and_word] at hN
      have HS : Hid (A4 (wr.drew.setCell ⟨w.heap.size, k, none⟩ (.int .u64 (wd (andF f g) k : Nat))) w.heap.size (andK f g (k + 1)) ∧ A4 (wr.drew.setCell ⟨w.heap.size, k, none⟩ (.int .u64 (wd (andF f g) k : Nat))) (w.heap.size + 1) (wd g) ∧ A4 (wr.drew.setCell ⟨w.heap.size, k, none⟩ (.int .u64 (wd (andF f g) k : Nat))) (w.heap.size + 2) (fun _ => 0) ∧ Kp w (wr.drew.setCell ⟨w.heap.size, k, none⟩ (.int .u64 (wd (andF f g) k : Nat)))) :=
        ⟨(h1.drew.set k _ hlt).congr (fun j _ => andK_step f g k j), h2.drew.far (by omega) _ _, h3.drew.far (by omega) _ _, hK.drew.set _ _ (Nat.le_refl _) _⟩
      clear h1 h2 h3 hK
      go_wp2_with fail
      go_region_with (go_at_call 136; refine hN.mono ?_; rintro e wn ⟨rfl, rfl⟩)
      all_goals (go_wp2; go_roundw)
      all_goals first | exact ⟨k + 1, by omega, by go_num, HS.out⟩ | (simp [intOf]; omega)
    · obtain rfl : k = 4 := by omega
      have c0 := h1.c 0 (by omega)
      have c1 := h1.c 1 (by omega)
      have c2 := h1.c 2 (by omega)
      have c3 := h1.c 3 (by omega)
      simp only [andK] at c0 c1 c2 c3
      rw [if_pos (by omega)] at c0 c1 c2 c3
      have d0 := h3.c 0 (by omega)
      have d1 := h3.c 1 (by omega)
      have d2 := h3.c 2 (by omega)
      have d3 := h3.c 3 (by omega)
      have z3 := h3.z
      have HA : Hid (A4 (put4 wr (w.heap.size + 2) (wd (andF f g))) (w.heap.size + 2) (wd (andF f g)) ∧ Kp w (put4 wr (w.heap.size + 2) (wd (andF f g)))) := ⟨h3.put _, hK.put4 (by omega) _⟩
      clear h1 h2 h3 hK
      go_wp2
      refine bodyPost_ret (results_set rfl _ _ (w.heap.size + 2) (wd (andF f g)) rfl HA.out.1) rfl ?_
      exact ⟨rfl, HA.out.2⟩

def lessF (f g : Nat → Bool) (i : Nat) : Bool := f i && !g i
theorem less_int (h g : Nat → Bool) : bits .andNot .u64 (wn 64 h : Nat) (wn 64 g : Nat) = ((wn 64 (fun j => h j && !g j) : Nat) : Int) := by
  rw [u64_andNot_nat _ _ (wn_lt 64 h) (wn_lt 64 g), wn_less]
theorem less_word (f g : Nat → Bool) (k : Nat) : bits .andNot .u64 (wd f k : Nat) (wd g k : Nat) = ((wd (lessF f g) k : Nat) : Int) := less_int _ _
theorem less1_any (x y : Nat) (w : World) : Calls Tryz.prog 159 #[.int .u64 x, .int .u64 y] w fun e w' => e = .returned (.int .u64 (bits .andNot .u64 x y)) ∧ w' = w := by
  go_enter Tryz.func159, Tryz.ntmps159
  go_wp2
  go_ret
  exact ⟨rfl, rfl⟩
def lessK (f g : Nat → Bool) (k j : Nat) : Nat := if j < k then wd (lessF f g) j else wd f j
theorem lessK_step (f g : Nat → Bool) (k j : Nat) : upd (lessK f g k) k (wd (lessF f g) k) j = lessK f g (k + 1) j := by
  unfold upd lessK
  by_cases e : j = k
  · subst e; rw [if_pos rfl, if_pos (by omega)]
  · rw [if_neg e]
    by_cases e2 : j < k
    · rw [if_pos e2, if_pos (by omega)]
    · rw [if_neg e2, if_neg (by omega)]
set_option maxRecDepth 100000 in
set_option maxHeartbeats 2000000 in
theorem lessT_any (f g : Nat → Bool) (w : World) : Calls Tryz.prog 135 #[SV f, SV g, .func (.func 159) #[] #[]] w fun e w' => e = .returned (SV (lessF f g)) ∧ Kp w w' := by
  have a1 := A4.new w (wd f) 115
  have a2 := A4.new (w.alloc (.cells (w4 (wd f)) 115)) (wd g) 115
  have a3 := A4.new ((w.alloc (.cells (w4 (wd f)) 115)).alloc (.cells (w4 (wd g)) 115)) (fun _ => 0) 115
  have K0 : Kp w (((w.alloc (.cells (w4 (wd f)) 115)).alloc (.cells (w4 (wd g)) 115)).alloc (.cells (w4 (fun _ => 0)) 115)) := (((Kp.refl w).alloc _).alloc _).alloc _
  have b1 := (a1.alloc (.cells (w4 (wd g)) 115)).alloc (.cells (w4 (fun _ => 0)) 115)
  have b2 := a2.alloc (.cells (w4 (fun _ => 0)) 115)
  clear a1 a2
  have e0 : (w.alloc (.cells (w4 (wd f)) 115)).heap.size = w.heap.size + 1 := by simp
  have e1 : ((w.alloc (.cells (w4 (wd f)) 115)).alloc (.cells (w4 (wd g)) 115)).heap.size = w.heap.size + 2 := by simp
  rw [e0] at b2
  rw [e1] at a3
  clear e0 e1
  unfold SV
  go_enter Tryz.func135, Tryz.ntmps135
  go_wp2
  go_loopw [8] (fun i wr => ∃ k : Nat, k ≤ 4 ∧ i = .int .i64 k ∧ A4 wr w.heap.size (lessK f g k) ∧ A4 wr (w.heap.size + 1) (wd g) ∧ A4 wr (w.heap.size + 2) (fun _ => 0) ∧ Kp w wr) (fun i _ => 4 - (intOf i).toNat)
  case atStart => exact ⟨0, by omega, rfl, b1.congr (fun j _ => by unfold lessK; rw [if_neg (by omega)]), b2, a3, K0⟩
  case round =>
    clear b1 b2 a3 K0
    obtain ⟨k, hk, rfl, h1, h2, h3, hK⟩ := hrel
    by_cases hlt : k < 4
    · have c1 := h1.c k hlt
      rw [show lessK f g k k = wd f k by unfold lessK; rw [if_neg (by omega)]] at c1
      have c2 := h2.c k hlt
      have z1 := h1.z k
      have hN := less1_any (wd f k) (wd g k) wr.drew
      rw [less_word] at hN
      have HS : Hid (A4 (wr.drew.setCell ⟨w.heap.size, k, none⟩ (.int .u64 (wd (lessF f g) k : Nat))) w.heap.size (lessK f g (k + 1)) ∧ A4 (wr.drew.setCell ⟨w.heap.size, k, none⟩ (.int .u64 (wd (lessF f g) k : Nat))) (w.heap.size + 1) (wd g) ∧ A4 (wr.drew.setCell ⟨w.heap.size, k, none⟩ (.int .u64 (wd (lessF f g) k : Nat))) (w.heap.size + 2) (fun _ => 0) ∧ Kp w (wr.drew.setCell ⟨w.heap.size, k, none⟩ (.int .u64 (wd (lessF f g) k : Nat)))) :=
        ⟨(h1.drew.set k _ hlt).congr (fun j _ => lessK_step f g k j), h2.drew.far (by omega) _ _, h3.drew.far (by omega) _ _, hK.drew.set _ _ (Nat.le_refl _) _⟩
      clear h1 h2 h3 hK
      go_wp2_with fail
      go_region_with (go_at_call 159; refine hN.mono ?_; rintro e wn ⟨rfl, rfl⟩)
      all_goals (go_wp2; go_roundw)
      all_goals first | exact ⟨k + 1, by omega, by go_num, HS.out⟩ | (simp [intOf]; omega)
    · obtain rfl : k = 4 := by omega
      have c0 := h1.c 0 (by omega)
      have c1 := h1.c 1 (by omega)
      have c2 := h1.c 2 (by omega)
      have c3 := h1.c 3 (by omega)
      simp only [lessK] at c0 c1 c2 c3
      rw [if_pos (by omega)] at c0 c1 c2 c3
      have d0 := h3.c 0 (by omega)
      have d1 := h3.c 1 (by omega)
      have d2 := h3.c 2 (by omega)
      have d3 := h3.c 3 (by omega)
      have z3 := h3.z
      have HA : Hid (A4 (put4 wr (w.heap.size + 2) (wd (lessF f g))) (w.heap.size + 2) (wd (lessF f g)) ∧ Kp w (put4 wr (w.heap.size + 2) (wd (lessF f g)))) := ⟨h3.put _, hK.put4 (by omega) _⟩
      clear h1 h2 h3 hK
      go_wp2
      refine bodyPost_ret (results_set rfl _ _ (w.heap.size + 2) (wd (lessF f g)) rfl HA.out.1) rfl ?_
      exact ⟨rfl, HA.out.2⟩

end Go.Proofs.YtonooelffokfkaaGreatDoor

namespace Go.Proofs.YtonooelffokfkaaGreatDoor
open Go.RowKit Plain
set_option linter.unusedVariables false

theorem eq4 (a b c d a' b' c' d' : Int) (w : World) :
    (Op.equalIn 10000 115 (.agg #[.int .u64 a, .int .u64 b, .int .u64 c, .int .u64 d]) (.agg #[.int .u64 a', .int .u64 b', .int .u64 c', .int .u64 d'])).run Tryz.prog w = .ok (a == a' && (b == b' && (c == c' && d == d'))) w := by
  have u3 := Tryz.underlying113
  have a3 := Tryz.isAgg113
  have z3 := Tryz.sizeOf113
  rw [show (10000 : Nat) = 9999 + 1 from rfl, Op.equalIn]
  simp only [Sem.run_bind, run_underlying Tryz.underlying115, Result.andThen_ok]
  simp only [Std.Legacy.Range.forIn_eq_forIn_range', Std.Legacy.Range.size, Nat.sub_zero, Nat.add_sub_cancel, Nat.div_one, List.range'_succ, List.range'_zero, List.forIn_cons, List.forIn_nil]
  go_simp
  by_cases h1 : a = a' <;> by_cases h2 : b = b' <;> by_cases h3 : c = c' <;> by_cases h4 : d = d' <;> simp [h1, h2, h3, h4]

def eqB (f g : Nat → Bool) : Bool := wd f 0 == wd g 0 && (wd f 1 == wd g 1 && (wd f 2 == wd g 2 && wd f 3 == wd g 3))
theorem eqB_true (f g : Nat → Bool) : eqB f g = true ↔ ∀ k, k < 4 → wd f k = wd g k := by
  unfold eqB
  simp only [Bool.and_eq_true, beq_iff_eq]
  constructor
  · rintro ⟨h0, h1, h2, h3⟩ k hk
    have h : k = 0 ∨ k = 1 ∨ k = 2 ∨ k = 3 := by omega
    rcases h with rfl | rfl | rfl | rfl
    · exact h0
    · exact h1
    · exact h2
    · exact h3
  · intro h
    exact ⟨h 0 (by omega), h 1 (by omega), h 2 (by omega), h 3 (by omega)⟩
theorem eqB_of {f g : Nat → Bool} (h : ∀ i, i < 256 → f i = g i) : eqB f g = true := (eqB_true f g).2 (fun k hk => wd_congr f g h k hk)
theorem eqB_iff {f g : Nat → Bool} (h : eqB f g = true) : ∀ i, i < 256 → f i = g i := wd_inj f g ((eqB_true f g).1 h)
theorem beq_cast (a b : Nat) : ((a : Int) == (b : Int)) = (a == b) := by
  rw [Bool.eq_iff_iff, beq_iff_eq, beq_iff_eq]
  omega
theorem eqB_words (f g : Nat → Bool) : (((wd f 0 : Nat) : Int) == ((wd g 0 : Nat) : Int) && (((wd f 1 : Nat) : Int) == ((wd g 1 : Nat) : Int) && (((wd f 2 : Nat) : Int) == ((wd g 2 : Nat) : Int) && ((wd f 3 : Nat) : Int) == ((wd g 3 : Nat) : Int)))) = eqB f g := by
  rw [beq_cast, beq_cast, beq_cast, beq_cast]
  rfl
theorem eqS (f g : Nat → Bool) (w : World) : (Op.equalIn 10000 115 (SV f) (SV g)).run Tryz.prog w = .ok (eqB f g) w := by
  unfold SV
  rw [eq4, eqB_words]
def noF (_ : Nat) : Bool := false
theorem no_word (k : Nat) : wd noF k = 0 := wn_zero 64 _ (fun _ _ => rfl)
theorem SV_no : SV noF = .agg #[.int .u64 0, .int .u64 0, .int .u64 0, .int .u64 0] := by
  unfold SV
  rw [no_word, no_word, no_word, no_word]; rfl
def emB (f : Nat → Bool) : Bool := eqB f noF
theorem emB_of {f : Nat → Bool} (h : ∀ i, i < 256 → f i = false) : emB f = true := eqB_of h
theorem emB_not {f : Nat → Bool} (i : Nat) (hi : i < 256) (h : f i = true) : emB f = false := by
  unfold emB
  cases e : eqB f noF with
  | false => rfl
  | true =>
    have := eqB_iff e i hi
    rw [h] at this
    cases this

end Go.Proofs.YtonooelffokfkaaGreatDoor

namespace Go.Proofs.YtonooelffokfkaaGreatDoor
open Go.RowKit Plain
set_option linter.unusedVariables false

def no4 (_ : Nat) : Nat := 0
theorem A4.cells {w : World} {b : Nat} {v : Nat → Nat} (h : A4 w b v) : w.cell? ⟨b, 0, none⟩ = some (.int .u64 (v 0 : Nat)) ∧ w.cell? ⟨b, 1, none⟩ = some (.int .u64 (v 1 : Nat)) ∧ w.cell? ⟨b, 2, none⟩ = some (.int .u64 (v 2 : Nat)) ∧ w.cell? ⟨b, 3, none⟩ = some (.int .u64 (v 3 : Nat)) :=
  ⟨h.c 0 (by omega), h.c 1 (by omega), h.c 2 (by omega), h.c 3 (by omega)⟩
set_option maxRecDepth 100000 in
set_option maxHeartbeats 1000000 in
theorem or_any (f g : Nat → Bool) (w : World) : Calls Tryz.prog 134 #[SV f, SV g] w fun e w' => e = .returned (SV (orF f g)) ∧ Kp w w' := by
  obtain ⟨w0, hw0⟩ : ∃ w0, w0 = ((w.alloc (.cells (w4 (wd f)) 115)).alloc (.cells (w4 (wd g)) 115)).alloc (.cells (w4 no4) 115) := ⟨_, rfl⟩
  have a3 : A4 w0 (w.heap.size + 2) no4 := by
    have := A4.new ((w.alloc (.cells (w4 (wd f)) 115)).alloc (.cells (w4 (wd g)) 115)) no4 115
    rw [hw0]
    simpa using this
  have k0 : Kp w w0 := by rw [hw0]; exact (((Kp.refl w).alloc _).alloc _).alloc _
  have H := orT_any f g w0
  have HW : Hid (w0 = ((w.alloc (.cells (w4 (wd f)) 115)).alloc (.cells (w4 (wd g)) 115)).alloc (.cells (w4 no4) 115)) := hw0
  clear hw0
  unfold SV at H ⊢
  go_enter Tryz.func134, Tryz.ntmps134
  go_wp2_with fail
  rw [HW.out] at H a3 k0
  clear HW
  refine H.mono ?_; rintro e w1 ⟨rfl, k1⟩
  clear H
  have a4 := a3.kept k1
  obtain ⟨d0, d1, d2, d3⟩ := a4.cells
  have z := a4.z
  have HA : Hid (A4 (put4 w1 (w.heap.size + 2) (wd (orF f g))) (w.heap.size + 2) (wd (orF f g)) ∧ Kp w (put4 w1 (w.heap.size + 2) (wd (orF f g)))) := ⟨a4.put _, (k0.trans k1).put4 (by omega) _⟩
  clear a3 a4 k0 k1
  go_wp2
  refine bodyPost_ret (results_set rfl _ _ (w.heap.size + 2) (wd (orF f g)) rfl HA.out.1) rfl ?_
  exact ⟨rfl, HA.out.2⟩
set_option maxRecDepth 100000 in
set_option maxHeartbeats 1000000 in
theorem and_any (f g : Nat → Bool) (w : World) : Calls Tryz.prog 83 #[SV f, SV g] w fun e w' => e = .returned (SV (andF f g)) ∧ Kp w w' := by
  obtain ⟨w0, hw0⟩ : ∃ w0, w0 = ((w.alloc (.cells (w4 (wd f)) 115)).alloc (.cells (w4 (wd g)) 115)).alloc (.cells (w4 no4) 115) := ⟨_, rfl⟩
  have a3 : A4 w0 (w.heap.size + 2) no4 := by
    have := A4.new ((w.alloc (.cells (w4 (wd f)) 115)).alloc (.cells (w4 (wd g)) 115)) no4 115
    rw [hw0]
    simpa using this
  have k0 : Kp w w0 := by rw [hw0]; exact (((Kp.refl w).alloc _).alloc _).alloc _
  have H := andT_any f g w0
  have HW : Hid (w0 = ((w.alloc (.cells (w4 (wd f)) 115)).alloc (.cells (w4 (wd g)) 115)).alloc (.cells (w4 no4) 115)) := hw0
  clear hw0
  unfold SV at H ⊢
  go_enter Tryz.func83, Tryz.ntmps83
  go_wp2_with fail
  rw [HW.out] at H a3 k0
  clear HW
  refine H.mono ?_; rintro e w1 ⟨rfl, k1⟩
  clear H
  have a4 := a3.kept k1
  obtain ⟨d0, d1, d2, d3⟩ := a4.cells
  have z := a4.z
  have HA : Hid (A4 (put4 w1 (w.heap.size + 2) (wd (andF f g))) (w.heap.size + 2) (wd (andF f g)) ∧ Kp w (put4 w1 (w.heap.size + 2) (wd (andF f g)))) := ⟨a4.put _, (k0.trans k1).put4 (by omega) _⟩
  clear a3 a4 k0 k1
  go_wp2
  refine bodyPost_ret (results_set rfl _ _ (w.heap.size + 2) (wd (andF f g)) rfl HA.out.1) rfl ?_
  exact ⟨rfl, HA.out.2⟩
set_option maxRecDepth 100000 in
set_option maxHeartbeats 1000000 in
theorem less_any (f g : Nat → Bool) (w : World) : Calls Tryz.prog 124 #[SV f, SV g] w fun e w' => e = .returned (SV (lessF f g)) ∧ Kp w w' := by
  obtain ⟨w0, hw0⟩ : ∃ w0, w0 = ((w.alloc (.cells (w4 (wd f)) 115)).alloc (.cells (w4 (wd g)) 115)).alloc (.cells (w4 no4) 115) := ⟨_, rfl⟩
  have a3 : A4 w0 (w.heap.size + 2) no4 := by
    have := A4.new ((w.alloc (.cells (w4 (wd f)) 115)).alloc (.cells (w4 (wd g)) 115)) no4 115
    rw [hw0]
    simpa using this
  have k0 : Kp w w0 := by rw [hw0]; exact (((Kp.refl w).alloc _).alloc _).alloc _
  have H := lessT_any f g w0
  have HW : Hid (w0 = ((w.alloc (.cells (w4 (wd f)) 115)).alloc (.cells (w4 (wd g)) 115)).alloc (.cells (w4 no4) 115)) := hw0
  clear hw0
  unfold SV at H ⊢
  go_enter Tryz.func124, Tryz.ntmps124
  go_wp2_with fail
  rw [HW.out] at H a3 k0
  clear HW
  refine H.mono ?_; rintro e w1 ⟨rfl, k1⟩
  clear H
  have a4 := a3.kept k1
  obtain ⟨d0, d1, d2, d3⟩ := a4.cells
  have z := a4.z
  have HA : Hid (A4 (put4 w1 (w.heap.size + 2) (wd (lessF f g))) (w.heap.size + 2) (wd (lessF f g)) ∧ Kp w (put4 w1 (w.heap.size + 2) (wd (lessF f g)))) := ⟨a4.put _, (k0.trans k1).put4 (by omega) _⟩
  clear a3 a4 k0 k1
  go_wp2
  refine bodyPost_ret (results_set rfl _ _ (w.heap.size + 2) (wd (lessF f g)) rfl HA.out.1) rfl ?_
  exact ⟨rfl, HA.out.2⟩

def oneF (i : Int) (j : Nat) : Bool := decide ((j : Int) = i)
theorem one_word (n k : Nat) (hn : n < 256) : wd (oneF n) k = upd no4 (n / 64) (2 ^ (n % 64)) k := by
  unfold upd wd oneF no4
  by_cases h : k = n / 64
  · rw [if_pos h, ← wn_one (n % 64) (by omega)]
    exact wn_congr 64 _ _ (fun j hj => decide_eq_decide.2 (by omega))
  · rw [if_neg h]
    exact wn_zero 64 _ (fun j hj => decide_eq_false (by omega))
theorem one_none (i : Int) (h : ¬ (0 ≤ i ∧ i < 256)) (k : Nat) (hk : k < 4) : wd (oneF i) k = 0 :=
  wn_zero 64 _ (fun j hj => decide_eq_false (by omega))
theorem two_r (n : Nat) : IntKind.u64.wrap (2 ^ (n % 64)) = ((2 ^ (n % 64) : Nat) : Int) := by
  have h : 2 ^ (n % 64) < 2 ^ 64 := Nat.pow_lt_pow_right (by omega) (by omega)
  have e : (2 : Int) ^ (n % 64) = ((2 ^ (n % 64) : Nat) : Int) := by rw [Int.natCast_pow]; rfl
  rw [e, IntKind.wrap_u64]
  generalize 2 ^ (n % 64) = y at *
  omega
theorem w4_congr {v u : Nat → Nat} (h : ∀ j, j < 4 → v j = u j) : w4 v = w4 u := by
  unfold w4
  rw [h 0 (by omega), h 1 (by omega), h 2 (by omega), h 3 (by omega)]
theorem SV_w4 (f : Nat → Bool) : SV f = .agg (w4 (wd f)) := rfl
set_option maxRecDepth 100000 in
set_option maxHeartbeats 1000000 in
theorem alone_0 (n : Nat) (hn : n < 256) (hq : n / 64 = 0) (w : World) : Calls Tryz.prog 84 #[.int .i64 n] w fun e w' => e = .returned (.agg (w4 (upd no4 0 (2 ^ (n % 64))))) ∧ Kp w w' := by
  have q1 : (n : Int) / 64 = 0 := by omega
  have r1 := two_r n
  obtain ⟨x, hx⟩ : ∃ x : Nat, x = 2 ^ (n % 64) := ⟨_, rfl⟩
  rw [← hx] at r1 ⊢
  have HA : Hid (A4 ((w.alloc (.cells (w4 (upd no4 0 x)) 115)).alloc (.cells (w4 (upd no4 0 x)) 115)) w.heap.size (upd no4 0 x) ∧ Kp w ((w.alloc (.cells (w4 (upd no4 0 x)) 115)).alloc (.cells (w4 (upd no4 0 x)) 115))) :=
    ⟨(A4.new w _ _).alloc _, ((Kp.refl w).alloc _).alloc _⟩
  clear hx
  go_enter Tryz.func84, Tryz.ntmps84
  go_wp2
  refine bodyPost_ret (results_set rfl _ _ w.heap.size (upd no4 0 x) rfl HA.out.1) rfl ?_
  exact ⟨rfl, HA.out.2⟩
set_option maxRecDepth 100000 in
set_option maxHeartbeats 1000000 in
theorem alone_1 (n : Nat) (hn : n < 256) (hq : n / 64 = 1) (w : World) : Calls Tryz.prog 84 #[.int .i64 n] w fun e w' => e = .returned (.agg (w4 (upd no4 1 (2 ^ (n % 64))))) ∧ Kp w w' := by
  have q1 : (n : Int) / 64 = 1 := by omega
  have r1 := two_r n
  obtain ⟨x, hx⟩ : ∃ x : Nat, x = 2 ^ (n % 64) := ⟨_, rfl⟩
  rw [← hx] at r1 ⊢
  have HA : Hid (A4 ((w.alloc (.cells (w4 (upd no4 1 x)) 115)).alloc (.cells (w4 (upd no4 1 x)) 115)) w.heap.size (upd no4 1 x) ∧ Kp w ((w.alloc (.cells (w4 (upd no4 1 x)) 115)).alloc (.cells (w4 (upd no4 1 x)) 115))) :=
    ⟨(A4.new w _ _).alloc _, ((Kp.refl w).alloc _).alloc _⟩
  clear hx
  go_enter Tryz.func84, Tryz.ntmps84
  go_wp2
  refine bodyPost_ret (results_set rfl _ _ w.heap.size (upd no4 1 x) rfl HA.out.1) rfl ?_
  exact ⟨rfl, HA.out.2⟩
set_option maxRecDepth 100000 in
set_option maxHeartbeats 1000000 in
theorem alone_2 (n : Nat) (hn : n < 256) (hq : n / 64 = 2) (w : World) : Calls Tryz.prog 84 #[.int .i64 n] w fun e w' => e = .returned (.agg (w4 (upd no4 2 (2 ^ (n % 64))))) ∧ Kp w w' := by
  have q1 : (n : Int) / 64 = 2 := by omega
  have r1 := two_r n
  obtain ⟨x, hx⟩ : ∃ x : Nat, x = 2 ^ (n % 64) := ⟨_, rfl⟩
  rw [← hx] at r1 ⊢
  have HA : Hid (A4 ((w.alloc (.cells (w4 (upd no4 2 x)) 115)).alloc (.cells (w4 (upd no4 2 x)) 115)) w.heap.size (upd no4 2 x) ∧ Kp w ((w.alloc (.cells (w4 (upd no4 2 x)) 115)).alloc (.cells (w4 (upd no4 2 x)) 115))) :=
    ⟨(A4.new w _ _).alloc _, ((Kp.refl w).alloc _).alloc _⟩
  clear hx
  go_enter Tryz.func84, Tryz.ntmps84
  go_wp2
  refine bodyPost_ret (results_set rfl _ _ w.heap.size (upd no4 2 x) rfl HA.out.1) rfl ?_
  exact ⟨rfl, HA.out.2⟩
set_option maxRecDepth 100000 in
set_option maxHeartbeats 1000000 in
theorem alone_3 (n : Nat) (hn : n < 256) (hq : n / 64 = 3) (w : World) : Calls Tryz.prog 84 #[.int .i64 n] w fun e w' => e = .returned (.agg (w4 (upd no4 3 (2 ^ (n % 64))))) ∧ Kp w w' := by
  have q1 : (n : Int) / 64 = 3 := by omega
  have r1 := two_r n
  obtain ⟨x, hx⟩ : ∃ x : Nat, x = 2 ^ (n % 64) := ⟨_, rfl⟩
  rw [← hx] at r1 ⊢
  have HA : Hid (A4 ((w.alloc (.cells (w4 (upd no4 3 x)) 115)).alloc (.cells (w4 (upd no4 3 x)) 115)) w.heap.size (upd no4 3 x) ∧ Kp w ((w.alloc (.cells (w4 (upd no4 3 x)) 115)).alloc (.cells (w4 (upd no4 3 x)) 115))) :=
    ⟨(A4.new w _ _).alloc _, ((Kp.refl w).alloc _).alloc _⟩
  clear hx
  go_enter Tryz.func84, Tryz.ntmps84
  go_wp2
  refine bodyPost_ret (results_set rfl _ _ w.heap.size (upd no4 3 x) rfl HA.out.1) rfl ?_
  exact ⟨rfl, HA.out.2⟩
set_option maxRecDepth 100000 in
set_option maxHeartbeats 1000000 in
theorem alone_out (i : Int) (hi : ¬ (0 ≤ i ∧ i < 256)) (w : World) : Calls Tryz.prog 84 #[.int .i64 i] w fun e w' => e = .returned (.agg (w4 no4)) ∧ Kp w w' := by
  have HA : Hid (A4 ((w.alloc (.cells (w4 no4) 115)).alloc (.cells (w4 no4) 115)) w.heap.size no4 ∧ Kp w ((w.alloc (.cells (w4 no4) 115)).alloc (.cells (w4 no4) 115))) :=
    ⟨(A4.new w _ _).alloc _, ((Kp.refl w).alloc _).alloc _⟩
  by_cases h0 : 0 ≤ i
  · have h1 : 256 ≤ i := by omega
    clear hi
    go_enter Tryz.func84, Tryz.ntmps84
    go_wp2
    refine bodyPost_ret (results_set rfl _ _ w.heap.size no4 rfl HA.out.1) rfl ?_
    exact ⟨rfl, HA.out.2⟩
  · have h1 : i < 0 := by omega
    clear hi h0
    go_enter Tryz.func84, Tryz.ntmps84
    go_wp2
    refine bodyPost_ret (results_set rfl _ _ w.heap.size no4 rfl HA.out.1) rfl ?_
    exact ⟨rfl, HA.out.2⟩
theorem alone_any (i : Int) (w : World) : Calls Tryz.prog 84 #[.int .i64 i] w fun e w' => e = .returned (SV (oneF i)) ∧ Kp w w' := by
  by_cases h : 0 ≤ i ∧ i < 256
  · obtain ⟨n, rfl⟩ : ∃ n : Nat, i = n := ⟨i.toNat, by omega⟩
    have hn : n < 256 := by omega
    have e : SV (oneF n) = .agg (w4 (upd no4 (n / 64) (2 ^ (n % 64)))) := by
      rw [SV_w4, w4_congr (fun j _ => one_word n j hn)]
    rw [e]
    have hq : n / 64 = 0 ∨ n / 64 = 1 ∨ n / 64 = 2 ∨ n / 64 = 3 := by omega
    rcases hq with hq | hq | hq | hq <;> rw [hq]
    · exact alone_0 n hn hq w
    · exact alone_1 n hn hq w
    · exact alone_2 n hn hq w
    · exact alone_3 n hn hq w
  · have e : SV (oneF i) = .agg (w4 no4) := by
      rw [SV_w4, w4_congr (fun j hj => one_none i h j hj)]; rfl
    rw [e]
    exact alone_out i h w
set_option maxRecDepth 100000 in
set_option maxHeartbeats 1000000 in
theorem empty_any (f : Nat → Bool) (w : World) : Calls Tryz.prog 85 #[SV f] w fun e w' => e = .returned (.bool (emB f)) ∧ Kp w w' := by
  have hE := eqS f noF
  rw [SV_no] at hE
  have hE' : ∀ w, (Op.equalIn 10000 115 (SV f) (.agg #[.int .u64 0, .int .u64 0, .int .u64 0, .int .u64 0])).run Tryz.prog w = .ok (emB f) w := hE
  clear hE
  unfold SV at hE' ⊢
  go_enter Tryz.func85, Tryz.ntmps85
  go_wp2
  go_ret
  exact ⟨rfl, (Kp.refl w).alloc _⟩

/-- the numbers below n. -/
def upF (n : Int) (j : Nat) : Bool := decide ((j : Int) < n)
def upW (m k : Nat) : Nat := if m ≤ 64 * k then 0 else if 64 * (k + 1) ≤ m then 18446744073709551615 else 2 ^ (m - 64 * k) - 1
theorem up_word (n : Int) (m : Nat) (hm : max n 0 = (m : Int)) (k : Nat) : wd (upF n) k = upW m k := by
  unfold upW wd upF
  by_cases h1 : m ≤ 64 * k
  · rw [if_pos h1]
    exact wn_zero 64 _ (fun j hj => decide_eq_false (by omega))
  · rw [if_neg h1]
    by_cases h2 : 64 * (k + 1) ≤ m
    · rw [if_pos h2]
      have := wn_below 64 (by omega)
      rw [show (18446744073709551615 : Nat) = 2 ^ 64 - 1 from rfl, ← this]
      exact wn_congr 64 _ _ (fun j hj => decide_eq_decide.2 (by omega))
    · rw [if_neg h2, ← wn_below (m - 64 * k) (by omega)]
      exact wn_congr 64 _ _ (fun j hj => decide_eq_decide.2 (by omega))
theorem pow_ints (d : Nat) (h : d ≤ 64) : IntKind.u64.wrap (1 * 2 ^ d) = ((if d = 64 then 0 else 2 ^ d : Nat) : Int) := by
  have e : (1 : Int) * 2 ^ d = ((2 ^ d : Nat) : Int) := by rw [Int.one_mul, Int.natCast_pow]; rfl
  rw [e, IntKind.wrap_u64]
  by_cases hd : d = 64
  · subst hd; rw [if_pos rfl]; rfl
  · have h : 2 ^ d < 2 ^ 64 := Nat.pow_lt_pow_right (by omega) (by omega)
    rw [if_neg hd]
    generalize 2 ^ d = y at *
    omega
def shW (m k : Nat) : Nat := if m - 64 * k ≥ 64 then 0 else 2 ^ (m - 64 * k)
theorem sh_run (m k : Nat) (w : World) : (Op.shift .shl .u64 1 .i64 (max ((m : Int) - (k : Int) * 64) 0)).run Tryz.prog w = .ok (.int .u64 (shW m k : Nat)) w := by
  have e : (max ((m : Int) - (k : Int) * 64) 0).toNat = m - 64 * k := by omega
  have hn : ¬ (max ((m : Int) - (k : Int) * 64) 0 < 0) := by omega
  unfold Op.shift
  rw [if_neg hn, e]
  have hb : IntKind.u64.bits = 64 := rfl
  simp only [hb, Sem.run_pure]
  rw [pow_ints _ (by omega)]
  unfold shW
  by_cases hd : m - 64 * k ≥ 64
  · rw [if_pos hd, if_pos (by omega)]
  · rw [if_neg hd, if_neg (by omega), show min (m - 64 * k) 64 = m - 64 * k by omega]
theorem sh_up (m k : Nat) : IntKind.u64.wrap ((shW m k : Int) - 1) = (upW m k : Int) := by
  rw [IntKind.wrap_u64]
  unfold shW upW
  by_cases h1 : m ≤ 64 * k
  · rw [if_pos h1, if_neg (by omega), show m - 64 * k = 0 by omega]; rfl
  · rw [if_neg h1]
    by_cases h2 : 64 * (k + 1) ≤ m
    · rw [if_pos h2, if_pos (by omega)]; rfl
    · rw [if_neg h2, if_neg (by omega)]
      have h : 2 ^ (m - 64 * k) < 2 ^ 64 := Nat.pow_lt_pow_right (by omega) (by omega)
      have hp := Nat.two_pow_pos (m - 64 * k)
      generalize 2 ^ (m - 64 * k) = y at *
      omega
def upK (n : Int) (k j : Nat) : Nat := if j < k then wd (upF n) j else 0
theorem upK_step (n : Int) (k j : Nat) : upd (upK n k) k (wd (upF n) k) j = upK n (k + 1) j := by
  unfold upd upK
  by_cases e : j = k
  · subst e; rw [if_pos rfl, if_pos (by omega)]
  · rw [if_neg e]
    by_cases e2 : j < k
    · rw [if_pos e2, if_pos (by omega)]
    · rw [if_neg e2, if_neg (by omega)]
set_option maxRecDepth 100000 in
set_option maxHeartbeats 2000000 in
theorem upto_any (n : Int) (hn1 : n ≤ 9223372036854775807) (w : World) : Calls Tryz.prog 123 #[.int .i64 n] w fun e w' => e = .returned (SV (upF n)) ∧ Kp w w' := by
  have a1 := (A4.new w no4 115).alloc (.cells (w4 no4) 115)
  have a2 := A4.new (w.alloc (.cells (w4 no4) 115)) no4 115
  have K0 : Kp w ((w.alloc (.cells (w4 no4) 115)).alloc (.cells (w4 no4) 115)) := ((Kp.refl w).alloc _).alloc _
  have e1 : (w.alloc (.cells (w4 no4) 115)).heap.size = w.heap.size + 1 := by simp
  rw [e1] at a2
  clear e1
  obtain ⟨m, hm⟩ : ∃ m : Nat, max n 0 = (m : Int) := ⟨(max n 0).toNat, by omega⟩
  have hm1 : m ≤ 9223372036854775807 := by omega
  have HM : Hid (max n 0 = (m : Int)) := hm
  unfold SV
  go_enter Tryz.func123, Tryz.ntmps123
  go_wp2
  go_loopw [8] (fun i wr => ∃ k : Nat, k ≤ 4 ∧ i = .int .i64 k ∧ A4 wr (w.heap.size + 1) (upK n k) ∧ A4 wr w.heap.size no4 ∧ Kp w wr) (fun i _ => 4 - (intOf i).toNat)
  case atStart => exact ⟨0, by omega, rfl, a2.congr (fun j _ => by unfold upK no4; rw [if_neg (by omega)]), a1, K0⟩
  case round =>
    clear a1 a2 K0 hm
    obtain ⟨k, hk, rfl, h1, h2, hK⟩ := hrel
    by_cases hlt : k < 4
    · have c1 := h1.c k hlt
      have z1 := h1.z k
      have HS : Hid (A4 (wr.setCell ⟨w.heap.size + 1, k, none⟩ (.int .u64 (wd (upF n) k : Nat))) (w.heap.size + 1) (upK n (k + 1)) ∧ A4 (wr.setCell ⟨w.heap.size + 1, k, none⟩ (.int .u64 (wd (upF n) k : Nat))) w.heap.size no4 ∧ Kp w (wr.setCell ⟨w.heap.size + 1, k, none⟩ (.int .u64 (wd (upF n) k : Nat)))) :=
        ⟨(h1.set k _ hlt).congr (fun j _ => upK_step n k j), h2.far (by omega) _ _, hK.set _ _ (by omega) _⟩
      have HU := up_word n m HM.out k
      rw [HU] at HS
      have hS := sh_run m k
      have hU := sh_up m k
      clear h1 h2 hK HU
      go_wp2
      go_roundw
      case rel => exact ⟨k + 1, by omega, by go_num, HS.out⟩
      case measure => simp [intOf]; omega
    · obtain rfl : k = 4 := by omega
      obtain ⟨c0, c1, c2, c3⟩ := h1.cells
      obtain ⟨d0, d1, d2, d3⟩ := h2.cells
      have z3 := h2.z
      simp only [upK] at c0 c1 c2 c3
      rw [if_pos (by omega)] at c0 c1 c2 c3
      have HA : Hid (A4 (put4 wr w.heap.size (wd (upF n))) w.heap.size (wd (upF n)) ∧ Kp w (put4 wr w.heap.size (wd (upF n)))) := ⟨h2.put _, hK.put4 (by omega) _⟩
      clear h1 h2 hK
      go_wp2
      refine bodyPost_ret (results_set rfl _ _ w.heap.size (wd (upF n)) rfl HA.out.1) rfl ?_
      exact ⟨rfl, HA.out.2⟩

end Go.Proofs.YtonooelffokfkaaGreatDoor

namespace Go.Proofs.YtonooelffokfkaaGreatDoor
open Go.RowKit Plain
set_option linter.unusedVariables false

set_option maxRecDepth 100000 in
set_option maxHeartbeats 2000000 in
theorem with_any (f : Nat → Bool) (i : Int) (w : World) : Calls Tryz.prog 82 #[SV f, .int .i64 i] w fun e w' => e = .returned (SV (orF f (oneF i))) ∧ Kp w w' := by
  obtain ⟨w0, hw0⟩ : ∃ w0, w0 = (w.alloc (.cells (w4 (wd f)) 115)).alloc (.cells (w4 no4) 115) := ⟨_, rfl⟩
  have a1 : A4 w0 w.heap.size (wd f) := by rw [hw0]; exact (A4.new w _ _).alloc _
  have a2 : A4 w0 (w.heap.size + 1) no4 := by
    have := A4.new (w.alloc (.cells (w4 (wd f)) 115)) no4 115
    rw [hw0]
    simpa using this
  have k0 : Kp w w0 := by rw [hw0]; exact ((Kp.refl w).alloc _).alloc _
  have HW : Hid (w0 = (w.alloc (.cells (w4 (wd f)) 115)).alloc (.cells (w4 no4) 115)) := hw0
  clear hw0
  unfold SV
  go_enter Tryz.func82, Tryz.ntmps82
  go_wp2_with fail
  rw [show (w.alloc (.cells #[.int .u64 ((wd f 0 : Nat) : Int), .int .u64 ((wd f 1 : Nat) : Int), .int .u64 ((wd f 2 : Nat) : Int), .int .u64 ((wd f 3 : Nat) : Int)] 115)).alloc (.cells #[.int .u64 0, .int .u64 0, .int .u64 0, .int .u64 0] 115) = w0 from HW.out.symm]
  clear HW
  obtain ⟨c0, c1, c2, c3⟩ := a1.cells
  obtain ⟨d0, d1, d2, d3⟩ := a2.cells
  have z := a2.z
  have hN := alone_any i w0.drew
  have hO : ∀ W, Calls Tryz.prog 134 #[SV f, SV (oneF i)] W fun e w' => e = .returned (SV (orF f (oneF i))) ∧ Kp W w' := fun W => or_any f (oneF i) W
  have HA : Hid (∀ wa wb, Kp w0.drew wa → Kp wa wb → A4 (put4 wb (w.heap.size + 1) (wd (orF f (oneF i)))) (w.heap.size + 1) (wd (orF f (oneF i))) ∧ Kp w (put4 wb (w.heap.size + 1) (wd (orF f (oneF i))))) := fun wa wb ka kb =>
    ⟨((a2.drew.kept ka).kept kb).put _, ((k0.drew.trans ka).trans kb).put4 (by omega) _⟩
  have HZ : Hid (∀ wa wb, Kp w0.drew wa → Kp wa wb → wb.cell? ⟨w.heap.size + 1, 0, none⟩ = some (.int .u64 0) ∧ wb.cell? ⟨w.heap.size + 1, 1, none⟩ = some (.int .u64 0) ∧ wb.cell? ⟨w.heap.size + 1, 2, none⟩ = some (.int .u64 0) ∧ wb.cell? ⟨w.heap.size + 1, 3, none⟩ = some (.int .u64 0) ∧ ∀ o, wb.frozen? ⟨w.heap.size + 1, o, none⟩ = false) := fun wa wb ka kb => by
    have a3 := (a2.drew.kept ka).kept kb
    obtain ⟨d0, d1, d2, d3⟩ := a3.cells
    exact ⟨d0, d1, d2, d3, a3.z⟩
  unfold SV at hN hO
  clear a1 a2 k0
  go_region_held3 (fun W => W.cell? ⟨w.heap.size, 0, none⟩ = some (.int .u64 (wd f 0 : Nat)) ∧ W.cell? ⟨w.heap.size, 1, none⟩ = some (.int .u64 (wd f 1 : Nat)) ∧ W.cell? ⟨w.heap.size, 2, none⟩ = some (.int .u64 (wd f 2 : Nat)) ∧ W.cell? ⟨w.heap.size, 3, none⟩ = some (.int .u64 (wd f 3 : Nat)))
    (first | go_keep | exact ⟨c0, c1, c2, c3⟩ | exact ⟨ka.held c0, ka.held c1, ka.held c2, ka.held c3⟩ | exact ⟨(ka.trans kb).held c0, (ka.trans kb).held c1, (ka.trans kb).held c2, (ka.trans kb).held c3⟩)
    (first | (go_at_call 84; refine hN.mono ?_; rintro e wa ⟨rfl, ka⟩) | (go_at_call 134; refine (hO _).mono ?_; rintro e wb ⟨rfl, kb⟩; obtain ⟨q0, q1, q2, q3, qz⟩ := HZ.out _ _ ka kb))
  go_wp2
  refine bodyPost_ret (results_set rfl _ _ (w.heap.size + 1) (wd (orF f (oneF i))) rfl (HA.out _ _ ka kb).1) rfl ?_
  exact ⟨rfl, (HA.out _ _ ka kb).2⟩


def hasB (f : Nat → Bool) (i : Int) : Bool := decide (0 ≤ i ∧ i < 256) && f i.toNat
theorem has_is (f : Nat → Bool) (i : Int) : (!emB (andF f (oneF i))) = hasB f i := by
  unfold hasB
  by_cases h : 0 ≤ i ∧ i < 256
  · rw [decide_eq_true h, Bool.true_and]
    cases e : f i.toNat with
    | true =>
      rw [emB_not (f := andF f (oneF i)) i.toNat (by omega) (by unfold andF oneF; rw [e, decide_eq_true (by omega)]; rfl)]; rfl
    | false =>
      rw [emB_of]; · rfl
      intro j hj
      unfold andF oneF
      by_cases hji : (j : Int) = i
      · rw [show j = i.toNat by omega, e]; rfl
      · rw [decide_eq_false hji, Bool.and_false]
  · rw [decide_eq_false h, Bool.false_and, emB_of]; · rfl
    intro j hj
    unfold andF oneF
    rw [decide_eq_false (by omega), Bool.and_false]
set_option maxRecDepth 100000 in
set_option maxHeartbeats 2000000 in
theorem has_any (f : Nat → Bool) (i : Int) (w : World) : Calls Tryz.prog 43 #[SV f, .int .i64 i] w fun e w' => e = .returned (.bool (hasB f i)) ∧ Kp w w' := by
  rw [← has_is]
  obtain ⟨w0, hw0⟩ : ∃ w0, w0 = w.alloc (.cells (w4 (wd f)) 115) := ⟨_, rfl⟩
  have a1 : A4 w0 w.heap.size (wd f) := by rw [hw0]; exact A4.new w _ _
  have k0 : Kp w w0 := by rw [hw0]; exact (Kp.refl w).alloc _
  have HW : Hid (w0 = w.alloc (.cells (w4 (wd f)) 115)) := hw0
  clear hw0
  have hN := alone_any i w0.drew
  have hO := and_any f (oneF i)
  have hE := empty_any (andF f (oneF i))
  unfold SV at hN hO hE ⊢
  go_enter Tryz.func43, Tryz.ntmps43
  go_wp2_with fail
  rw [show w.alloc (.cells #[.int .u64 ((wd f 0 : Nat) : Int), .int .u64 ((wd f 1 : Nat) : Int), .int .u64 ((wd f 2 : Nat) : Int), .int .u64 ((wd f 3 : Nat) : Int)] 115) = w0 from HW.out.symm]
  clear HW
  obtain ⟨c0, c1, c2, c3⟩ := a1.cells
  have HA : Hid (∀ wa wb wc, Kp w0.drew wa → Kp wa wb → Kp wb wc → Kp w wc) := fun wa wb wc ka kb kc => ((k0.drew.trans ka).trans kb).trans kc
  clear a1 k0
  go_region_held3 (fun W => W.cell? ⟨w.heap.size, 0, none⟩ = some (.int .u64 (wd f 0 : Nat)) ∧ W.cell? ⟨w.heap.size, 1, none⟩ = some (.int .u64 (wd f 1 : Nat)) ∧ W.cell? ⟨w.heap.size, 2, none⟩ = some (.int .u64 (wd f 2 : Nat)) ∧ W.cell? ⟨w.heap.size, 3, none⟩ = some (.int .u64 (wd f 3 : Nat)))
    (first | go_keep | exact ⟨c0, c1, c2, c3⟩ | exact ⟨ka.held c0, ka.held c1, ka.held c2, ka.held c3⟩ | exact ⟨(ka.trans kb).held c0, (ka.trans kb).held c1, (ka.trans kb).held c2, (ka.trans kb).held c3⟩ | exact ⟨((ka.trans kb).trans kc).held c0, ((ka.trans kb).trans kc).held c1, ((ka.trans kb).trans kc).held c2, ((ka.trans kb).trans kc).held c3⟩)
    (first | (go_at_call 84; refine hN.mono ?_; rintro e wa ⟨rfl, ka⟩) | (go_at_call 83; refine (hO _).mono ?_; rintro e wb ⟨rfl, kb⟩) | (go_at_call 85; refine (hE _).mono ?_; rintro e wc ⟨rfl, kc⟩))
  go_wp2
  go_ret
  exact ⟨rfl, HA.out _ _ _ ka kb kc⟩

end Go.Proofs.YtonooelffokfkaaGreatDoor

namespace Go.Proofs.YtonooelffokfkaaGreatDoor
open Go.RowKit Plain
set_option linter.unusedVariables false

theorem idx4 (v : Nat → Nat) (k : Nat) (hk : k < 4) (w : World) : (Instr.index 115 (.agg #[.int .u64 (v 0 : Nat), .int .u64 (v 1 : Nat), .int .u64 (v 2 : Nat), .int .u64 (v 3 : Nat)]) (.int .i64 k)).run Tryz.prog w = .ok (.int .u64 (v k : Nat)) w := by
  have u3 := Tryz.underlying113
  have a3 := Tryz.isAgg113
  have z3 := Tryz.sizeOf113
  have ut := Tryz.underlying115
  have h : k = 0 ∨ k = 1 ∨ k = 2 ∨ k = 3 := by omega
  rcases h with rfl | rfl | rfl | rfl <;> (unfold Instr.index; go_simp)
/-- how many of a word's numbers. -/
def cw (f : Nat → Bool) (k : Nat) : Nat := cn 64 (fun j => f (64 * k + j))
theorem ones_wd (f : Nat → Bool) (k : Nat) (w : World) : Calls Tryz.prog 185 #[.int .u64 (wd f k : Nat)] w fun e w' => e = .returned (.int .i64 (cw f k : Nat)) ∧ w' = w := ones_any _ w
theorem int_val {k : IntKind} {a b : Int} (h : a = b) : Value.int k a = .int k b := by rw [h]
set_option maxRecDepth 100000 in
set_option maxHeartbeats 2000000 in
theorem count_anyL7 (f : Nat → Bool) (w : World) : Calls Tryz.prog 161 #[SV f] w fun e w' => e = .returned (.int .i64 (cn 256 f : Nat)) ∧ Kp w w' := by
  have k0 : Kp w (w.alloc (.cells (w4 (wd f)) 115)) := (Kp.refl w).alloc _
  unfold SV
  go_enter Tryz.func161, Tryz.ntmps161
  go_wp2
  go_loopw [3, 7] (fun c i wr => ∃ k : Nat, k ≤ 4 ∧ i = .int .i64 k ∧ c = .int .i64 (cn (64 * k) f : Nat) ∧ wr = w.alloc (.cells (w4 (wd f)) 115)) (fun _ i _ => 4 - (intOf i).toNat)
  case atStart => exact ⟨0, by omega, rfl, rfl, rfl⟩
  case round =>
    obtain ⟨k, hk, rfl, rfl, rfl⟩ := hrel
    have hC := cn_le (64 * k) f
    have HW : Hid (cn (64 * (k + 1)) f = cn (64 * k) f + cw f k) := cn_words f k
    have hL : cw f k ≤ 64 := cn_le 64 _
    obtain ⟨c, hc⟩ : ∃ c, c = cn (64 * k) f := ⟨_, rfl⟩
    rw [← hc] at HW hC ⊢
    by_cases hlt : k < 4
    · clear hc
      have hq : k = 0 ∨ k = 1 ∨ k = 2 ∨ k = 3 := by omega
      rcases hq with rfl | rfl | rfl | rfl
      · have hN := ones_wd f 0
        have hI : ∀ w, (Instr.index 115 (.agg #[.int .u64 (wd f 0 : Nat), .int .u64 (wd f 1 : Nat), .int .u64 (wd f 2 : Nat), .int .u64 (wd f 3 : Nat)]) (.int .i64 0)).run Tryz.prog w = .ok (.int .u64 (wd f 0 : Nat)) w := idx4 (wd f) 0 (by omega)
        go_wp2_with fail
        refine (hN _).mono ?_; rintro e w' ⟨rfl, rfl⟩
        go_wp2
        go_roundw
        case rel => exact ⟨0 + 1, by omega, by go_num, by rw [HW.out]; exact int_val (by omega), trivial⟩
        case measure => simp [intOf]
      · have hN := ones_wd f 1
        have hI : ∀ w, (Instr.index 115 (.agg #[.int .u64 (wd f 0 : Nat), .int .u64 (wd f 1 : Nat), .int .u64 (wd f 2 : Nat), .int .u64 (wd f 3 : Nat)]) (.int .i64 1)).run Tryz.prog w = .ok (.int .u64 (wd f 1 : Nat)) w := idx4 (wd f) 1 (by omega)
        go_wp2_with fail
        refine (hN _).mono ?_; rintro e w' ⟨rfl, rfl⟩
        go_wp2
        go_roundw
        case rel => exact ⟨1 + 1, by omega, by go_num, by rw [HW.out]; exact int_val (by omega), trivial⟩
        case measure => simp [intOf]
      · have hN := ones_wd f 2
        have hI : ∀ w, (Instr.index 115 (.agg #[.int .u64 (wd f 0 : Nat), .int .u64 (wd f 1 : Nat), .int .u64 (wd f 2 : Nat), .int .u64 (wd f 3 : Nat)]) (.int .i64 2)).run Tryz.prog w = .ok (.int .u64 (wd f 2 : Nat)) w := idx4 (wd f) 2 (by omega)
        go_wp2_with fail
        refine (hN _).mono ?_; rintro e w' ⟨rfl, rfl⟩
        go_wp2
        go_roundw
        case rel => exact ⟨2 + 1, by omega, by go_num, by rw [HW.out]; exact int_val (by omega), trivial⟩
        case measure => simp [intOf]
      · have hN := ones_wd f 3
        have hI : ∀ w, (Instr.index 115 (.agg #[.int .u64 (wd f 0 : Nat), .int .u64 (wd f 1 : Nat), .int .u64 (wd f 2 : Nat), .int .u64 (wd f 3 : Nat)]) (.int .i64 3)).run Tryz.prog w = .ok (.int .u64 (wd f 3 : Nat)) w := idx4 (wd f) 3 (by omega)
        go_wp2_with fail
        refine (hN _).mono ?_; rintro e w' ⟨rfl, rfl⟩
        go_wp2
        go_roundw
        case rel => exact ⟨3 + 1, by omega, by go_num, by rw [HW.out]; exact int_val (by omega), trivial⟩
        case measure => simp [intOf]
    · obtain rfl : k = 4 := by omega
      clear HW
      go_wp2
      go_ret
      exact ⟨ret_int (by rw [hc]), k0⟩

/-- where a word's first number stands. -/
def tw (f : Nat → Bool) (k : Nat) : Nat := fs 64 (fun j => f (64 * k + j))
theorem tz_wd (f : Nat → Bool) (k : Nat) (w : World) (hT : Tab w) : Calls Tryz.prog 186 #[.int .u64 (wd f k : Nat)] w fun e w' => e = .returned (.int .i64 (tw f k : Nat)) ∧ w' = w := tz_any _ w hT
theorem word_none {g : Nat → Bool} {q : Nat} (h : ∀ j, j < 64 * q → g j = false) (h0 : wd g q = 0) : ∀ j, j < 64 * (q + 1) → g j = false := by
  intro j hj
  by_cases e : j < 64 * q
  · exact h j e
  · have := wn_zero_iff 64 _ h0 (j - 64 * q) (by omega)
    rw [show 64 * q + (j - 64 * q) = j by omega] at this
    exact this
theorem word_first {g : Nat → Bool} {q : Nat} (h : ∀ j, j < 64 * q → g j = false) (h0 : wd g q ≠ 0) (hq : q < 4) : fs 256 g = 64 * q + tw g q ∧ tw g q < 64 := by
  have hl : tw g q < 64 := by
    apply Nat.lt_of_not_le
    intro hle
    apply h0
    refine wn_zero 64 _ (fun j hj => ?_)
    exact fs_before 64 (fun j => g (64 * q + j)) j (by unfold tw at hle; omega)
  refine ⟨fs_is 256 g _ (by omega) ?_ ?_, hl⟩
  · exact fs_at 64 (fun j => g (64 * q + j)) hl
  · intro i hi
    by_cases e : i < 64 * q
    · exact h i e
    · have := fs_before 64 (fun j => g (64 * q + j)) (i - 64 * q) (by unfold tw at hi; omega)
      rw [show 64 * q + (i - 64 * q) = i by omega] at this
      exact this
def nx (f : Nat → Bool) (a : Int) : Nat := fs 256 (lessF f (upF a))
def nI (n : Nat) : Int := if n < 256 then (n : Int) else 0
theorem tup_int {a b : Int} {x y : Bool} (h : a = b) (k : x = y) : Ending.returned (.tuple #[.int .i64 a, .bool x]) = .returned (.tuple #[.int .i64 b, .bool y]) := by rw [h, k]
set_option maxRecDepth 100000 in
set_option maxHeartbeats 2000000 in
theorem next_any (f : Nat → Bool) (a : Int) (ha : a ≤ 9223372036854775807) (w : World) (hT : Tab w) : Calls Tryz.prog 162 #[SV f, .int .i64 a] w fun e w' => e = .returned (.tuple #[.int .i64 (nI (nx f a)), .bool (decide (nx f a < 256))]) ∧ Kp w w' := by
  obtain ⟨w0, hw0⟩ : ∃ w0, w0 = w.alloc (.cells (w4 (wd f)) 115) := ⟨_, rfl⟩
  have a1 : A4 w0 w.heap.size (wd f) := by rw [hw0]; exact A4.new w _ _
  have k0 : Kp w w0 := by rw [hw0]; exact (Kp.refl w).alloc _
  have HW : Hid (w0 = w.alloc (.cells (w4 (wd f)) 115)) := hw0
  clear hw0
  have hN := upto_any a ha w0.drew
  have hO := less_any f (upF a)
  unfold nx
  obtain ⟨g, hg⟩ : ∃ g, g = lessF f (upF a) := ⟨_, rfl⟩
  rw [← hg] at hO ⊢
  clear hg
  unfold SV at hN hO ⊢
  go_enter Tryz.func162, Tryz.ntmps162
  go_wp2_with fail
  rw [show w.alloc (.cells #[.int .u64 ((wd f 0 : Nat) : Int), .int .u64 ((wd f 1 : Nat) : Int), .int .u64 ((wd f 2 : Nat) : Int), .int .u64 ((wd f 3 : Nat) : Int)] 115) = w0 from HW.out.symm]
  clear HW
  obtain ⟨c0, c1, c2, c3⟩ := a1.cells
  clear a1
  go_region_held3 (fun W => W.cell? ⟨w.heap.size, 0, none⟩ = some (.int .u64 (wd f 0 : Nat)) ∧ W.cell? ⟨w.heap.size, 1, none⟩ = some (.int .u64 (wd f 1 : Nat)) ∧ W.cell? ⟨w.heap.size, 2, none⟩ = some (.int .u64 (wd f 2 : Nat)) ∧ W.cell? ⟨w.heap.size, 3, none⟩ = some (.int .u64 (wd f 3 : Nat)))
    (first | go_keep | exact ⟨c0, c1, c2, c3⟩ | exact ⟨ka.held c0, ka.held c1, ka.held c2, ka.held c3⟩ | exact ⟨(ka.trans kb).held c0, (ka.trans kb).held c1, (ka.trans kb).held c2, (ka.trans kb).held c3⟩)
    (first | (go_at_call 123; refine hN.mono ?_; rintro e wa ⟨rfl, ka⟩) | (go_at_call 124; refine (hO _).mono ?_; rintro e w1 ⟨rfl, kb⟩))
  rename_i hHeld
  have k1 : Kp w0 w1 := ((Kp.refl w0).drew.trans ka).trans kb
  have T1 : Tab w1 := (hT.kp k0).kp k1
  clear hHeld ka kb hN hO c0 c1 c2 c3
  go_wp2
  go_loopw [12] (fun i wr => ∃ k : Nat, k ≤ 4 ∧ i = .int .i64 k ∧ (∀ j, j < 64 * k → g j = false) ∧ wr = w1) (fun i _ => 4 - (intOf i).toNat)
  case atStart => exact ⟨0, by omega, rfl, fun j hj => absurd hj (by omega), rfl⟩
  case round =>
    obtain ⟨k, hk, rfl, hG, rfl⟩ := hrel
    by_cases hlt : k < 4
    · have hq : k = 0 ∨ k = 1 ∨ k = 2 ∨ k = 3 := by omega
      rcases hq with rfl | rfl | rfl | rfl
      · obtain ⟨x, hx⟩ : ∃ x : Int, x = (wd g 0 : Nat) := ⟨_, rfl⟩
        have hI : ∀ w, (Instr.index 115 (.agg #[.int .u64 (wd g 0 : Nat), .int .u64 (wd g 1 : Nat), .int .u64 (wd g 2 : Nat), .int .u64 (wd g 3 : Nat)]) (.int .i64 0)).run Tryz.prog w = .ok (.int .u64 x) w := by rw [hx]; exact idx4 (wd g) 0 (by omega)
        by_cases h0 : x = 0
        · have HG : Hid (∀ j, j < 64 * (0 + 1) → g j = false) := word_none hG (by omega)
          clear hG hx
          go_wp2
          go_roundw
          case rel => exact ⟨0 + 1, by omega, by go_num, HG.out, trivial⟩
          case measure => simp [intOf]
        · have hN := tz_wd g 0 wr T1
          rw [← hx] at hN
          obtain ⟨HG1, hl⟩ := word_first (q := 0) hG (by omega) (by omega)
          have HG : Hid (fs 256 g = 64 * 0 + tw g 0) := HG1
          clear hG hx HG1
          go_wp2_with fail
          refine hN.mono ?_; rintro e w' ⟨rfl, rfl⟩
          go_wp2
          go_ret2
          exact ⟨by rw [HG.out]; exact tup_int (by unfold nI; rw [if_pos (by omega)]; omega) (by simp; omega), k0.trans k1⟩
      · obtain ⟨x, hx⟩ : ∃ x : Int, x = (wd g 1 : Nat) := ⟨_, rfl⟩
        have hI : ∀ w, (Instr.index 115 (.agg #[.int .u64 (wd g 0 : Nat), .int .u64 (wd g 1 : Nat), .int .u64 (wd g 2 : Nat), .int .u64 (wd g 3 : Nat)]) (.int .i64 1)).run Tryz.prog w = .ok (.int .u64 x) w := by rw [hx]; exact idx4 (wd g) 1 (by omega)
        by_cases h0 : x = 0
        · have HG : Hid (∀ j, j < 64 * (1 + 1) → g j = false) := word_none hG (by omega)
          clear hG hx
          go_wp2
          go_roundw
          case rel => exact ⟨1 + 1, by omega, by go_num, HG.out, trivial⟩
          case measure => simp [intOf]
        · have hN := tz_wd g 1 wr T1
          rw [← hx] at hN
          obtain ⟨HG1, hl⟩ := word_first (q := 1) hG (by omega) (by omega)
          have HG : Hid (fs 256 g = 64 * 1 + tw g 1) := HG1
          clear hG hx HG1
          go_wp2_with fail
          refine hN.mono ?_; rintro e w' ⟨rfl, rfl⟩
          go_wp2
          go_ret2
          exact ⟨by rw [HG.out]; exact tup_int (by unfold nI; rw [if_pos (by omega)]; omega) (by simp; omega), k0.trans k1⟩
      · obtain ⟨x, hx⟩ : ∃ x : Int, x = (wd g 2 : Nat) := ⟨_, rfl⟩
        have hI : ∀ w, (Instr.index 115 (.agg #[.int .u64 (wd g 0 : Nat), .int .u64 (wd g 1 : Nat), .int .u64 (wd g 2 : Nat), .int .u64 (wd g 3 : Nat)]) (.int .i64 2)).run Tryz.prog w = .ok (.int .u64 x) w := by rw [hx]; exact idx4 (wd g) 2 (by omega)
        by_cases h0 : x = 0
        · have HG : Hid (∀ j, j < 64 * (2 + 1) → g j = false) := word_none hG (by omega)
          clear hG hx
          go_wp2
          go_roundw
          case rel => exact ⟨2 + 1, by omega, by go_num, HG.out, trivial⟩
          case measure => simp [intOf]
        · have hN := tz_wd g 2 wr T1
          rw [← hx] at hN
          obtain ⟨HG1, hl⟩ := word_first (q := 2) hG (by omega) (by omega)
          have HG : Hid (fs 256 g = 64 * 2 + tw g 2) := HG1
          clear hG hx HG1
          go_wp2_with fail
          refine hN.mono ?_; rintro e w' ⟨rfl, rfl⟩
          go_wp2
          go_ret2
          exact ⟨by rw [HG.out]; exact tup_int (by unfold nI; rw [if_pos (by omega)]; omega) (by simp; omega), k0.trans k1⟩
      · obtain ⟨x, hx⟩ : ∃ x : Int, x = (wd g 3 : Nat) := ⟨_, rfl⟩
        have hI : ∀ w, (Instr.index 115 (.agg #[.int .u64 (wd g 0 : Nat), .int .u64 (wd g 1 : Nat), .int .u64 (wd g 2 : Nat), .int .u64 (wd g 3 : Nat)]) (.int .i64 3)).run Tryz.prog w = .ok (.int .u64 x) w := by rw [hx]; exact idx4 (wd g) 3 (by omega)
        by_cases h0 : x = 0
        · have HG : Hid (∀ j, j < 64 * (3 + 1) → g j = false) := word_none hG (by omega)
          clear hG hx
          go_wp2
          go_roundw
          case rel => exact ⟨3 + 1, by omega, by go_num, HG.out, trivial⟩
          case measure => simp [intOf]
        · have hN := tz_wd g 3 wr T1
          rw [← hx] at hN
          obtain ⟨HG1, hl⟩ := word_first (q := 3) hG (by omega) (by omega)
          have HG : Hid (fs 256 g = 64 * 3 + tw g 3) := HG1
          clear hG hx HG1
          go_wp2_with fail
          refine hN.mono ?_; rintro e w' ⟨rfl, rfl⟩
          go_wp2
          go_ret2
          exact ⟨by rw [HG.out]; exact tup_int (by unfold nI; rw [if_pos (by omega)]; omega) (by simp; omega), k0.trans k1⟩
    · obtain rfl : k = 4 := by omega
      have HG : Hid (fs 256 g = 256) := fs_none 256 g hG
      clear hG
      go_wp2
      go_ret2
      exact ⟨by rw [HG.out]; exact tup_int rfl rfl, k0.trans k1⟩

end Go.Proofs.YtonooelffokfkaaGreatDoor

namespace Go.Proofs.YtonooelffokfkaaGreatDoor
open Go.RowKit Plain
set_option linter.unusedVariables false

def lw (f : Nat → Bool) (k : Nat) : Nat := ls 64 (fun j => f (64 * k + j))
def lI (n : Nat) : Int := ((n - 1 : Nat) : Int)

theorem in_step (l : List Int) (k : Nat) (h : k < l.length) (i : Nat) : orF (inL (l.take k)) (oneF (l.getD k 0)) i = inL (l.take (k + 1)) i := by
  rw [take_succ_int l k h, inL_app]
  unfold orF oneF
  congr 1
  rw [Bool.eq_iff_iff, decide_eq_true_eq, beq_iff_eq]
  exact ⟨fun h => h.symm, fun h => h.symm⟩
set_option maxRecDepth 100000 in
set_option maxHeartbeats 2000000 in
theorem of_at (a : Option Addr) (b off cap : Nat) (l : List Int) (hm : l.length ≤ 9223372036854775807) (ha : 0 < l.length → a = some ⟨b, off, none⟩) (w : World) (hc : ∀ i, i < l.length → w.cell? ⟨b, off + i, none⟩ = some (.int .i64 (l.getD i 0))) :
    Calls Tryz.prog 42 #[.slice a l.length cap] w fun e w' => e = .returned (SV (inL l)) ∧ Kp w w' := by
  have a1 := (A4.new w no4 115).alloc (.cells (w4 no4) 115)
  have a2 := A4.new (w.alloc (.cells (w4 no4) 115)) no4 115
  have K0 : Kp w ((w.alloc (.cells (w4 no4) 115)).alloc (.cells (w4 no4) 115)) := ((Kp.refl w).alloc _).alloc _
  have e1 : (w.alloc (.cells (w4 no4) 115)).heap.size = w.heap.size + 1 := by simp
  rw [e1] at a2
  clear e1
  obtain ⟨n, hn⟩ : ∃ n, n = l.length := ⟨_, rfl⟩
  rw [← hn] at hm ha ⊢
  have HC : Hid (∀ i, i < n → w.cell? ⟨b, off + i, none⟩ = some (.int .i64 (l.getD i 0))) := fun i hi => hc i (by omega)
  have HN : Hid (n = l.length) := hn
  clear hc hn
  unfold SV
  go_enter Tryz.func42, Tryz.ntmps42
  go_wp2
  go_loopw [9] (fun i wr => ∃ k : Nat, k ≤ n ∧ i = .int .i64 k ∧ A4 wr (w.heap.size + 1) (wd (inL (l.take k))) ∧ A4 wr w.heap.size no4 ∧ Kp w wr) (fun i _ => n - (intOf i).toNat)
  case atStart => exact ⟨0, by omega, rfl, a2.congr (fun j _ => (no_word j).symm), a1, K0⟩
  case round =>
    clear a1 a2 K0
    obtain ⟨k, hk, rfl, h1, h2, hK⟩ := hrel
    by_cases hlt : k < n
    · obtain rfl := ha (by omega)
      have hci := hK.held (HC.out k hlt)
      obtain ⟨x, hx⟩ : ∃ x, x = l.getD k 0 := ⟨_, rfl⟩
      have hS : ∀ i, orF (inL (l.take k)) (oneF x) i = inL (l.take (k + 1)) i := fun i => by rw [hx]; exact in_step l k (by rw [← HN.out]; exact hlt) i
      have hN := with_any (inL (l.take k)) x
      rw [SV_congr (fun i _ => hS i)] at hN
      rw [← hx] at hci
      obtain ⟨g, hg⟩ : ∃ g, g = inL (l.take k) := ⟨_, rfl⟩
      obtain ⟨g', hg'⟩ : ∃ g', g' = inL (l.take (k + 1)) := ⟨_, rfl⟩
      rw [← hg] at h1 hN
      rw [← hg'] at hN
      obtain ⟨c0, c1, c2, c3⟩ := h1.cells
      have HZ : Hid (∀ W, Kp wr W → (W.cell? ⟨w.heap.size + 1, 0, none⟩ = some (.int .u64 (wd g 0 : Nat)) ∧ W.cell? ⟨w.heap.size + 1, 1, none⟩ = some (.int .u64 (wd g 1 : Nat)) ∧ W.cell? ⟨w.heap.size + 1, 2, none⟩ = some (.int .u64 (wd g 2 : Nat)) ∧ W.cell? ⟨w.heap.size + 1, 3, none⟩ = some (.int .u64 (wd g 3 : Nat))) ∧ (∀ o, W.frozen? ⟨w.heap.size + 1, o, none⟩ = false) ∧ A4 (put4 W (w.heap.size + 1) (wd g')) (w.heap.size + 1) (wd (inL (l.take (k + 1)))) ∧ A4 (put4 W (w.heap.size + 1) (wd g')) w.heap.size no4 ∧ Kp w (put4 W (w.heap.size + 1) (wd g'))) := fun W hw =>
        ⟨(h1.kept hw).cells, (h1.kept hw).z, by rw [← hg']; exact (h1.kept hw).put _, (h2.kept hw).putFar (by omega) _, (hK.trans hw).put4 (by omega) _⟩
      clear h1 h2 hK hg hg' hx hS
      unfold SV at hN
      go_wp2_with fail
      refine (hN _).mono ?_; rintro e W ⟨rfl, kW⟩
      obtain ⟨⟨d0, d1, d2, d3⟩, zz, HR0⟩ := HZ.out W kW
      have HR : Hid (A4 (put4 W (w.heap.size + 1) (wd g')) (w.heap.size + 1) (wd (inL (l.take (k + 1)))) ∧ A4 (put4 W (w.heap.size + 1) (wd g')) w.heap.size no4 ∧ Kp w (put4 W (w.heap.size + 1) (wd g'))) := HR0
      clear HR0 HZ kW c0 c1 c2 c3 hci
      go_wp2
      go_roundw
      case rel => exact ⟨k + 1, by omega, by go_num, HR.out⟩
      case measure => simp [intOf]; omega
    · obtain rfl : k = n := by omega
      rw [HN.out, List.take_length] at h1
      obtain ⟨c0, c1, c2, c3⟩ := h1.cells
      obtain ⟨d0, d1, d2, d3⟩ := h2.cells
      have z3 := h2.z
      have HA : Hid (A4 (put4 wr w.heap.size (wd (inL l))) w.heap.size (wd (inL l)) ∧ Kp w (put4 wr w.heap.size (wd (inL l)))) := ⟨h2.put _, hK.put4 (by omega) _⟩
      clear h1 h2 hK ha
      go_wp2
      refine bodyPost_ret (results_set rfl _ _ w.heap.size (wd (inL l)) rfl HA.out.1) rfl ?_
      exact ⟨rfl, HA.out.2⟩
theorem of_any (v : Value) (l : List Int) (w : World) (h : IntsIn w v l) : Calls Tryz.prog 42 #[v] w fun e w' => e = .returned (SV (inL l)) ∧ Kp w w' := by
  cases h with
  | empty a cap h => exact of_at a 0 0 cap [] (by simp) (fun h => absurd h (by simp)) w (fun i hi => absurd hi (by simp))
  | some b off cap l h0 h1 h2 hc => exact of_at _ b off cap l (by unfold maxLen at h2; omega) (fun _ => rfl) w hc

end Go.Proofs.YtonooelffokfkaaGreatDoor

namespace Go.Proofs.YtonooelffokfkaaGreatDoor
open Go.RowKit Plain
set_option linter.unusedVariables false

theorem A4.grown {w w' : World} {b : Nat} {v : Nat → Nat} {row : Option Nat} (h : A4 w b v) (g : w.grownBy w' row) (hr : ∀ k, row = some k → b < k) : A4 w' b v :=
  h.of_block (g.block b h.lt (fun e => by have := hr b e.symm; omega)) g.size
def iv (l : List Nat) : List Value := l.map fun i => Value.int .i64 (i : Nat)
theorem IntsIn.owned {w : World} {base : Nat} {e : TypeId} {v : Value} {l : List Nat} (h : w.ownsRow base e 1 v l.length (iv l)) : IntsIn w v (l.map Int.ofNat) := by
  rcases h.2 with ⟨rfl, h0⟩ | ⟨g, cap, cur, rfl, _, hg, hn, hm, _, htake⟩
  · obtain rfl : l = [] := List.eq_nil_of_length_eq_zero h0
    exact .empty none 0 (by unfold maxLen; omega)
  · by_cases h0 : l.length = 0
    · obtain rfl : l = [] := List.eq_nil_of_length_eq_zero h0
      exact .empty _ cap hm
    · have := IntsIn.some (w := w) g 0 cap (l.map Int.ofNat) (by rw [List.length_map]; omega) (by rw [List.length_map]; omega) hm (fun i hi => by
        rw [List.length_map] at hi
        rw [Nat.zero_add, h.cellAt i (by omega)]
        unfold iv
        simp [List.getD_eq_getElem?_getD, hi])
      rw [List.length_map] at this
      exact this
def meas (i ok : Value) : Nat := match ok with | .bool true => 256 - (intOf i).toNat | _ => 0
theorem fl_next (f : Nat → Bool) (a : Nat) (ha : a ≤ 256) : fl (nx f a) f = fl (min a 256) f ∧ (nx f a < 256 → f (nx f a) = true) ∧ nx f a ≤ 256 ∧ (nx f a < 256 → a ≤ nx f a) := by
  have h1 := fs_le 256 (lessF f (upF a))
  have h2 := fs_at 256 (lessF f (upF a))
  have h3 := fs_before 256 (lessF f (upF a))
  have hge : nx f a < 256 → a ≤ nx f a := fun hl => by
    have := h2 hl
    unfold lessF upF at this
    rw [Bool.and_eq_true, Bool.not_eq_true', decide_eq_false_iff_not] at this
    unfold nx lessF upF
    omega
  refine ⟨?_, fun hl => ?_, h1, hge⟩
  · rw [show min a 256 = a by omega]
    refine fl_skip' f a (nx f a) ?_ (fun j h4 h5 => ?_)
    · by_cases hl : nx f a < 256
      · exact hge hl
      · have : nx f a ≤ 256 := h1
        omega
    · have := h3 j h5
      unfold lessF upF at this
      rw [decide_eq_false (by omega), Bool.not_false, Bool.and_true] at this
      exact this
  · have := h2 hl
    unfold lessF at this
    rw [Bool.and_eq_true] at this
    exact this.1
set_option maxRecDepth 100000 in
set_option maxHeartbeats 4000000 in
theorem list_any (f : Nat → Bool) (w : World) (hT : Tab w) : Calls Tryz.prog 126 #[SV f] w fun e w' => ∃ v, e = .returned v ∧ IntsIn w' v ((fl 256 f).map Int.ofNat) ∧ Kp w w' := by
  obtain ⟨i0, hi, hz0, hz1, hz2⟩ := info_parts info_int
  obtain ⟨w0, hw0⟩ : ∃ w0, w0 = w.alloc (.cells (w4 (wd f)) 115) := ⟨_, rfl⟩
  have a1 : A4 w0 w.heap.size (wd f) := by rw [hw0]; exact A4.new w _ _
  have k0 : Kp w w0 := by rw [hw0]; exact (Kp.refl w).alloc _
  have HW : Hid (w0 = w.alloc (.cells (w4 (wd f)) 115)) := hw0
  clear hw0
  have hC := count_anyL7 f w0
  have hcn := cn_le 256 f
  obtain ⟨c, hc⟩ : ∃ c, c = cn 256 f := ⟨_, rfl⟩
  rw [← hc] at hC hcn
  clear hc
  unfold SV at hC ⊢
  go_enter Tryz.func126, Tryz.ntmps126
  go_wp2_with fail
  rw [show w.alloc (.cells #[.int .u64 ((wd f 0 : Nat) : Int), .int .u64 ((wd f 1 : Nat) : Int), .int .u64 ((wd f 2 : Nat) : Int), .int .u64 ((wd f 3 : Nat) : Int)] 115) = w0 from HW.out.symm]
  clear HW
  refine hC.mono ?_; rintro e w1 ⟨rfl, k1⟩
  have a2 := a1.kept k1
  have K1 := k0.trans k1
  have hlt := a2.lt
  clear hC a1 k0 k1
  go_wp2_with (at_make; refine wpList_make_own _ rfl _ _ 22 rfl (w.heap.size + 1) 3 i0 (.int .i64 0) 1 Tryz.underlying22 hi hz0 hz1 .i64 .i64 _ c rfl rfl (by omega) (by rw [hz2]; omega) (by unfold maxLen; omega) (by omega) ?_; intro w2 hown2 hgrow2; have k2 : Kp w1 w2 := (Kp.refl w1).grown hgrow2 (fun k hk => by cases hk); have a3 := a2.kept k2; obtain ⟨c0, c1, c2, c3⟩ := a3.cells)
  have K2 := K1.trans k2
  have hN := next_any f 0 (by omega) w2 (hT.kp K2)
  obtain ⟨e1, e2, e3, e4⟩ := fl_next f 0 (by omega)
  have hown3 : w2.ownsRow (w.heap.size + 1) 3 1 (.slice (some ⟨w1.heap.size, 0, none⟩) 0 c) (fl (nx f 0) f).length (iv (fl (nx f 0) f)) := by
    have e1' : fl (nx f 0) f = [] := e1
    rw [e1']; exact hown2
  have HX : Hid (nx f 0 ≤ 256 ∧ (nx f 0 < 256 → f (nx f 0) = true)) := ⟨e3, e2⟩
  clear e1 e2 e3 e4 hown2 hgrow2 K1 a2 k2 hlt
  obtain ⟨N0, hN0⟩ : ∃ N0, N0 = nx f 0 := ⟨_, rfl⟩
  rw [← hN0] at hN hown3 HX
  clear hN0
  unfold SV at hN
  refine hN.mono ?_; rintro e w3 ⟨rfl, k3⟩
  have a4 := a3.kept k3
  have K3 := K2.trans k3
  have hown4 := k3.own hown3
  clear hN a3 K2 hown3 k3 c0 c1 c2 c3
  go_wp2
  go_loopw [3, 4, 5] (fun v i ok wr => ∃ N : Nat, (N ≤ 256 ∧ (N < 256 → f N = true)) ∧ i = .int .i64 (nI N) ∧ ok = .bool (decide (N < 256)) ∧ wr.ownsRow (w.heap.size + 1) 3 1 v (fl N f).length (iv (fl N f)) ∧ A4 wr w.heap.size (wd f) ∧ Kp w wr) (fun _ i ok _ => meas i ok)
  case atStart => exact ⟨N0, HX.out, rfl, rfl, hown4, a4, K3⟩
  case round =>
    clear hown4 a4 K3 HX
    obtain ⟨N, ⟨hN1, hN2⟩, rfl, rfl, hown, a5, hK⟩ := hrel
    by_cases hlt : N < 256
    · rw [show nI N = (N : Int) from if_pos hlt, decide_eq_true hlt]
      obtain ⟨e1, e2, e3, e4⟩ := fl_next f (N + 1) (by omega)
      have hx := fl_le N f
      rw [show min (N + 1) 256 = N + 1 by omega, show fl (N + 1) f = fl N f ++ [N] from if_pos (hN2 hlt)] at e1
      have hb := a5.lt
      have HL : Hid (fl (nx f (N + 1 : Nat)) f = fl N f ++ [N]) := e1
      have HX : Hid (nx f (N + 1 : Nat) ≤ 256 ∧ (nx f (N + 1 : Nat) < 256 → f (nx f (N + 1 : Nat)) = true) ∧ (nx f (N + 1 : Nat) < 256 → N + 1 ≤ nx f (N + 1 : Nat))) := ⟨e3, e2, e4⟩
      clear e1 e2 e3 e4 hN2
      go_wp2_with (at_builtin; refine wpList_append_own _ rfl _ _ 22 rfl (w.heap.size + 1) 3 i0 (.int .i64 0) 1 8 Tryz.underlying22 hi hz0 hz1 hz2 rfl (by decide) _ _ _ rfl (hown.alloc _) ⟨wr.heap.size, 0, none⟩ 1 1 [.int .i64 (N : Int)] rfl rfl (cell_one_new _ _ _) (by simp [Value.oneCell']) (by unfold maxLen; omega) (by omega) (by simp; omega) ?_; intro v' w5 hown5 hgrow5 _; have K5 : Kp w w5 := (hK.alloc _).grown hgrow5 (fun k hk => by have := own_lt hown k hk; omega); have a6 := (a5.alloc _).grown hgrow5 (fun k hk => by have := own_lt hown k hk; omega); obtain ⟨c0, c1, c2, c3⟩ := a6.cells)
      have hN := next_any f (N + 1 : Nat) (by omega) w5 (hT.kp K5)
      have hown6 : w5.ownsRow (w.heap.size + 1) 3 1 v' (fl (nx f (N + 1 : Nat)) f).length (iv (fl (nx f (N + 1 : Nat)) f)) := by
        rw [HL.out]
        unfold iv
        rw [List.length_append, List.map_append]
        exact hown5
      obtain ⟨M, hM⟩ : ∃ M, M = nx f (N + 1 : Nat) := ⟨_, rfl⟩
      rw [← hM] at hN hown6 HX
      clear HL hM hown5 hown hgrow5 a5 hK hb hx
      unfold SV at hN
      refine hN.mono ?_; rintro e w6 ⟨rfl, k6⟩
      have a7 := a6.kept k6
      have K6 := K5.trans k6
      have hown7 := k6.own hown6
      have HXX := HX.out
      clear hN a6 K5 hown6 k6 c0 c1 c2 c3
      go_wp2
      go_roundw
      case rel => exact ⟨M, ⟨HX.out.1, HX.out.2.1⟩, rfl, rfl, hown7, a7, K6⟩
      case measure =>
        clear hown7 a7 K6
        simp only [meas, intOf]
        by_cases hm : M < 256
        · have := HXX.2.2 hm
          rw [decide_eq_true hm, show nI M = (M : Int) from if_pos hm]
          simp only
          omega
        · rw [decide_eq_false hm]
          simp only
          omega
    · obtain rfl : N = 256 := by omega
      have HI := IntsIn.owned hown
      clear hown hN2
      go_wp2
      go_ret
      exact ⟨_, rfl, HI, hK⟩

end Go.Proofs.YtonooelffokfkaaGreatDoor
