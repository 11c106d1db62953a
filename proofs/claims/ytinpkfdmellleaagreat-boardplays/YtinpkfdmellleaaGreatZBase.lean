/-
  What all layers lean on: numbers, texts, rows in memory, worlds that hold what was held. No condition.
-/
import Derived.Test.YtinpkfdmellleaaGreatRows
import Derived.WalkKit
import Derived.WalkSpells
import Derived.WalkLawsBesides
import Derived.BigQuiet
import Derived.Laws.BytesArg
import Derived.Deep.AppendSrc
import Derived.OwnWalk
import Derived.ProofKit
import Derived.OpenShut
import Derived.WideKeyArgs
import Derived.ChangeSlices
import Derived.SliceStrings
import Derived.WideKeyPair
import Derived.Deep.Quiet
import Derived.KernelRfl
import Derived.LaidMore
import Derived.Deep.OwnRows
import Derived.Maps.AppendAt
namespace Go.Proofs.YtinpkfdmellleaaGreat.Plain

def hiN (x : Nat) : Nat := (x &&& 9259542123273814144) / 128 * 255 % 18446744073709551616
def twN (x : Nat) : Nat := (x * 2 % 18446744073709551616 &&& 18374403900871474942) ^^^ (hiN x &&& 2097865012304223517)
def hfN (x : Nat) : Nat := (x / 2 &&& 9187201950435737471) ^^^ (hiN (x * 128 % 18446744073709551616) &&& 10272304543006887566)

/-- a function of bytes, done to each of the lowest n bytes. -/
def lm (f : Nat → Nat) : Nat → Nat → Nat
  | 0, _ => 0
  | n + 1, x => f (x % 256) + 256 * lm f n (x / 256)
/-- n times one byte. -/
def rep (k : Nat) : Nat → Nat
  | 0 => 0
  | n + 1 => k + 256 * rep k n

theorem and_cons (a b c d : Nat) (ha : a < 256) (hc : c < 256) : (a + 256 * b) &&& (c + 256 * d) = (a &&& c) + 256 * (b &&& d) := by
  have h1 : ((a + 256 * b) &&& (c + 256 * d)) % 2 ^ 8 = a &&& c := by
    rw [Nat.and_mod_two_pow]; congr 1 <;> omega
  have h2 : ((a + 256 * b) &&& (c + 256 * d)) / 2 ^ 8 = b &&& d := by
    rw [Nat.and_div_two_pow]; congr 1 <;> omega
  omega
theorem xor_cons (a b c d : Nat) (ha : a < 256) (hc : c < 256) : (a + 256 * b) ^^^ (c + 256 * d) = (a ^^^ c) + 256 * (b ^^^ d) := by
  have h1 : ((a + 256 * b) ^^^ (c + 256 * d)) % 2 ^ 8 = a ^^^ c := by
    rw [Nat.xor_mod_two_pow]; congr 1 <;> omega
  have h2 : ((a + 256 * b) ^^^ (c + 256 * d)) / 2 ^ 8 = b ^^^ d := by
    rw [Nat.xor_div_two_pow]; congr 1 <;> omega
  omega
theorem xor_lt (a b : Nat) (ha : a < 256) (hb : b < 256) : a ^^^ b < 256 := Nat.xor_lt_two_pow (n := 8) ha hb

theorem lm_congr {f g : Nat → Nat} (h : ∀ b, b < 256 → f b = g b) : ∀ n x, lm f n x = lm g n x
  | 0, _ => rfl
  | n + 1, x => by simp only [lm]; rw [h _ (Nat.mod_lt _ (by omega)), lm_congr h n]
theorem lm_lt {f : Nat → Nat} (h : ∀ b, b < 256 → f b < 256) : ∀ n x, lm f n x < 256 ^ n
  | 0, _ => by simp [lm]
  | n + 1, x => by
    simp only [lm]
    have h1 := h _ (Nat.mod_lt x (by omega : 256 > 0))
    have h2 := lm_lt h n (x / 256)
    rw [Nat.pow_succ]; omega
theorem lm_and {f : Nat → Nat} (k : Nat) (hk : k < 256) (h : ∀ b, b < 256 → f b < 256) : ∀ n x, lm f n x &&& rep k n = lm (fun b => f b &&& k) n x
  | 0, _ => by simp [lm, rep]
  | n + 1, x => by
    simp only [lm, rep]
    rw [and_cons _ _ _ _ (h _ (Nat.mod_lt _ (by omega))) hk, lm_and k hk h n]
theorem lm_xor {f g : Nat → Nat} (h : ∀ b, b < 256 → f b < 256) (h' : ∀ b, b < 256 → g b < 256) : ∀ n x, lm f n x ^^^ lm g n x = lm (fun b => f b ^^^ g b) n x
  | 0, _ => by simp [lm]
  | n + 1, x => by
    simp only [lm]
    rw [xor_cons _ _ _ _ (h _ (Nat.mod_lt _ (by omega))) (h' _ (Nat.mod_lt _ (by omega))), lm_xor h h' n]
theorem lm_lm {f g : Nat → Nat} (h : ∀ b, b < 256 → f b < 256) : ∀ n x, lm g n (lm f n x) = lm (fun b => g (f b)) n x
  | 0, _ => rfl
  | n + 1, x => by
    have h1 := h _ (Nat.mod_lt x (by omega : 256 > 0))
    simp only [lm]
    rw [show (f (x % 256) + 256 * lm f n (x / 256)) % 256 = f (x % 256) by omega, show (f (x % 256) + 256 * lm f n (x / 256)) / 256 = lm f n (x / 256) by omega, lm_lm h n]
theorem lm_id : ∀ n x, x < 256 ^ n → lm (fun b => b) n x = x
  | 0, x, h => by simp [lm] at *; omega
  | n + 1, x, h => by
    simp only [lm]; rw [lm_id n]
    · omega
    · rw [Nat.pow_succ] at h; exact Nat.div_lt_of_lt_mul (by omega)
theorem lm_lin {f : Nat → Nat} (h : ∀ b, b < 256 → f b < 256) (hf : ∀ a, a < 256 → ∀ b, b < 256 → f (a ^^^ b) = f a ^^^ f b) : ∀ n x y, lm f n (x ^^^ y) = lm f n x ^^^ lm f n y
  | 0, _, _ => by simp [lm]
  | n + 1, x, y => by
    have e1 : (x ^^^ y) % 256 = x % 256 ^^^ y % 256 := Nat.xor_mod_two_pow (n := 8)
    have e2 : (x ^^^ y) / 256 = x / 256 ^^^ y / 256 := Nat.xor_div_two_pow (n := 8)
    simp only [lm]
    rw [xor_cons _ _ _ _ (h _ (Nat.mod_lt _ (by omega))) (h _ (Nat.mod_lt _ (by omega))), e1, e2, hf _ (Nat.mod_lt _ (by omega)) _ (Nat.mod_lt _ (by omega)), lm_lin h hf n]

/-! ### the functions of a byte -/
def hb (b : Nat) : Nat := b / 128 * 255
def lb (b : Nat) : Nat := b % 2 * 255
def tb (b : Nat) : Nat := (b * 2 % 256) ^^^ (hb b &&& 29)
def fb (b : Nat) : Nat := (b / 2) ^^^ (lb b &&& 142)

theorem hi_mask : ∀ n x, (x &&& rep 128 n) = 128 * lm (fun b => b / 128) n x
  | 0, _ => by simp [lm, rep]
  | n + 1, x => by
    have e : x = x % 256 + 256 * (x / 256) := by omega
    have hl := Nat.mod_lt x (by omega : 256 > 0)
    have h1 : x % 256 &&& 128 = 128 * (x % 256 / 128) := by
      generalize x % 256 = a at *
      have key : ∀ a, a < 256 → a &&& 128 = 128 * (a / 128) := by decide +kernel
      exact key a hl
    have h2 : x &&& (128 + 256 * rep 128 n) = (x % 256 &&& 128) + 256 * (x / 256 &&& rep 128 n) := by
      conv => lhs; rw [e]
      exact and_cons _ _ _ _ hl (by omega)
    simp only [lm, rep]
    rw [h2, h1, hi_mask n]; omega
theorem lm_mul (f : Nat → Nat) (k : Nat) : ∀ n x, lm f n x * k = lm (fun b => f b * k) n x
  | 0, _ => by simp [lm]
  | n + 1, x => by
    simp only [lm]; rw [← lm_mul f k n, Nat.add_mul, Nat.mul_assoc]
theorem lt_hb (b : Nat) (h : b < 256) : hb b < 256 := by unfold hb; omega
theorem lt_lb (b : Nat) : lb b < 256 := by unfold lb; omega
theorem hi_lm (x : Nat) : hiN x = lm hb 8 x := by
  have h := hi_mask 8 x
  have e : rep 128 8 = 9259542123273814144 := by decide +kernel
  rw [e] at h
  unfold hiN
  rw [h, Nat.mul_div_cancel_left _ (by omega : 0 < 128), lm_mul]
  have hl := lm_lt (f := hb) lt_hb 8 x
  have e2 : (256 : Nat) ^ 8 = 18446744073709551616 := by decide +kernel
  rw [e2] at hl
  exact Nat.mod_eq_of_lt hl
theorem tw_mask : ∀ n x c, c ≤ 1 → ((x * 2 + c) % 256 ^ n &&& rep 254 n) = lm (fun b => b * 2 % 256) n x
  | 0, _, _, _ => by simp [lm, rep]
  | n + 1, x, c, hc => by
    have hl := Nat.mod_lt x (by omega : 256 > 0)
    have e : (x * 2 + c) % 256 ^ (n + 1) = (x % 256 * 2 + c) % 256 + 256 * ((x / 256 * 2 + (x % 256 * 2 + c) / 256) % 256 ^ n) := by
      rw [Nat.pow_succ, Nat.mul_comm (256 ^ n) 256, Nat.mod_mul, show (x * 2 + c) % 256 = (x % 256 * 2 + c) % 256 by omega, show (x * 2 + c) / 256 = x / 256 * 2 + (x % 256 * 2 + c) / 256 by omega]
    have key : ∀ a, a < 256 → ∀ c, c < 2 → ((a * 2 + c) % 256 &&& 254) = a * 2 % 256 := by decide +kernel
    simp only [lm, rep]
    rw [e, and_cons _ _ _ _ (Nat.mod_lt _ (by omega)) (by omega), key _ hl c (by omega), tw_mask n _ _ (by omega)]
theorem tw_lm (x : Nat) : twN x = lm tb 8 x := by
  have h := tw_mask 8 x 0 (by omega)
  have e : rep 254 8 = 18374403900871474942 := by decide +kernel
  have e2 : (256 : Nat) ^ 8 = 18446744073709551616 := by decide +kernel
  rw [e, e2, Nat.add_zero] at h
  have h2 := lm_and (f := hb) 29 (by omega) lt_hb 8 x
  have e3 : rep 29 8 = 2097865012304223517 := by decide +kernel
  rw [e3] at h2
  unfold twN
  rw [h, hi_lm, h2, lm_xor (fun b _ => Nat.mod_lt _ (by omega)) (fun b hb' => Nat.lt_of_le_of_lt Nat.and_le_right (by omega))]
  rfl
theorem hf_mask : ∀ n x, (x / 2 &&& rep 127 n) = lm (fun b => b / 2) n x
  | 0, _ => by simp [lm, rep]
  | n + 1, x => by
    have e : x / 2 = (x % 256 / 2 + 128 * (x / 256 % 2)) + 256 * (x / 256 / 2) := by omega
    have key : ∀ a, a < 256 → ∀ c, c < 2 → ((a / 2 + 128 * c) &&& 127) = a / 2 := by decide +kernel
    simp only [lm, rep]
    rw [e, and_cons _ _ _ _ (by omega) (by omega), key _ (by omega) _ (by omega), hf_mask n]
theorem lo_mask : ∀ n x c, c < 128 → ((x * 128 + c) % 256 ^ n &&& rep 128 n) = 128 * lm (fun b => b % 2) n x
  | 0, _, _, _ => by simp [lm, rep]
  | n + 1, x, c, hc => by
    have e : (x * 128 + c) % 256 ^ (n + 1) = (128 * (x % 2) + c) + 256 * ((x / 256 * 128 + x % 256 / 2) % 256 ^ n) := by
      rw [Nat.pow_succ, Nat.mul_comm (256 ^ n) 256, Nat.mod_mul, show (x * 128 + c) % 256 = 128 * (x % 2) + c by omega, show (x * 128 + c) / 256 = x / 256 * 128 + x % 256 / 2 by omega]
    have key : ∀ a, a < 2 → ∀ c, c < 128 → ((128 * a + c) &&& 128) = 128 * a := by decide +kernel
    have e4 : x % 256 % 2 = x % 2 := by omega
    simp only [lm, rep]
    rw [e, and_cons _ _ _ _ (by omega) (by omega), key _ (by omega) c hc, lo_mask n _ _ (by omega), e4]
    omega
theorem lo_lm (x : Nat) : hiN (x * 128 % 18446744073709551616) = lm lb 8 x := by
  have h := lo_mask 8 x 0 (by omega)
  have e : rep 128 8 = 9259542123273814144 := by decide +kernel
  have e2 : (256 : Nat) ^ 8 = 18446744073709551616 := by decide +kernel
  rw [e, e2, Nat.add_zero] at h
  unfold hiN
  rw [h, Nat.mul_div_cancel_left _ (by omega : 0 < 128), lm_mul]
  have hl := lm_lt (f := lb) (fun b _ => lt_lb b) 8 x
  rw [e2] at hl
  exact Nat.mod_eq_of_lt hl
theorem hf_lm (x : Nat) : hfN x = lm fb 8 x := by
  have h := hf_mask 8 x
  have e : rep 127 8 = 9187201950435737471 := by decide +kernel
  rw [e] at h
  have h2 := lm_and (f := lb) 142 (by omega) (fun b _ => lt_lb b) 8 x
  have e3 : rep 142 8 = 10272304543006887566 := by decide +kernel
  rw [e3] at h2
  unfold hfN
  rw [h, lo_lm, h2, lm_xor (fun b hb' => by omega) (fun b _ => Nat.lt_of_le_of_lt Nat.and_le_right (by omega))]
  rfl

theorem tb_lt : ∀ b, b < 256 → tb b < 256 := by decide +kernel
theorem fb_lt : ∀ b, b < 256 → fb b < 256 := by decide +kernel
theorem fb_tb : ∀ b, b < 256 → fb (tb b) = b := by decide +kernel
theorem tb_fb : ∀ b, b < 256 → tb (fb b) = b := by decide +kernel
theorem xor_swap (p q r s : Nat) : p ^^^ q ^^^ (r ^^^ s) = p ^^^ r ^^^ (q ^^^ s) := by
  rw [Nat.xor_assoc, Nat.xor_assoc, ← Nat.xor_assoc q, ← Nat.xor_assoc r, Nat.xor_comm q r]
theorem tb_lin : ∀ a, a < 256 → ∀ b, b < 256 → tb (a ^^^ b) = tb a ^^^ tb b := by
  intro a ha b hb'
  have e1 : (a ^^^ b) * 2 % 256 = (a * 2 % 256) ^^^ (b * 2 % 256) := by
    have h := Nat.shiftLeft_xor_distrib (a := a) (b := b) (i := 1)
    simp only [Nat.shiftLeft_eq] at h
    rw [show (2 : Nat) ^ 1 = 2 by rfl] at h
    rw [h]; exact Nat.xor_mod_two_pow (n := 8)
  have e2 : (a ^^^ b) / 128 = a / 128 ^^^ b / 128 := Nat.xor_div_two_pow (n := 7)
  have key : ∀ u, u < 2 → ∀ v, v < 2 → ((u ^^^ v) * 255 &&& 29) = (u * 255 &&& 29) ^^^ (v * 255 &&& 29) := by decide +kernel
  unfold tb hb
  rw [e1, e2, key _ (by omega) _ (by omega)]
  exact xor_swap _ _ _ _

theorem word_lt {f : Nat → Nat} (h : ∀ b, b < 256 → f b < 256) (x : Nat) : lm f 8 x < 18446744073709551616 := by
  have := lm_lt h 8 x
  have e2 : (256 : Nat) ^ 8 = 18446744073709551616 := by decide +kernel
  omega
theorem hi_lt (x : Nat) : hiN x < 18446744073709551616 := by rw [hi_lm]; exact word_lt lt_hb x
theorem tw_lt (x : Nat) : twN x < 18446744073709551616 := by rw [tw_lm]; exact word_lt tb_lt x
theorem hf_lt (x : Nat) : hfN x < 18446744073709551616 := by rw [hf_lm]; exact word_lt fb_lt x
theorem tw_lin (x y : Nat) : twN (x ^^^ y) = twN x ^^^ twN y := by
  simp only [tw_lm]; exact lm_lin tb_lt tb_lin 8 x y
theorem word_id (x : Nat) (h : x < 18446744073709551616) : lm (fun b => b) 8 x = x := lm_id 8 x (by
  have e2 : (256 : Nat) ^ 8 = 18446744073709551616 := by decide +kernel
  omega)
theorem hf_tw (x : Nat) (h : x < 18446744073709551616) : hfN (twN x) = x := by
  rw [hf_lm, tw_lm, lm_lm tb_lt, lm_congr fb_tb, word_id x h]
theorem tw_hf (x : Nat) (h : x < 18446744073709551616) : twN (hfN x) = x := by
  rw [hf_lm, tw_lm, lm_lm fb_lt, lm_congr tb_fb, word_id x h]

/-! ### Times -/
def twI (x : Nat) : Nat → Nat
  | 0 => x
  | n + 1 => twN (twI x n)
def tmS (x c : Nat) : Nat → Nat
  | 0 => 0
  | n + 1 => if c / 2 ^ n % 2 = 1 then tmS x c n ^^^ twI x n else tmS x c n
def tmN (x c : Nat) : Nat := tmS x c 8
theorem xor64 (a b : Nat) (ha : a < 18446744073709551616) (hb : b < 18446744073709551616) : a ^^^ b < 18446744073709551616 := Nat.xor_lt_two_pow (n := 64) ha hb
theorem twI_lt (x : Nat) (h : x < 18446744073709551616) : ∀ n, twI x n < 18446744073709551616
  | 0 => h
  | _ + 1 => tw_lt _
theorem tmS_lt (x c : Nat) (h : x < 18446744073709551616) : ∀ n, tmS x c n < 18446744073709551616
  | 0 => by simp [tmS]
  | n + 1 => by
    simp only [tmS]; split
    · exact xor64 _ _ (tmS_lt x c h n) (twI_lt x h n)
    · exact tmS_lt x c h n
theorem tm_lt (x c : Nat) (h : x < 18446744073709551616) : tmN x c < 18446744073709551616 := tmS_lt x c h 8
theorem twI_lin (x y : Nat) : ∀ n, twI (x ^^^ y) n = twI x n ^^^ twI y n
  | 0 => rfl
  | n + 1 => by simp only [twI]; rw [twI_lin x y n, tw_lin]
theorem tmS_lin (x y c : Nat) : ∀ n, tmS (x ^^^ y) c n = tmS x c n ^^^ tmS y c n
  | 0 => by simp [tmS]
  | n + 1 => by
    simp only [tmS]
    by_cases h : c / 2 ^ n % 2 = 1
    · rw [if_pos h, if_pos h, if_pos h, tmS_lin x y c n, twI_lin]; exact xor_swap _ _ _ _
    · rw [if_neg h, if_neg h, if_neg h, tmS_lin x y c n]
theorem tm_lin (x y c : Nat) : tmN (x ^^^ y) c = tmN x c ^^^ tmN y c := tmS_lin x y c 8
theorem bit_xor (c d n : Nat) : (c ^^^ d) / 2 ^ n % 2 = (c / 2 ^ n % 2) ^^^ (d / 2 ^ n % 2) := by
  have h1 := Nat.xor_div_two_pow (a := c) (b := d) (n := n)
  have h2 := Nat.xor_mod_two_pow (a := c / 2 ^ n) (b := d / 2 ^ n) (n := 1)
  rw [h1]; exact h2
theorem tmS_sum (x c d : Nat) : ∀ n, tmS x (c ^^^ d) n = tmS x c n ^^^ tmS x d n
  | 0 => by simp [tmS]
  | n + 1 => by
    have hb := bit_xor c d n
    have hc : c / 2 ^ n % 2 = 0 ∨ c / 2 ^ n % 2 = 1 := by omega
    have hd : d / 2 ^ n % 2 = 0 ∨ d / 2 ^ n % 2 = 1 := by omega
    have ih := tmS_sum x c d n
    simp only [tmS]
    generalize twI x n = t
    generalize tmS x c n = p at *
    generalize tmS x d n = q at *
    rw [ih]
    rcases hc with hc | hc <;> rcases hd with hd | hd <;> rw [hc, hd] at hb <;> simp [hb, hc, hd]
    · rw [Nat.xor_assoc]
    · rw [Nat.xor_assoc, Nat.xor_comm q t, ← Nat.xor_assoc]
    · have := xor_swap p t q t
      rw [this]; simp
theorem tm_sum (x c d : Nat) : tmN x (c ^^^ d) = tmN x c ^^^ tmN x d := tmS_sum x c d 8
theorem twI_tw (x : Nat) : ∀ n, twI (twN x) n = twN (twI x n)
  | 0 => rfl
  | n + 1 => by simp only [twI]; rw [twI_tw x n]
theorem tmS_tw (x c : Nat) : ∀ n, tmS (twN x) c n = twN (tmS x c n)
  | 0 => by simp only [tmS]; decide +kernel
  | n + 1 => by
    simp only [tmS]
    by_cases h : c / 2 ^ n % 2 = 1
    · rw [if_pos h, if_pos h, tmS_tw x c n, twI_tw, tw_lin]
    · rw [if_neg h, if_neg h, tmS_tw x c n]
theorem tmS_twI (x c n : Nat) : ∀ m, tmS (twI x m) c n = twI (tmS x c n) m
  | 0 => rfl
  | m + 1 => by simp only [twI]; rw [tmS_tw, tmS_twI x c n m]
theorem tmS_zero (c : Nat) : ∀ n, tmS 0 c n = 0
  | 0 => rfl
  | n + 1 => by
    have e : ∀ n, twI 0 n = 0 := by
      intro n; induction n with
      | zero => rfl
      | succ n ih => simp only [twI]; rw [ih]; decide +kernel
    simp only [tmS]; rw [tmS_zero c n, e]; simp
theorem tmS_comm (x c d k : Nat) : ∀ n, tmS (tmS x d n) c k = tmS (tmS x c k) d n
  | 0 => by simp only [tmS]; exact tmS_zero c k
  | n + 1 => by
    simp only [tmS]
    by_cases h : d / 2 ^ n % 2 = 1
    · rw [if_pos h, if_pos h, tmS_lin, tmS_comm x c d k n, tmS_twI]
    · rw [if_neg h, if_neg h, tmS_comm x c d k n]
theorem tm_comm (x c d : Nat) : tmN (tmN x c) d = tmN (tmN x d) c := tmS_comm x d c 8 8
theorem tm_one (x : Nat) : tmN x 1 = x := by
  simp [tmN, tmS, twI]
theorem tm_zero (x : Nat) : tmN x 0 = 0 := by
  simp [tmN, tmS]

/-! ### a lane alone -/
theorem lm_byte {f : Nat → Nat} (h : ∀ b, b < 256 → f b < 256) : ∀ n k x, k < n → lm f n x / 256 ^ k % 256 = f (x / 256 ^ k % 256)
  | 0, _, _, hk => by omega
  | n + 1, 0, x, _ => by
    have := h _ (Nat.mod_lt x (by omega : 256 > 0))
    simp only [lm, Nat.pow_zero, Nat.div_one]; omega
  | n + 1, k + 1, x, hk => by
    have h1 := h _ (Nat.mod_lt x (by omega : 256 > 0))
    have ih := lm_byte h n k (x / 256) (by omega)
    simp only [lm]
    rw [Nat.pow_succ, Nat.mul_comm (256 ^ k) 256, ← Nat.div_div_eq_div_mul, ← Nat.div_div_eq_div_mul, show (f (x % 256) + 256 * lm f n (x / 256)) / 256 = lm f n (x / 256) by omega]
    exact ih

end Go.Proofs.YtinpkfdmellleaaGreat.Plain

namespace Go.Proofs.YtinpkfdmellleaaGreat.Plain

def tbI (b : Nat) : Nat → Nat
  | 0 => b
  | n + 1 => tb (tbI b n)
def tbS (b c : Nat) : Nat → Nat
  | 0 => 0
  | n + 1 => if c / 2 ^ n % 2 = 1 then tbS b c n ^^^ tbI b n else tbS b c n
theorem tbI_lt (b : Nat) (h : b < 256) : ∀ n, tbI b n < 256
  | 0 => h
  | n + 1 => tb_lt _ (tbI_lt b h n)
theorem tbS_lt (b c : Nat) (h : b < 256) : ∀ n, tbS b c n < 256
  | 0 => by simp [tbS]
  | n + 1 => by
    simp only [tbS]; split
    · exact xor_lt _ _ (tbS_lt b c h n) (tbI_lt b h n)
    · exact tbS_lt b c h n
theorem twI_lm (x : Nat) (h : x < 18446744073709551616) : ∀ n, twI x n = lm (fun b => tbI b n) 8 x
  | 0 => (word_id x h).symm
  | n + 1 => by
    simp only [twI, tbI]
    rw [twI_lm x h n, tw_lm, lm_lm (fun b hb => tbI_lt b hb n)]
theorem lm_zero : ∀ n x, lm (fun _ => 0) n x = 0
  | 0, _ => rfl
  | n + 1, x => by simp only [lm]; rw [lm_zero n]
theorem tmS_lm (x c : Nat) (h : x < 18446744073709551616) : ∀ n, tmS x c n = lm (fun b => tbS b c n) 8 x
  | 0 => (lm_zero 8 x).symm
  | n + 1 => by
    simp only [tmS, tbS]
    by_cases hb : c / 2 ^ n % 2 = 1
    · simp only [if_pos hb]
      rw [tmS_lm x c h n, twI_lm x h n, lm_xor (fun b hb => tbS_lt b c hb n) (fun b hb => tbI_lt b hb n)]
    · simp only [if_neg hb]
      exact tmS_lm x c h n
theorem tm_lm (x c : Nat) (h : x < 18446744073709551616) : tmN x c = lm (fun b => tbS b c 8) 8 x := tmS_lm x c h 8

/-! ### masks -/
def msk (k : Nat) : Nat := 255 * 2 ^ (k * 8)
def mix (x y k : Nat) : Nat := (x &&& msk k) ||| (y &&& (18446744073709551615 - msk k))
theorem msk_lt (k : Nat) (hk : k < 8) : msk k < 18446744073709551616 := by
  have h : k = 0 ∨ k = 1 ∨ k = 2 ∨ k = 3 ∨ k = 4 ∨ k = 5 ∨ k = 6 ∨ k = 7 := by omega
  rcases h with rfl | rfl | rfl | rfl | rfl | rfl | rfl | rfl <;> decide +kernel
theorem pow_256 (k : Nat) : (2 : Nat) ^ (k * 8) = 256 ^ k := by
  rw [Nat.mul_comm, Nat.pow_mul]
theorem and_msk (v k : Nat) : v &&& msk k = v / 256 ^ k % 256 * 256 ^ k := by
  have e : msk k = 255 <<< (k * 8) := by unfold msk; rw [Nat.shiftLeft_eq]
  apply Nat.eq_of_testBit_eq
  intro i
  rw [← pow_256]
  have e2 : v / 2 ^ (k * 8) % 256 * 2 ^ (k * 8) = (v / 2 ^ (k * 8) % 2 ^ 8) <<< (k * 8) := by rw [Nat.shiftLeft_eq]
  rw [e2, e, Nat.testBit_and, Nat.testBit_shiftLeft, Nat.testBit_shiftLeft, Nat.testBit_mod_two_pow, Nat.testBit_div_two_pow]
  have e3 : (255 : Nat) = 2 ^ 8 - 1 := by decide
  rw [e3, Nat.testBit_two_pow_sub_one]
  by_cases h : k * 8 ≤ i
  · rw [show i - k * 8 + k * 8 = i by omega]
    cases v.testBit i <;> simp
  · simp [h]
theorem mix_lt (x y k : Nat) (hx : x < 18446744073709551616) : mix x y k < 18446744073709551616 := by
  refine Nat.or_lt_two_pow (n := 64) (Nat.lt_of_le_of_lt Nat.and_le_left hx) (Nat.lt_of_le_of_lt Nat.and_le_right (by omega))
theorem mix_and (x y k : Nat) (hk : k < 8) : mix x y k &&& msk k = x &&& msk k := by
  have h0 : (18446744073709551615 - msk k) &&& msk k = 0 := by
    have h : k = 0 ∨ k = 1 ∨ k = 2 ∨ k = 3 ∨ k = 4 ∨ k = 5 ∨ k = 6 ∨ k = 7 := by omega
    rcases h with rfl | rfl | rfl | rfl | rfl | rfl | rfl | rfl <;> decide +kernel
  unfold mix
  rw [Nat.and_or_distrib_right, Nat.and_assoc, Nat.and_self, Nat.and_assoc, h0, Nat.and_zero, Nat.or_zero]
theorem mix_byte (x y k : Nat) (hk : k < 8) : mix x y k / 256 ^ k % 256 = x / 256 ^ k % 256 := by
  have h := mix_and x y k hk
  rw [and_msk, and_msk] at h
  exact Nat.eq_of_mul_eq_mul_right (Nat.pow_pos (by omega)) h
theorem lane_alone {f : Nat → Nat} (hf : ∀ b, b < 256 → f b < 256) (x y k : Nat) (hk : k < 8) : lm f 8 (mix x y k) &&& msk k = lm f 8 x &&& msk k := by
  rw [and_msk, and_msk, lm_byte hf 8 k _ hk, lm_byte hf 8 k _ hk, mix_byte x y k hk]
theorem hi_alone (x y k : Nat) (hk : k < 8) : hiN (mix x y k) &&& msk k = hiN x &&& msk k := by
  rw [hi_lm, hi_lm]; exact lane_alone lt_hb x y k hk
theorem tw_alone (x y k : Nat) (hk : k < 8) : twN (mix x y k) &&& msk k = twN x &&& msk k := by
  rw [tw_lm, tw_lm]; exact lane_alone tb_lt x y k hk
theorem hf_alone (x y k : Nat) (hk : k < 8) : hfN (mix x y k) &&& msk k = hfN x &&& msk k := by
  rw [hf_lm, hf_lm]; exact lane_alone fb_lt x y k hk
theorem tm_alone (x y k c : Nat) (hx : x < 18446744073709551616) (hk : k < 8) : tmN (mix x y k) c &&& msk k = tmN x c &&& msk k := by
  rw [tm_lm _ _ (mix_lt x y k hx), tm_lm _ _ hx]; exact lane_alone (fun b hb => tbS_lt b c hb 8) x y k hk

end Go.Proofs.YtinpkfdmellleaaGreat.Plain

namespace Go.Proofs.YtinpkfdmellleaaGreat.Plain

/-- bit m of P. -/
def bt (P m : Nat) : Nat := P / 2 ^ m % 2
def qb (a i : Nat) : Nat := a / 2 ^ i
def term (a b i k : Nat) : Nat := qb a i % 2 * (qb b k % 2) * 2 ^ (i + k)
def inn (a b i P : Nat) : Nat → Nat
  | 0 => P
  | k + 1 => inn a b i P k ^^^ term a b i k
def out (a b : Nat) : Nat → Nat
  | 0 => 0
  | i + 1 => inn a b i (out a b i) 8
def poly (m : Nat) : Nat := 2 ^ m ^^^ 2 ^ (m - 4) ^^^ 2 ^ (m - 5) ^^^ 2 ^ (m - 6) ^^^ 2 ^ (m - 8)
def rd (P : Nat) : Nat → Nat
  | 0 => P
  | r + 1 => if bt (rd P r) (14 - r) = 1 then rd P r ^^^ poly (14 - r) else rd P r
def mlN (a b : Nat) : Nat := rd (out a b 8) 7 % 256

theorem bt_lt (P m : Nat) : bt P m < 2 := Nat.mod_lt _ (by omega)
theorem bt_xor (P Q m : Nat) : bt (P ^^^ Q) m = bt P m ^^^ bt Q m := bit_xor P Q m
theorem term_lin (a b d i k : Nat) : term a (b ^^^ d) i k = term a b i k ^^^ term a d i k := by
  have h : qb (b ^^^ d) k % 2 = (qb b k % 2) ^^^ (qb d k % 2) := bit_xor b d k
  have h1 : qb a i % 2 = 0 ∨ qb a i % 2 = 1 := by omega
  have h2 : qb b k % 2 = 0 ∨ qb b k % 2 = 1 := by omega
  have h3 : qb d k % 2 = 0 ∨ qb d k % 2 = 1 := by omega
  unfold term
  rcases h1 with h1 | h1 <;> rcases h2 with h2 | h2 <;> rcases h3 with h3 | h3 <;> rw [h2, h3] at h <;> rw [h, h1, h2, h3] <;> simp
theorem inn_lin (a b d i P Q : Nat) : ∀ k, inn a (b ^^^ d) i (P ^^^ Q) k = inn a b i P k ^^^ inn a d i Q k
  | 0 => rfl
  | k + 1 => by simp only [inn]; rw [inn_lin a b d i P Q k, term_lin]; exact xor_swap _ _ _ _
theorem out_lin (a b d : Nat) : ∀ i, out a (b ^^^ d) i = out a b i ^^^ out a d i
  | 0 => by simp [out]
  | i + 1 => by simp only [out]; rw [out_lin a b d i, inn_lin]
theorem rd_lin (P Q : Nat) : ∀ r, rd (P ^^^ Q) r = rd P r ^^^ rd Q r
  | 0 => rfl
  | r + 1 => by
    have ih := rd_lin P Q r
    simp only [rd]
    rw [ih, bt_xor]
    have h1 : bt (rd P r) (14 - r) = 0 ∨ bt (rd P r) (14 - r) = 1 := by have := bt_lt (rd P r) (14 - r); omega
    have h2 : bt (rd Q r) (14 - r) = 0 ∨ bt (rd Q r) (14 - r) = 1 := by have := bt_lt (rd Q r) (14 - r); omega
    generalize poly (14 - r) = t
    generalize rd P r = p at *
    generalize rd Q r = q at *
    rcases h1 with h1 | h1 <;> rcases h2 with h2 | h2 <;> simp [h1, h2]
    · rw [Nat.xor_assoc]
    · rw [Nat.xor_assoc, Nat.xor_comm q t, ← Nat.xor_assoc]
    · rw [xor_swap p t q t]; simp
theorem ml_lin (a b d : Nat) : mlN a (b ^^^ d) = mlN a b ^^^ mlN a d := by
  unfold mlN; rw [out_lin, rd_lin]; exact Nat.xor_mod_two_pow (n := 8)
theorem tbS_sum (x c d : Nat) : ∀ n, tbS x (c ^^^ d) n = tbS x c n ^^^ tbS x d n
  | 0 => by simp [tbS]
  | n + 1 => by
    have hb := bit_xor c d n
    have hc : c / 2 ^ n % 2 = 0 ∨ c / 2 ^ n % 2 = 1 := by omega
    have hd : d / 2 ^ n % 2 = 0 ∨ d / 2 ^ n % 2 = 1 := by omega
    have ih := tbS_sum x c d n
    simp only [tbS]
    generalize tbI x n = t
    generalize tbS x c n = p at *
    generalize tbS x d n = q at *
    rw [ih]
    rcases hc with hc | hc <;> rcases hd with hd | hd <;> rw [hc, hd] at hb <;> simp [hb, hc, hd]
    · rw [Nat.xor_assoc]
    · rw [Nat.xor_assoc, Nat.xor_comm q t, ← Nat.xor_assoc]
    · rw [xor_swap p t q t]; simp
theorem lin_zero {F : Nat → Nat} (hF : ∀ c d, F (c ^^^ d) = F c ^^^ F d) : F 0 = 0 := by
  have h := hF 0 0
  simp at h; exact h
theorem pow_add (n r : Nat) (hn : n < 8) (h : r < 2 ^ n) : 2 ^ n ^^^ r = 2 ^ n + r := by
  have key : ∀ n, n < 8 → ∀ r, r < 256 → r < 2 ^ n → 2 ^ n ^^^ r = 2 ^ n + r := by decide +kernel
  have hp : 2 ^ n ≤ 2 ^ 8 := Nat.pow_le_pow_right (by omega) (by omega)
  exact key n hn r (by omega) h
theorem lin_basis {F G : Nat → Nat} (hF : ∀ c d, F (c ^^^ d) = F c ^^^ F d) (hG : ∀ c d, G (c ^^^ d) = G c ^^^ G d) (hb : ∀ j, j < 8 → F (2 ^ j) = G (2 ^ j)) :
    ∀ n, n ≤ 8 → ∀ c, c < 2 ^ n → F c = G c
  | 0, _, c, hc => by
    have : c = 0 := by simpa using hc
    rw [this, lin_zero hF, lin_zero hG]
  | n + 1, hn, c, hc => by
    by_cases h : c < 2 ^ n
    · exact lin_basis hF hG hb n (by omega) c h
    · rw [Nat.pow_succ] at hc
      have e : c = 2 ^ n ^^^ (c - 2 ^ n) := by rw [pow_add n _ (by omega) (by omega)]; omega
      rw [e, hF, hG, hb n (by omega), lin_basis hF hG hb n (by omega) (c - 2 ^ n) (by omega)]
theorem ml_base : ∀ a, a < 256 → ∀ j, j < 8 → mlN a (2 ^ j) = tbS a (2 ^ j) 8 := by decide +kernel
theorem ml_is (a c : Nat) (ha : a < 256) (hc : c < 256) : mlN a c = tbS a c 8 :=
  lin_basis (F := mlN a) (G := fun c => tbS a c 8) (ml_lin a) (fun c d => tbS_sum a c d 8) (ml_base a ha) 8 (by omega) c hc

end Go.Proofs.YtinpkfdmellleaaGreat.Plain

namespace Go.Proofs.YtinpkfdmellleaaGreat.Plain

def pw : Nat → Nat
  | 0 => 1
  | n + 1 => tb (pw n)
def lgL : List Nat := [0, 0, 1, 25, 2, 50, 26, 198, 3, 223, 51, 238, 27, 104, 199, 75, 4, 100, 224, 14, 52, 141, 239, 129, 28, 193, 105, 248, 200, 8, 76, 113, 5, 138, 101, 47, 225, 36, 15, 33, 53, 147, 142, 218, 240, 18, 130, 69, 29, 181, 194, 125, 106, 39, 249, 185, 201, 154, 9, 120, 77, 228, 114, 166, 6, 191, 139, 98, 102, 221, 48, 253, 226, 152, 37, 179, 16, 145, 34, 136, 54, 208, 148, 206, 143, 150, 219, 189, 241, 210, 19, 92, 131, 56, 70, 64, 30, 66, 182, 163, 195, 72, 126, 110, 107, 58, 40, 84, 250, 133, 186, 61, 202, 94, 155, 159, 10, 21, 121, 43, 78, 212, 229, 172, 115, 243, 167, 87, 7, 112, 192, 247, 140, 128, 99, 13, 103, 74, 222, 237, 49, 197, 254, 24, 227, 165, 153, 119, 38, 184, 180, 124, 17, 68, 146, 217, 35, 32, 137, 46, 55, 63, 209, 91, 149, 188, 207, 205, 144, 135, 151, 178, 220, 252, 190, 97, 242, 86, 211, 171, 20, 42, 93, 158, 132, 60, 57, 83, 71, 109, 65, 162, 31, 45, 67, 216, 183, 123, 164, 118, 196, 23, 73, 236, 127, 12, 111, 246, 108, 161, 59, 82, 41, 157, 85, 170, 251, 96, 134, 177, 187, 204, 62, 90, 203, 89, 95, 176, 156, 169, 160, 81, 11, 245, 22, 235, 122, 117, 44, 215, 79, 174, 213, 233, 230, 231, 173, 232, 116, 214, 244, 234, 168, 80, 88, 175]
def lg (a : Nat) : Nat := lgL.getD a 0
def ml (a b : Nat) : Nat := tbS a b 8

theorem pw_ok : ∀ i, i < 255 → lg (pw i) = i ∧ 0 < pw i ∧ pw i < 256 := by decide +kernel
theorem lg_ok : ∀ a, a < 256 → a ≠ 0 → pw (lg a) = a ∧ lg a < 255 := by decide +kernel
theorem pw_round : pw 255 = 1 := by decide +kernel
theorem pw_add255 : ∀ n, pw (n + 255) = pw n
  | 0 => by rw [Nat.zero_add]; exact pw_round
  | n + 1 => by
    have h : tb (pw (n + 255)) = tb (pw n) := congrArg tb (pw_add255 n)
    exact h
theorem pw_mul : ∀ k n, pw (n + 255 * k) = pw n
  | 0, n => by rw [Nat.mul_zero, Nat.add_zero]
  | k + 1, n => by rw [show n + 255 * (k + 1) = (n + 255 * k) + 255 by omega, pw_add255, pw_mul k n]
theorem pw_mod (n : Nat) : pw (n % 255) = pw n := by
  have h := pw_mul (n / 255) (n % 255)
  rw [Nat.mod_add_div] at h
  exact h.symm
theorem pw_pos (n : Nat) : 0 < pw n ∧ pw n < 256 := by
  rw [← pw_mod]; exact (pw_ok _ (Nat.mod_lt _ (by omega))).2
theorem lg_pw (n : Nat) : lg (pw n) = n % 255 := by
  rw [← pw_mod]; exact (pw_ok _ (Nat.mod_lt _ (by omega))).1
theorem lg_lt (a : Nat) (ha : a < 256) : lg a < 255 := by
  by_cases h : a = 0
  · subst h; decide
  · exact (lg_ok a ha h).2
theorem pw_lg (a : Nat) (ha : a < 256) (h : a ≠ 0) : pw (lg a) = a := (lg_ok a ha h).1

theorem tbI_zero : ∀ n, tbI 0 n = 0
  | 0 => rfl
  | n + 1 => by simp only [tbI]; rw [tbI_zero n]; decide
theorem tbS_zero (c : Nat) : ∀ n, tbS 0 c n = 0
  | 0 => rfl
  | n + 1 => by
    simp only [tbS]; rw [tbS_zero c n, tbI_zero n]
    split <;> rfl
theorem lm_small {f : Nat → Nat} (h0 : f 0 = 0) : ∀ n x, x < 256 → lm f (n + 1) x = f x := by
  have hz : ∀ n, lm f n 0 = 0 := by
    intro n
    induction n with
    | zero => rfl
    | succ n ih => simp only [lm]; simp [h0, ih]
  intro n x hx
  simp only [lm]
  rw [Nat.mod_eq_of_lt hx, Nat.div_eq_of_lt hx, hz n]
  omega
theorem tm_ml (a c : Nat) (ha : a < 256) : tmN a c = ml a c := by
  rw [tm_lm a c (by omega)]
  exact lm_small (f := fun b => tbS b c 8) (tbS_zero c 8) 7 a ha
theorem ml_lt (a b : Nat) (ha : a < 256) : ml a b < 256 := tbS_lt a b ha 8
theorem ml_swap (a c d : Nat) (ha : a < 256) : ml (ml a c) d = ml (ml a d) c := by
  have h := tm_comm a c d
  rw [tm_ml a c ha, tm_ml a d ha, tm_ml _ d (ml_lt a c ha), tm_ml _ c (ml_lt a d ha)] at h
  exact h
theorem ml_one_left : ∀ c, c < 256 → ml 1 c = c := by decide +kernel
theorem ml_two : ∀ a, a < 256 → ml a 2 = tb a := by decide +kernel
theorem ml_comm (a b : Nat) (ha : a < 256) (hb : b < 256) : ml a b = ml b a := by
  have h := ml_swap 1 a b (by omega)
  rw [ml_one_left a ha, ml_one_left b hb] at h
  exact h
theorem ml_assoc (a b c : Nat) (ha : a < 256) (hb : b < 256) (_hc : c < 256) : ml a (ml b c) = ml (ml a b) c := by
  rw [ml_comm a b ha hb, ml_swap b a c hb, ml_comm _ a (ml_lt b c hb) ha]
theorem ml_one (a : Nat) (ha : a < 256) : ml a 1 = a := by rw [ml_comm a 1 ha (by omega), ml_one_left a ha]
theorem ml_zero_left (b : Nat) : ml 0 b = 0 := tbS_zero b 8
theorem ml_zero (a : Nat) (ha : a < 256) : ml a 0 = 0 := by rw [ml_comm a 0 ha (by omega), ml_zero_left]
theorem ml_sum (a b c : Nat) : ml a (b ^^^ c) = ml a b ^^^ ml a c := tbS_sum a b c 8
theorem ml_pw (i : Nat) : ∀ j, ml (pw i) (pw j) = pw (i + j)
  | 0 => ml_one _ (pw_pos i).2
  | j + 1 => by
    have h1 : pw (j + 1) = ml (pw j) 2 := by rw [ml_two _ (pw_pos j).2]; rfl
    rw [h1, ml_assoc _ _ _ (pw_pos i).2 (pw_pos j).2 (by omega), ml_pw i j, ml_two _ (pw_pos _).2]; rfl
theorem ml_lg (a b : Nat) (ha : a < 256) (hb : b < 256) (ha0 : a ≠ 0) (hb0 : b ≠ 0) : ml a b = pw (lg a + lg b) := by
  rw [← ml_pw, pw_lg a ha ha0, pw_lg b hb hb0]

/-- 2 to the power of n. -/
def ix (n : Int) : Nat := (n % 255).toNat
def exN (n : Int) : Nat := pw (ix n)
theorem ix_lt (n : Int) : ix n < 255 := by unfold ix; omega
theorem exN_nat (n : Nat) : exN n = pw n := by
  unfold exN ix; rw [← pw_mod n]; congr 1
theorem exN_lt (n : Int) : exN n < 256 := (pw_pos _).2
theorem exN_pos (n : Int) : exN n ≠ 0 := by have := (pw_pos (ix n)).1; unfold exN; omega
theorem exN_add (m n : Int) : ml (exN m) (exN n) = exN (m + n) := by
  unfold exN; rw [ml_pw, ← pw_mod]; congr 1; unfold ix; omega
theorem exN_255 (m : Int) : exN (m + 255) = exN m := by
  unfold exN; congr 1; unfold ix; omega
theorem ml_ex (a b : Nat) (ha : a < 256) (hb : b < 256) (ha0 : a ≠ 0) (hb0 : b ≠ 0) : exN ((lg a : Int) + lg b) = ml a b := by
  rw [ml_lg a b ha hb ha0 hb0, show ((lg a : Int) + lg b) = ((lg a + lg b : Nat) : Int) by omega, exN_nat]
/-- the quotient. -/
def dv (a b : Nat) : Nat := if a = 0 then 0 else exN ((lg a : Int) - lg b)
theorem dv_lt (a b : Nat) : dv a b < 256 := by
  unfold dv; split
  · omega
  · exact exN_lt _
theorem dv_back (a b : Nat) (ha : a < 256) (hb : b < 256) (hb0 : b ≠ 0) : ml (dv a b) b = a := by
  unfold dv
  by_cases h : a = 0
  · rw [if_pos h, ml_zero_left, h]
  · rw [if_neg h]
    have e : b = exN (lg b) := by rw [exN_nat, pw_lg b hb hb0]
    have e2 : ml (exN ((lg a : Int) - lg b)) b = ml (exN ((lg a : Int) - lg b)) (exN (lg b)) := by rw [← e]
    rw [e2, exN_add, show ((lg a : Int) - lg b + lg b) = ((lg a : Nat) : Int) by omega, exN_nat, pw_lg a ha h]
theorem dv_only (x a b : Nat) (hx : x < 256) (hb : b < 256) (hb0 : b ≠ 0) (h : ml x b = a) : x = dv a b := by
  have hd := dv_back a b (by rw [← h]; exact ml_lt x b hx) hb hb0
  have key : ∀ y, y < 256 → ml (ml y b) (dv 1 b) = y := by
    intro y hy
    rw [← ml_assoc y b _ hy hb (dv_lt 1 b), ml_comm b _ hb (dv_lt 1 b), dv_back 1 b (by omega) hb hb0, ml_one y hy]
  rw [← key x hx, ← key (dv a b) (dv_lt a b), hd, h]

/-- the tables behind n rounds. -/
def pwT (n i : Nat) : Nat := if i < n then pw i else 0
def lgT : Nat → Nat → Nat
  | 0, _ => 0
  | n + 1, x => if x = pw n then n else lgT n x
theorem lgT_at (i : Nat) : ∀ n, n ≤ 255 → i < n → lgT n (pw i) = i
  | 0, _, h => absurd h (by omega)
  | n + 1, hn, h => by
    simp only [lgT]
    by_cases he : i = n
    · rw [if_pos (by rw [he]), he]
    · rw [if_neg, lgT_at i n (by omega) (by omega)]
      intro hp
      have h1 := (pw_ok i (by omega)).1
      rw [hp, (pw_ok n (by omega)).1] at h1
      omega
theorem lgT_full (a : Nat) (ha : a < 256) (h : a ≠ 0) : lgT 255 a = lg a := by
  have h1 := lgT_at (lg a) 255 (by omega) (lg_lt a ha)
  rw [pw_lg a ha h] at h1; exact h1
theorem lgT_lt : ∀ n x, n ≤ 255 → lgT n x < 256
  | 0, _, _ => by simp [lgT]
  | n + 1, x, h => by
    simp only [lgT]; split
    · omega
    · exact lgT_lt n x (by omega)
theorem pwT_lt (n i : Nat) : pwT n i < 256 := by
  unfold pwT; split
  · exact (pw_pos i).2
  · omega

end Go.Proofs.YtinpkfdmellleaaGreat.Plain

namespace Go.Proofs.YtinpkfdmellleaaGreat
open Go.RowKit Plain

theorem ret_int {k : IntKind} {a b : Int} (h : a = b) : Ending.returned (.int k a) = .returned (.int k b) := by rw [h]
theorem and64 (x m : Nat) (hx : x < 18446744073709551616) (hm : m < 18446744073709551616) : bits .and .u64 (x : Int) (m : Int) = ((x &&& m : Nat) : Int) := u64_and_nat x m hx hm
theorem and_lt (x m : Nat) (hm : m < 18446744073709551616) : x &&& m < 18446744073709551616 := Nat.lt_of_le_of_lt Nat.and_le_right hm

theorem hi_int (x : Nat) (hx : x < 18446744073709551616) : IntKind.u64.wrap (bits .and .u64 (x : Int) 9259542123273814144 / 128 * 255) = (hiN x : Int) := by
  have h := and64 x 9259542123273814144 hx (by omega)
  have e : ((9259542123273814144 : Nat) : Int) = 9259542123273814144 := rfl
  rw [e] at h
  rw [h, IntKind.wrap_u64]
  unfold hiN
  generalize x &&& 9259542123273814144 = y
  omega
theorem tw_int (x : Nat) : bits .xor .u64 (bits .and .u64 (IntKind.u64.wrap ((x : Int) * 2)) 18374403900871474942) (bits .and .u64 (hiN x : Int) 2097865012304223517) = (twN x : Int) := by
  have e1 : IntKind.u64.wrap ((x : Int) * 2) = ((x * 2 % 18446744073709551616 : Nat) : Int) := by rw [IntKind.wrap_u64]; omega
  have h1 := and64 (x * 2 % 18446744073709551616) 18374403900871474942 (Nat.mod_lt _ (by omega)) (by omega)
  have h2 := and64 (hiN x) 2097865012304223517 (hi_lt x) (by omega)
  have e2 : ((18374403900871474942 : Nat) : Int) = 18374403900871474942 := rfl
  have e3 : ((2097865012304223517 : Nat) : Int) = 2097865012304223517 := rfl
  rw [e2] at h1; rw [e3] at h2
  rw [e1, h1, h2, u64_xor_nat _ _ (and_lt _ _ (by omega)) (and_lt _ _ (by omega))]
  rfl
theorem hf_int (x : Nat) (hx : x < 18446744073709551616) : bits .xor .u64 (bits .and .u64 ((x : Int) / 2) 9187201950435737471) (bits .and .u64 (hiN (x * 128 % 18446744073709551616) : Int) 10272304543006887566) = (hfN x : Int) := by
  have e1 : (x : Int) / 2 = ((x / 2 : Nat) : Int) := by omega
  have h1 := and64 (x / 2) 9187201950435737471 (by omega) (by omega)
  have h2 := and64 (hiN (x * 128 % 18446744073709551616)) 10272304543006887566 (hi_lt _) (by omega)
  have e2 : ((9187201950435737471 : Nat) : Int) = 9187201950435737471 := rfl
  have e3 : ((10272304543006887566 : Nat) : Int) = 10272304543006887566 := rfl
  rw [e2] at h1; rw [e3] at h2
  rw [e1, h1, h2, u64_xor_nat _ _ (and_lt _ _ (by omega)) (and_lt _ _ (by omega))]
  rfl
theorem wrap128 (x : Nat) : IntKind.u64.wrap ((x : Int) * 128) = ((x * 128 % 18446744073709551616 : Nat) : Int) := by rw [IntKind.wrap_u64]; omega
theorem bit_int (c k : Nat) (hc : c < 256) : bits .and .u8 ((c : Int) / 2 ^ k) 1 = ((c / 2 ^ k % 2 : Nat) : Int) := by
  have e : (c : Int) / 2 ^ k = ((c / 2 ^ k : Nat) : Int) := by
    rw [Int.natCast_ediv, Int.natCast_pow]; rfl
  have hl : c / 2 ^ k < 256 := Nat.lt_of_le_of_lt (Nat.div_le_self _ _) hc
  have h := u8_and_nat (c / 2 ^ k) 1 hl (by omega)
  rw [e]
  have e1 : ((1 : Nat) : Int) = 1 := rfl
  rw [e1] at h
  rw [h, nat_mask1]

end Go.Proofs.YtinpkfdmellleaaGreat

namespace Go.Proofs.YtinpkfdmellleaaGreat
open Go.RowKit

def step1 (w : World) (o : Option (Array Value × TypeId)) : World :=
  match o with
  | some c => w.alloc (.cells c.1 c.2)
  | none => w.drew
def extp (w : World) (p : List (Option (Array Value × TypeId))) : World := p.foldl step1 w
def Ext (w w' : World) : Prop := ∃ p, w' = extp w p

theorem extp_append (w : World) (p q : List (Option (Array Value × TypeId))) : extp (extp w p) q = extp w (p ++ q) := by
  unfold extp; rw [List.foldl_append]
theorem extp_ext (w : World) (p : List (Option (Array Value × TypeId))) : Ext w (extp w p) := ⟨p, rfl⟩
theorem Ext.refl (w : World) : Ext w w := ⟨[], rfl⟩
theorem Ext.trans {a b c : World} (h : Ext a b) (k : Ext b c) : Ext a c := by
  obtain ⟨p, rfl⟩ := h
  obtain ⟨q, rfl⟩ := k
  exact ⟨p ++ q, extp_append a p q⟩
theorem Ext.drew {a b : World} (h : Ext a b) : Ext a b.drew := h.trans ⟨[none], rfl⟩
theorem Ext.alloc {a b : World} (h : Ext a b) (c : Array Value) (t : TypeId) : Ext a (b.alloc (.cells c t)) := h.trans ⟨[some (c, t)], rfl⟩
theorem Ext.ind {w : World} (R : World → Prop) (h0 : R w) (ha : ∀ w1 c t, R w1 → R (w1.alloc (.cells c t))) (hd : ∀ w1, R w1 → R w1.drew) {w' : World} (h : Ext w w') : R w' := by
  obtain ⟨p, rfl⟩ := h
  have key : ∀ (p : List (Option (Array Value × TypeId))) (w1 : World), R w1 → R (p.foldl step1 w1) := by
    intro p
    induction p with
    | nil => intro w1 h; exact h
    | cons a p ih =>
      intro w1 h
      cases a with
      | none => exact ih _ (hd w1 h)
      | some c => exact ih _ (ha w1 c.1 c.2 h)
  exact key p w h0
theorem Ext.grown {w w' : World} (h : Ext w w') : Grown w w' := h.ind (Grown w) (Grown.refl w) (fun _ c t k => k.alloc c t) (fun _ k => k.drew)
theorem Ext.below {w w' : World} (h : Ext w w') : Below w.heap.size w w' := h.ind (Below w.heap.size w) (Below.refl _ w) (fun _ _ _ k => k.alloc k.size _) (fun _ k => k.drew)
theorem Ext.size {w w' : World} (h : Ext w w') : w.heap.size ≤ w'.heap.size := h.below.size
theorem Ext.cell {w w' : World} (h : Ext w w') {b o : Nat} (hb : b < w.heap.size) : w'.cell? ⟨b, o, none⟩ = w.cell? ⟨b, o, none⟩ := h.below.cell (p := ⟨b, o, none⟩) hb
/-- a region that draws its order, in the class of the worlds beyond w. -/
theorem wp_region_ext {P : Program} {id : Nat} {Q : Exit → Act → World → Prop} {a : Act} {w : World} {l : List Oper} (hm : P.follows .mixedOrders = true) (hB : Region.lexB .any l.toArray = true)
    (h : wpQuiet P l.toArray (fun w' => ∃ p, w' = extp w p) (fun a' => ∀ w', (∃ p, w' = extp w p) → Q .normal a' w') l a) : (Code.region id l.toArray true).wp P Q a w :=
  wp_region_quiet (C := fun w' => ∃ p, w' = extp w p) hm hB ⟨[none], rfl⟩ (by simpa using h)
/-- a contract, met in such a world. -/
theorem ext_call {P : Program} {f : FuncId} {args : Array Value} {w : World} {p : List (Option (Array Value × TypeId))} {v : Value}
    (h : Calls P f args (extp w p) fun e w' => e = .returned v ∧ Ext (extp w p) w') : Calls P f args (extp w p) fun e w'' => e = .returned v ∧ ∃ p, w'' = extp w p :=
  h.mono fun _ _ ⟨he, q, hm⟩ => ⟨he, p ++ q, by rw [hm, extp_append]⟩
theorem ext_call_same {P : Program} {f : FuncId} {args : Array Value} {w : World} {p : List (Option (Array Value × TypeId))} {v : Value}
    (h : Calls P f args (extp w p) fun e w' => e = .returned v ∧ w' = extp w p) : Calls P f args (extp w p) fun e w'' => e = .returned v ∧ ∃ p, w'' = extp w p :=
  h.mono fun _ _ ⟨he, hm⟩ => ⟨he, p, hm⟩

end Go.Proofs.YtinpkfdmellleaaGreat

namespace Go.Proofs.YtinpkfdmellleaaGreat
open Go.RowKit Plain

/-! ### Load -/
def bAt (s : ByteArray) (p : Int) : Nat := if h : 0 ≤ p ∧ p < s.size then (s[p.toNat]'(by omega)).toNat else 0
def ldS (s : ByteArray) (p : Int) : Nat → Nat
  | 0 => 0
  | n + 1 => ldS s p n + bAt s (p + n) * 2 ^ (8 * n)
theorem bAt_lt (s : ByteArray) (p : Int) : bAt s p < 256 := by
  unfold bAt; split
  · exact UInt8.toNat_lt _
  · omega
theorem ldS_lt (s : ByteArray) (p : Int) : ∀ n, ldS s p n < 2 ^ (8 * n)
  | 0 => by simp [ldS]
  | n + 1 => by
    have h1 := ldS_lt s p n
    have h2 := bAt_lt s (p + n)
    simp only [ldS]
    have h3 : bAt s (p + n) * 2 ^ (8 * n) ≤ 255 * 2 ^ (8 * n) := Nat.mul_le_mul_right _ (by omega)
    rw [show 8 * (n + 1) = 8 * n + 8 by omega, Nat.pow_add]
    omega
theorem pow_le (n : Nat) (h : n < 8) : (2 : Nat) ^ (8 * (n + 1)) ≤ 18446744073709551616 := by
  have : (2 : Nat) ^ (8 * (n + 1)) ≤ 2 ^ 64 := Nat.pow_le_pow_right (by omega) (by omega)
  omega
theorem ldS_lt64 (s : ByteArray) (p : Int) (n : Nat) (h : n ≤ 8) : ldS s p n < 18446744073709551616 := by
  have h1 := ldS_lt s p n
  have : (2 : Nat) ^ (8 * n) ≤ 2 ^ 64 := Nat.pow_le_pow_right (by omega) (by omega)
  omega
theorem join_int (n b k : Nat) (hb : b < 256) (hn : n < 2 ^ (8 * k)) (hk : k < 8) :
    bits .or .u64 (n : Int) (IntKind.u64.wrap (IntKind.u64.wrap (b : Int) * 2 ^ (8 * k))) = ((n + b * 2 ^ (8 * k) : Nat) : Int) := by
  have h1 : b * 2 ^ (8 * k) ≤ 255 * 2 ^ (8 * k) := Nat.mul_le_mul_right _ (by omega)
  have h2 := pow_le k hk
  rw [show 8 * (k + 1) = 8 * k + 8 by omega, Nat.pow_add] at h2
  have h3 : b * 2 ^ (8 * k) < 18446744073709551616 := by omega
  have e1 : IntKind.u64.wrap (b : Int) = (b : Int) := by rw [IntKind.wrap_u64]; omega
  have e2 : (b : Int) * 2 ^ (8 * k) = ((b * 2 ^ (8 * k) : Nat) : Int) := by
    rw [Int.natCast_mul, Int.natCast_pow]; rfl
  have e3 : IntKind.u64.wrap ((b * 2 ^ (8 * k) : Nat) : Int) = ((b * 2 ^ (8 * k) : Nat) : Int) := by rw [IntKind.wrap_u64]; omega
  rw [e1, e2, e3, u64_or_nat _ _ (by omega) h3, Nat.or_comm, nat_join (8 * k) _ _ (Nat.mul_mod_left _ _) hn, Nat.add_comm]
theorem wrap_past (a : Int) (k : Nat) (h : 9223372036854775807 < a + k) (h2 : a ≤ 9223372036854775807) (hk : k < 8) : wrap64 (a + k) < 0 := by
  simp only [wrap64]; omega

/-! ### Store -/
def byI (x i : Nat) : Int := (x : Int) / 2 ^ (8 * i) % 256
def stL (x : Nat) : List Int := [byI x 0, byI x 1, byI x 2, byI x 3, byI x 4, byI x 5, byI x 6, byI x 7]
def stV (x k i : Nat) : Value := .int .u8 (if i < k then byI x i else 0)
def stA (x k : Nat) : Array Value := #[stV x k 0, stV x k 1, stV x k 2, stV x k 3, stV x k 4, stV x k 5, stV x k 6, stV x k 7]
theorem stA_size (x k : Nat) : (stA x k).size = 8 := rfl
theorem stV_step (x k i : Nat) (h : i ≠ k) : stV x (k + 1) i = stV x k i := by
  unfold stV
  by_cases h1 : i < k
  · rw [if_pos h1, if_pos (by omega)]
  · rw [if_neg h1, if_neg (by omega)]
theorem stV_at (x k : Nat) : stV x (k + 1) k = .int .u8 (byI x k) := by
  unfold stV; rw [if_pos (by omega)]
theorem stA_step (x k : Nat) (hk : k < 8) : (stA x k).setIfInBounds k (.int .u8 ((x : Int) / 2 ^ (8 * k) % 256)) = stA x (k + 1) := by
  have h : k = 0 ∨ k = 1 ∨ k = 2 ∨ k = 3 ∨ k = 4 ∨ k = 5 ∨ k = 6 ∨ k = 7 := by omega
  have e : (.int .u8 ((x : Int) / 2 ^ (8 * k) % 256) : Value) = stV x (k + 1) k := (stV_at x k).symm
  rw [e]
  rcases h with rfl | rfl | rfl | rfl | rfl | rfl | rfl | rfl <;> rfl
theorem stA_zero (x : Nat) : stA x 0 = #[.int .u8 0, .int .u8 0, .int .u8 0, .int .u8 0, .int .u8 0, .int .u8 0, .int .u8 0, .int .u8 0] := rfl
theorem stA_cell (x i : Nat) (h : i < 8) : (stA x 8)[i]? = some (.int .u8 ((stL x).getD i 0)) := by
  have h : i = 0 ∨ i = 1 ∨ i = 2 ∨ i = 3 ∨ i = 4 ∨ i = 5 ∨ i = 6 ∨ i = 7 := by omega
  rcases h with rfl | rfl | rfl | rfl | rfl | rfl | rfl | rfl <;> rfl


end Go.Proofs.YtinpkfdmellleaaGreat

namespace Go.Proofs.YtinpkfdmellleaaGreat
open Go.RowKit Plain

/-- the text of n bytes whose byte at i is f i. -/
def bs (n : Nat) (f : Nat → Nat) : ByteArray := strOfNums ((List.range n).map fun i => ((f i : Nat) : Int))
theorem bs_size (n : Nat) (f : Nat → Nat) : (bs n f).size = n := by
  show (((List.range n).map _).map _).toArray.size = n
  simp
theorem bs_congr {n : Nat} {f g : Nat → Nat} (h : ∀ i, i < n → f i = g i) : bs n f = bs n g := by
  unfold bs
  congr 1
  apply List.map_congr_left
  intro i hi
  rw [h i (List.mem_range.1 hi)]
theorem bAt_nat (s : ByteArray) (i : Nat) (h : i < s.size) : bAt s (i : Int) = (s[i]'h).toNat := by
  unfold bAt
  rw [dif_pos ⟨by omega, by omega⟩]
  simp
theorem bAt_past (s : ByteArray) (i : Nat) (h : s.size ≤ i) : bAt s (i : Int) = 0 := by
  unfold bAt
  rw [dif_neg (by omega)]
theorem bAt_get (s : ByteArray) (i : Nat) : bAt s (i : Int) = (s.data.toList.getD i 0).toNat := by
  by_cases h : i < s.size
  · rw [bAt_nat s i h, List.getD_eq_getElem?_getD, List.getElem?_eq_getElem (by simpa using h)]
    simp [ByteArray.getElem_eq_getElem_data]
  · rw [bAt_past s i (by omega), List.getD_eq_getElem?_getD, List.getElem?_eq_none (by simpa using h)]
    rfl
theorem bAt_bs (n : Nat) (f : Nat → Nat) (i : Nat) (h : i < n) (hf : f i < 256) : bAt (bs n f) (i : Int) = f i := by
  rw [bAt_get]
  unfold bs strOfNums
  simp [List.getD_eq_getElem?_getD, h]
  omega
theorem bs_ext {s t : ByteArray} (hn : s.size = t.size) (h : ∀ i, i < s.size → bAt s (i : Int) = bAt t (i : Int)) : s = t := by
  have hd : s.data.toList = t.data.toList := by
    apply List.ext_getElem
    · simpa using hn
    · intro i h1 h2
      have h1' : i < s.size := by simpa using h1
      have h2' : i < t.size := by simpa using h2
      have := h i h1'
      rw [bAt_nat s i h1', bAt_nat t i h2'] at this
      have e := UInt8.toNat_inj.1 this
      simpa [ByteArray.getElem_eq_getElem_data] using e
  have hd2 : s.data = t.data := Array.toList_inj.1 hd
  cases s; cases t
  simp only at hd2
  rw [hd2]
theorem bs_self (s : ByteArray) : bs s.size (fun i => bAt s (i : Int)) = s := by
  apply bs_ext
  · rw [bs_size]
  · intro i hi
    rw [bs_size] at hi
    rw [bAt_bs _ _ _ hi (bAt_lt s _)]

/-! ### the bytes of a word -/
theorem byN_xor (x y k : Nat) : (x ^^^ y) / 256 ^ k % 256 = (x / 256 ^ k % 256) ^^^ (y / 256 ^ k % 256) := by
  have e : (256 : Nat) ^ k = 2 ^ (8 * k) := by rw [Nat.pow_mul]
  rw [e]
  have h1 := Nat.xor_div_two_pow (a := x) (b := y) (n := 8 * k)
  have h2 := Nat.xor_mod_two_pow (a := x / 2 ^ (8 * k)) (b := y / 2 ^ (8 * k)) (n := 8)
  rw [h1]; exact h2
theorem ldS_byte (s : ByteArray) (p : Int) : ∀ n k, k < n → ldS s p n / 256 ^ k % 256 = bAt s (p + k)
  | 0, _, h => by omega
  | n + 1, k, h => by
    have hl := ldS_lt s p n
    have hb := bAt_lt s (p + n)
    have e : (2 : Nat) ^ (8 * n) = 256 ^ n := by rw [Nat.pow_mul]
    simp only [ldS]
    rw [e] at hl ⊢
    by_cases hk : k = n
    · subst hk
      rw [Nat.add_mul_div_right _ _ (Nat.pow_pos (by omega)), Nat.div_eq_of_lt hl]; omega
    · have ih := ldS_byte s p n k (by omega)
      obtain ⟨m, rfl⟩ : ∃ m, n = k + 1 + m := ⟨n - k - 1, by omega⟩
      have e2 : bAt s (p + (k + 1 + m : Nat)) * 256 ^ (k + 1 + m) = bAt s (p + (k + 1 + m : Nat)) * 256 ^ m * 256 * 256 ^ k := by
        rw [Nat.pow_add, Nat.pow_add, Nat.pow_one, Nat.mul_comm (256 ^ k * 256) (256 ^ m), Nat.mul_comm (256 ^ k) 256]
        simp only [Nat.mul_assoc]
      rw [e2, Nat.add_mul_div_right _ _ (Nat.pow_pos (by omega)), Nat.add_mul_mod_self_right]
      exact ih
theorem tm_byte (x c k : Nat) (hx : x < 18446744073709551616) (hk : k < 8) : tmN x c / 256 ^ k % 256 = ml (x / 256 ^ k % 256) c := by
  rw [tm_lm x c hx, lm_byte (fun b hb => tbS_lt b c hb 8) 8 k x hk]; rfl
theorem tw_byte (x k : Nat) (hk : k < 8) : twN x / 256 ^ k % 256 = ml (x / 256 ^ k % 256) 2 := by
  rw [tw_lm, lm_byte tb_lt 8 k x hk, ml_two _ (Nat.mod_lt _ (by omega))]

/-- the byte at i of the text that is made of the words wd. -/
def wbF (wd : Nat → Nat) (i : Nat) : Nat := wd (8 * (i / 8)) / 256 ^ (i % 8) % 256
theorem wbF_lt (wd : Nat → Nat) (i : Nat) : wbF wd i < 256 := Nat.mod_lt _ (by omega)
theorem place (i : Nat) : ((8 * (i / 8) : Nat) : Int) + ((i % 8 : Nat) : Int) = (i : Int) := by omega

/-! ### what is made of buffers -/
def foldS (acc : ByteArray) (c : Nat) (s : ByteArray) : ByteArray := bs s.size (fun i => bAt acc i ^^^ ml c (bAt s i))
def scaleS (c : Nat) (s : ByteArray) : ByteArray := bs s.size (fun i => ml c (bAt s i))
def noS : ByteArray := ⟨#[]⟩
def addS : List ByteArray → ByteArray
  | [] => noS
  | s :: r => r.foldl (fun o t => foldS o 1 t) s
def xorL (l : List ByteArray) (i : Nat) : Nat := l.foldl (fun x s => x ^^^ bAt s i) 0
theorem foldS_size (a : ByteArray) (c : Nat) (s : ByteArray) : (foldS a c s).size = s.size := bs_size _ _
theorem scaleS_size (c : Nat) (s : ByteArray) : (scaleS c s).size = s.size := bs_size _ _
theorem fold_byte_lt (a : ByteArray) (c : Nat) (hc : c < 256) (s : ByteArray) (i : Int) : bAt a i ^^^ ml c (bAt s i) < 256 := xor_lt _ _ (bAt_lt _ _) (ml_lt _ _ hc)
theorem foldS_at (a : ByteArray) (c : Nat) (hc : c < 256) (s : ByteArray) (i : Nat) (h : i < s.size) : bAt (foldS a c s) i = bAt a i ^^^ ml c (bAt s i) := bAt_bs _ _ _ h (fold_byte_lt a c hc s i)
theorem scaleS_at (c : Nat) (hc : c < 256) (s : ByteArray) (i : Nat) (h : i < s.size) : bAt (scaleS c s) i = ml c (bAt s i) := bAt_bs _ _ _ h (ml_lt _ _ hc)
theorem addS_fold : ∀ (r : List ByteArray) (o : ByteArray), (∀ t ∈ r, t.size = o.size) → r.foldl (fun o t => foldS o 1 t) o = bs o.size (fun i => r.foldl (fun x t => x ^^^ bAt t i) (bAt o i))
  | [], o, _ => (bs_self o).symm
  | t :: r, o, h => by
    have ht : t.size = o.size := h t (by simp)
    have ih := addS_fold r (foldS o 1 t) (fun u hu => by rw [foldS_size, h u (by simp [hu]), ht])
    simp only [List.foldl_cons]
    rw [ih, foldS_size, ht]
    apply bs_congr
    intro i hi
    rw [foldS_at o 1 (by omega) t i (by omega), ml_one_left _ (bAt_lt _ _)]
theorem addS_is (s : ByteArray) (r : List ByteArray) (h : ∀ t ∈ r, t.size = s.size) : addS (s :: r) = bs s.size (xorL (s :: r)) := by
  show r.foldl (fun o t => foldS o 1 t) s = _
  rw [addS_fold r s h]
  apply bs_congr
  intro i _
  unfold xorL
  simp only [List.foldl_cons, Nat.zero_xor]

/-! the four words, byte by byte -/
def addW (l : List ByteArray) (p : Nat) : Nat := l.foldl (fun x s => x ^^^ ldS s p 8) 0
def scaleW (c : Nat) (s : ByteArray) (p : Nat) : Nat := tmN (ldS s p 8) c
def foldW (a : ByteArray) (c : Nat) (s : ByteArray) (p : Nat) : Nat := ldS a p 8 ^^^ tmN (ldS s p 8) c
def doubleW (a s : ByteArray) (p : Nat) : Nat := twN (ldS a p 8) ^^^ ldS s p 8
theorem ld_byte (s : ByteArray) (i : Nat) : ldS s (8 * (i / 8) : Nat) 8 / 256 ^ (i % 8) % 256 = bAt s (i : Int) := by
  rw [ldS_byte s _ 8 (i % 8) (Nat.mod_lt _ (by omega)), place]
theorem addW_byte_go (i : Nat) : ∀ (l : List ByteArray) (x y : Nat), x / 256 ^ (i % 8) % 256 = y → (l.foldl (fun x s => x ^^^ ldS s (8 * (i / 8) : Nat) 8) x) / 256 ^ (i % 8) % 256 = l.foldl (fun x s => x ^^^ bAt s i) y
  | [], _, _, h => h
  | s :: r, x, y, h => by
    simp only [List.foldl_cons]
    apply addW_byte_go i r
    rw [byN_xor, h, ld_byte]
theorem addW_byte (l : List ByteArray) (i : Nat) : wbF (addW l) i = xorL l i := by
  unfold wbF addW xorL
  exact addW_byte_go i l 0 0 (by simp)
theorem scaleW_byte (c : Nat) (hc : c < 256) (s : ByteArray) (i : Nat) : wbF (scaleW c s) i = ml c (bAt s i) := by
  unfold wbF scaleW
  rw [tm_byte _ _ _ (ldS_lt64 s _ 8 (by omega)) (Nat.mod_lt _ (by omega)), ld_byte, ml_comm _ _ (bAt_lt _ _) hc]
theorem foldW_byte (a : ByteArray) (c : Nat) (hc : c < 256) (s : ByteArray) (i : Nat) : wbF (foldW a c s) i = bAt a i ^^^ ml c (bAt s i) := by
  unfold wbF foldW
  rw [byN_xor, tm_byte _ _ _ (ldS_lt64 s _ 8 (by omega)) (Nat.mod_lt _ (by omega)), ld_byte, ld_byte, ml_comm _ _ (bAt_lt _ _) hc]
theorem doubleW_byte (a s : ByteArray) (i : Nat) : wbF (doubleW a s) i = bAt s i ^^^ ml 2 (bAt a i) := by
  unfold wbF doubleW
  rw [byN_xor, tw_byte _ _ (Nat.mod_lt _ (by omega)), ld_byte, ld_byte, ml_comm _ _ (bAt_lt _ _) (by omega), Nat.xor_comm]
theorem addW_lt (l : List ByteArray) (p : Nat) : addW l p < 18446744073709551616 := by
  have key : ∀ (l : List ByteArray) (x : Nat), x < 18446744073709551616 → l.foldl (fun x s => x ^^^ ldS s p 8) x < 18446744073709551616 := by
    intro l
    induction l with
    | nil => intro x h; exact h
    | cons s r ih => intro x h; exact ih _ (xor64 _ _ h (ldS_lt64 s _ 8 (by omega)))
  exact key l 0 (by omega)
theorem scaleW_lt (c : Nat) (s : ByteArray) (p : Nat) : scaleW c s p < 18446744073709551616 := tm_lt _ _ (ldS_lt64 s _ 8 (by omega))
theorem foldW_lt (a : ByteArray) (c : Nat) (s : ByteArray) (p : Nat) : foldW a c s p < 18446744073709551616 := xor64 _ _ (ldS_lt64 a _ 8 (by omega)) (tm_lt _ _ (ldS_lt64 s _ 8 (by omega)))
theorem doubleW_lt (a s : ByteArray) (p : Nat) : doubleW a s p < 18446744073709551616 := xor64 _ _ (tw_lt _) (ldS_lt64 s _ 8 (by omega))
theorem scale_is (c : Nat) (hc : c < 256) (s : ByteArray) : bs s.size (wbF (scaleW c s)) = scaleS c s := bs_congr fun i _ => scaleW_byte c hc s i
theorem fold_is (a : ByteArray) (c : Nat) (hc : c < 256) (s : ByteArray) : bs s.size (wbF (foldW a c s)) = foldS a c s := bs_congr fun i _ => foldW_byte a c hc s i
theorem double_is (a s : ByteArray) : bs a.size (wbF (doubleW a s)) = foldS s 2 a := bs_congr fun i _ => doubleW_byte a s i
theorem add_is (s : ByteArray) (r : List ByteArray) (h : ∀ t ∈ r, t.size = s.size) : bs s.size (wbF (addW (s :: r))) = addS (s :: r) := by
  rw [addS_is s r h]; exact bs_congr fun i _ => addW_byte _ i

/-! ### the laws of sums and products -/
def zs (n : Nat) : ByteArray := bs n (fun _ => 0)
theorem zs_size (n : Nat) : (zs n).size = n := bs_size _ _
theorem zs_at (n i : Nat) : bAt (zs n) (i : Int) = 0 := by
  by_cases h : i < n
  · exact bAt_bs n _ i h (by omega)
  · exact bAt_past _ i (by rw [zs_size]; omega)
theorem fold_zs (c : Nat) (s : ByteArray) (n : Nat) : foldS (zs n) c s = scaleS c s := bs_congr fun i _ => by rw [zs_at, Nat.zero_xor]
theorem fold_back (x y : ByteArray) (c : Nat) (hc : c < 256) (h : y.size = x.size) : foldS (foldS x c y) c y = x := by
  apply bs_ext
  · rw [foldS_size, h]
  · intro i hi
    rw [foldS_size] at hi
    rw [foldS_at _ c hc y i hi, foldS_at _ c hc y i hi, Nat.xor_assoc, Nat.xor_self, Nat.xor_zero]
theorem fold_comm (x y : ByteArray) (h : y.size = x.size) : foldS x 1 y = foldS y 1 x := by
  unfold foldS
  rw [h]
  exact bs_congr fun i _ => by rw [ml_one_left _ (bAt_lt _ _), ml_one_left _ (bAt_lt _ _), Nat.xor_comm]
theorem scale_comm (c d : Nat) (hc : c < 256) (hd : d < 256) (x : ByteArray) : scaleS d (scaleS c x) = scaleS c (scaleS d x) := by
  apply bs_ext
  · simp only [scaleS_size]
  · intro i hi
    simp only [scaleS_size] at hi
    rw [scaleS_at d hd _ i (by rw [scaleS_size]; exact hi), scaleS_at c hc _ i hi, scaleS_at c hc _ i (by rw [scaleS_size]; exact hi), scaleS_at d hd _ i hi]
    rw [ml_assoc d c _ hd hc (bAt_lt _ _), ml_assoc c d _ hc hd (bAt_lt _ _), ml_comm c d hc hd]
theorem bAt_append (a b : ByteArray) (i : Nat) : bAt (a ++ b) (i : Int) = if i < a.size then bAt a (i : Int) else bAt b ((i - a.size : Nat) : Int) := by
  rw [bAt_get, bAt_get, bAt_get]
  have e : (a ++ b).data.toList = a.data.toList ++ b.data.toList := by simp [ByteArray.data_append]
  have hs : a.data.toList.length = a.size := by simp
  rw [e]
  simp only [List.getD_eq_getElem?_getD, List.getElem?_append, hs]
  split <;> rfl
theorem bAt_extract (s : ByteArray) (a b i : Nat) (hb : b ≤ s.size) (h : i < b - a) : bAt (s.extract a b) (i : Int) = bAt s ((a + i : Nat) : Int) := by
  have hs : (s.extract a b).size = b - a := by rw [ByteArray.size_extract]; omega
  rw [bAt_nat _ i (by omega), bAt_nat _ (a + i) (by omega)]
  congr 1
  exact ByteArray.getElem_extract _
theorem extract_size (s : ByteArray) (a b : Nat) (hb : b ≤ s.size) : (s.extract a b).size = b - a := by rw [ByteArray.size_extract]; omega
theorem fold_parts (x y : ByteArray) (c : Nat) (hc : c < 256) (h : y.size = x.size) (k : Nat) (hk : k ≤ x.size) :
    foldS x c y = foldS (x.extract 0 k) c (y.extract 0 k) ++ foldS (x.extract k x.size) c (y.extract k y.size) := by
  have s1 : (y.extract 0 k).size = k := by rw [extract_size _ _ _ (by omega)]; omega
  have s2 : (y.extract k y.size).size = y.size - k := extract_size _ _ _ (Nat.le_refl _)
  apply bs_ext
  · rw [ByteArray.size_append, foldS_size, foldS_size, foldS_size, s1, s2]; omega
  · intro i hi
    rw [foldS_size] at hi
    rw [bAt_append, foldS_size, s1, foldS_at x c hc y i hi]
    by_cases hik : i < k
    · rw [if_pos hik, foldS_at _ c hc _ i (by omega), bAt_extract x 0 k i hk (by omega), bAt_extract y 0 k i (by omega) (by omega)]
      simp
    · rw [if_neg hik, foldS_at _ c hc _ _ (by omega), bAt_extract x k x.size _ (Nat.le_refl _) (by omega), bAt_extract y k y.size _ (Nat.le_refl _) (by omega), show k + (i - k) = i by omega]

end Go.Proofs.YtinpkfdmellleaaGreat

namespace Go.Proofs.YtinpkfdmellleaaGreat
open Go.RowKit Plain

/-- w' is w with whatever is new behind it. -/
def Kp (w w' : World) : Prop := Below w.heap.size w w'
theorem Kp.refl (w : World) : Kp w w := Below.refl _ _
theorem Kp.trans {a b c : World} (h : Kp a b) (k : Kp b c) : Kp a c := Below.trans h (Below.mono k h.size)
theorem Kp.alloc {a b : World} (h : Kp a b) (o : Obj) : Kp a (b.alloc o) := Below.alloc h h.size o
theorem Kp.drew {a b : World} (h : Kp a b) : Kp a b.drew := Below.drew h
theorem Kp.ext {a b c : World} (h : Kp a b) (k : Ext b c) : Kp a c := h.trans k.below
theorem Kp.cell {w w' : World} (h : Kp w w') {b o : Nat} (hb : b < w.heap.size) : w'.cell? ⟨b, o, none⟩ = w.cell? ⟨b, o, none⟩ := Below.cell (p := ⟨b, o, none⟩) h hb
theorem Kp.held {w w' : World} (h : Kp w w') {b o : Nat} {v : Value} (hc : w.cell? ⟨b, o, none⟩ = some v) : w'.cell? ⟨b, o, none⟩ = some v := (h.cell (World.block_lt_of_cell? w _ hc)).trans hc
theorem Kp.grown {a b c : World} {row : Option Nat} (h : Kp a b) (g : b.grownBy c row) (hr : ∀ k, row = some k → a.heap.size ≤ k) : Kp a c := Below.grown h g h.size hr

/-- a list of texts in memory. -/
inductive StrsIn (w : World) : Value → List ByteArray → Prop
  | empty (a : Option Addr) (cap : Nat) (h : cap ≤ maxLen) : StrsIn w (.slice a 0 cap) []
  | some (b off cap : Nat) (l : List ByteArray) (h0 : 0 < l.length) (h1 : l.length ≤ cap) (h2 : cap ≤ maxLen) (hc : ∀ i, i < l.length → w.cell? ⟨b, off + i, none⟩ = Option.some (.string (l.getD i noS))) : StrsIn w (.slice (Option.some ⟨b, off, none⟩) l.length cap) l
theorem StrsIn.kept {w w' : World} {v : Value} {l : List ByteArray} (h : StrsIn w v l) (k : Kp w w') : StrsIn w' v l := by
  cases h with
  | empty a cap h => exact .empty a cap h
  | some b off cap l h0 h1 h2 hc => exact .some b off cap l h0 h1 h2 (fun i hi => k.held (hc i hi))
theorem StrsIn.lit1 (w : World) (x : ByteArray) (t : TypeId) : StrsIn (w.alloc (.cells #[.string x] t)) (.slice (Option.some ⟨w.heap.size, 0, none⟩) 1 1) [x] :=
  .some w.heap.size 0 1 [x] (by simp) (by simp) (by unfold maxLen; omega) (fun i hi => by
    obtain rfl : i = 0 := by simp at hi; omega
    rw [World.cell?_alloc_at _ _ _ _ rfl]; rfl)
theorem StrsIn.lit2 (w : World) (x y : ByteArray) (t : TypeId) : StrsIn (w.alloc (.cells #[.string x, .string y] t)) (.slice (Option.some ⟨w.heap.size, 0, none⟩) 2 2) [x, y] :=
  .some w.heap.size 0 2 [x, y] (by simp) (by simp) (by unfold maxLen; omega) (fun i hi => by
    have h : i = 0 ∨ i = 1 := by simp at hi; omega
    rcases h with rfl | rfl <;> (rw [World.cell?_alloc_at _ _ _ _ rfl]; rfl))
theorem StrsIn.owned {w : World} {base : Nat} {e : TypeId} {v : Value} {l : List ByteArray} (h : w.ownsRow base e 1 v l.length (l.map Value.string)) : StrsIn w v l := by
  rcases h.2 with ⟨rfl, h0⟩ | ⟨g, cap, cur, rfl, _, hg, hn, hm, _, htake⟩
  · obtain rfl : l = [] := List.eq_nil_of_length_eq_zero h0
    exact .empty none 0 (by unfold maxLen; omega)
  · by_cases h0 : l.length = 0
    · obtain rfl : l = [] := List.eq_nil_of_length_eq_zero h0
      exact .empty _ cap hm
    · refine .some g 0 cap l (by omega) hn hm (fun i hi => ?_)
      rw [Nat.zero_add, h.cellAt i (by omega)]
      simp [List.getD_eq_getElem?_getD, hi]

theorem StrsIn.two {w : World} {v : Value} {A B : ByteArray} (h : StrsIn w v [A, B]) : ∃ b off cap, v = .slice (Option.some ⟨b, off, none⟩) 2 cap ∧ 2 ≤ cap ∧ cap ≤ 9223372036854775807 ∧ w.cell? ⟨b, off, none⟩ = Option.some (.string A) ∧ w.cell? ⟨b, off + 1, none⟩ = Option.some (.string B) := by
  obtain ⟨l, hl⟩ : ∃ l, l = [A, B] := ⟨_, rfl⟩
  rw [← hl] at h
  cases h with
  | empty a cap h => cases hl
  | some b off cap l h0 h1 h2 hc =>
    subst hl
    exact ⟨b, off, cap, rfl, h1, by unfold maxLen at h2; omega, hc 0 (by simp), hc 1 (by simp)⟩

/-- 0: buffers of one length; 2: one is too long; 4: of unlike lengths. -/
def fitE (l : List ByteArray) : Int := if ∀ s ∈ l, s.size ≤ 65536 then (if ∀ s ∈ l, s.size = (l.getD 0 noS).size then 0 else 4) else 2
def lenS (l : List ByteArray) : Nat := if fitE l = 0 then (l.getD 0 noS).size else 0
theorem mem_of_at (l : List ByteArray) (i : Nat) (h : i < l.length) : l.getD i noS ∈ l := by
  rw [List.getD_eq_getElem?_getD, List.getElem?_eq_getElem h]
  exact List.getElem_mem h
theorem all_of_at {P : ByteArray → Prop} {l : List ByteArray} (h : ∀ i, i < l.length → P (l.getD i noS)) : ∀ s ∈ l, P s := by
  intro s hs
  obtain ⟨i, hi, rfl⟩ := List.getElem_of_mem hs
  have := h i hi
  rw [List.getD_eq_getElem?_getD, List.getElem?_eq_getElem hi] at this
  exact this
theorem fit_big {l : List ByteArray} (i : Nat) (h : i < l.length) (hb : 65536 < (l.getD i noS).size) : fitE l = 2 := by
  unfold fitE
  rw [if_neg]
  intro hh
  have := hh _ (mem_of_at l i h)
  omega
theorem fit_unlike {l : List ByteArray} (hs : ∀ i, i < l.length → (l.getD i noS).size ≤ 65536) (i : Nat) (h : i < l.length) (hb : (l.getD i noS).size ≠ (l.getD 0 noS).size) : fitE l = 4 := by
  unfold fitE
  rw [if_pos (all_of_at hs), if_neg]
  intro hh
  exact hb (hh _ (mem_of_at l i h))
theorem fit_ok {l : List ByteArray} (hs : ∀ i, i < l.length → (l.getD i noS).size ≤ 65536) (he : ∀ i, i < l.length → (l.getD i noS).size = (l.getD 0 noS).size) : fitE l = 0 := by
  unfold fitE
  rw [if_pos (all_of_at hs), if_pos (all_of_at he)]
theorem fit_is (l : List ByteArray) (h : fitE l = 0) : (∀ i, i < l.length → (l.getD i noS).size ≤ 65536) ∧ ∀ i, i < l.length → (l.getD i noS).size = (l.getD 0 noS).size := by
  unfold fitE at h
  split at h
  · rename_i h1
    split at h
    · rename_i h2
      exact ⟨fun i hi => h1 _ (mem_of_at l i hi), fun i hi => h2 _ (mem_of_at l i hi)⟩
    · cases h
  · cases h
theorem fit_zero (l : List ByteArray) (h : fitE l = 0) : lenS l = (l.getD 0 noS).size := by unfold lenS; rw [if_pos h]
theorem fit_not (l : List ByteArray) (h : fitE l ≠ 0) : lenS l = 0 := by unfold lenS; rw [if_neg h]
theorem fit_range (l : List ByteArray) : fitE l = 0 ∨ fitE l = 2 ∨ fitE l = 4 := by unfold fitE; split <;> (try split) <;> simp

/-! ### a text's bytes appended to a row of the call's own, within the capacity -/
section
variable {P : Program} (w : World)
theorem run_append_fits_str (base : Nat) (t tx ty e : TypeId) (i : TypeInfo) (ht : P.underlying t = some (.slice e)) (htx : P.underlying tx = some .string) (hi : P.info? e = some i) (hsize : i.size = 1)
    (g n cap : Nat) (xs : List Value) (hown : w.ownsRow base e 1 (.slice (some ⟨g, 0, none⟩) n cap) n xs) (s : ByteArray) (hroom : n + s.size ≤ cap) :
    ∃ w', (Builtin.append_ #[t, tx] ty #[.slice (some ⟨g, 0, none⟩) n cap, .string s]).run P w = .ok (.slice (some ⟨g, 0, none⟩) (n + s.size) cap) w' ∧
      w'.ownsRow base e 1 (.slice (some ⟨g, 0, none⟩) (n + s.size) cap) (n + s.size) (xs ++ byteCells s) ∧ w.grownBy w' (some g) := by
  have hl := byteCells_length s
  have hlen : (xs ++ byteCells s).length = (n + s.size) * 1 := by rw [List.length_append, hown.1, hl]; omega
  have h1 := (Src.ofString (P := P) w htx s).one
  rcases hown.2 with ⟨h, _⟩ | ⟨g', cap', cur, h, hbg, hg, hnc, hcm, hcs, htake⟩
  · simp at h
  · simp only [Value.slice.injEq, Option.some.injEq, Addr.mk.injEq, and_true, true_and] at h
    obtain ⟨rfl, rfl⟩ := h
    have hst := run_storeCells_at P g (n * i.size) e (byteCells s) 0 cur w hg (by rw [hl, hcs, hsize]; omega) h1
    simp only [Nat.add_zero] at hst
    have hr : (Builtin.append_ #[t, tx] ty #[.slice (some ⟨g, 0, none⟩) n cap, .string s]).run P w =
      .ok (.slice (some ⟨g, 0, none⟩) (n + s.size) cap) (w.setRow g (cur.toList.take (n * i.size) ++ byteCells s ++ cur.toList.drop (n * i.size + (byteCells s).length)).toArray) := by
      have hf := firstCells_string (P := P) s w
      simp [Builtin.append_, run_underlying ht, run_underlying htx, sizeOf, typeInfo, hi, Builtin.lenOf, hroom, hsize, hf, Addr.add_lit]
      rw [hsize, Nat.mul_one] at hst
      simp [hst]
    rw [hsize] at hr
    refine ⟨_, hr, ⟨hlen, .inr ⟨g, cap, _, rfl, hbg, setRow_heap w g cur _ e _ hg, hroom, hcm, ?_, ?_⟩⟩, ⟨rfl, rfl, rfl, by simp, fun k _ hk => setRow_other w g k _ (fun e => hk (by simp [e]))⟩⟩
    · simp only [List.size_toArray, List.length_append, List.length_take, List.length_drop, Array.length_toList]
      omega
    · rw [htake, ← hlen]
      exact List.take_left

theorem wpList_append_fits_str {ops : Array Oper} {rest : List Oper} {o : Oper} {a : Act} {Q : Exit → Act → World → Prop}
    (hg : o.guard = none) (s x : Operand) (t tx : TypeId) (hop : o.op = Op.call { callee := Callee.builtin Builtin.append, args := #[s, x], argTypes := #[t, tx] })
    (base : Nat) (e : TypeId) (i : TypeInfo) (h1 : P.underlying t = some (.slice e)) (htx : P.underlying tx = some .string) (h2 : P.info? e = some i) (h4 : i.size = 1)
    (g k cap : Nat) (xs : List Value) (hs : a.eval s = .slice (some ⟨g, 0, none⟩) k cap) (hown : w.ownsRow base e 1 (.slice (some ⟨g, 0, none⟩) k cap) k xs) (tt : ByteArray) (hx : a.eval x = .string tt) (b1 : k + tt.size ≤ cap)
    (hK : ∀ w', w'.ownsRow base e 1 (.slice (some ⟨g, 0, none⟩) (k + tt.size) cap) (k + tt.size) (xs ++ byteCells tt) → w.grownBy w' (some g) → wpList P ops Q rest (a.put o.dst (.slice (some ⟨g, 0, none⟩) (k + tt.size) cap)) w') :
    wpList P ops Q (o :: rest) a w := by
  refine wpList_plain hg fun K hK' => ?_
  obtain ⟨w', hrun, r1, r2⟩ := run_append_fits_str (P := P) w base t tx o.type e i h1 htx h2 h4 g k cap xs hown tt b1
  unfold Oper.wp
  simp [execOp, hop, resolve, invoke, builtin, hs, hx, hrun, Result.andThen]
  exact hK' _ _ (hK w' r1 r2)
end

/-- a row of bytes of the call's own, as a text. -/
theorem convert_owned {P : Program} {w : World} {base g n cap : Nat} {e : TypeId} {m : Nat} {f : Nat → Nat} (src dst : TypeId) (hs : P.underlying src = some (.slice e)) (he : P.underlying e = some (.int .u8)) (hd : P.underlying dst = some .string)
    (h : w.ownsRow base e 1 (.slice (some ⟨g, 0, none⟩) n cap) n ((List.range n).map fun i => Value.int .u8 ((f i : Nat) : Int))) (hm : m ≤ n) (c : Nat) :
    (convert src dst (.slice (some ⟨g, 0, none⟩) m c)).run P w = .ok (.string (bs m f)) w := by
  refine run_convert_bytes_arg (P := P) w src e hs he g 0 m c ((List.range m).map fun i => ((f i : Nat) : Int)) (by simp) (fun i hi => ?_) dst hd
  rw [Nat.zero_add, h.cellAt i (by omega)]
  simp [List.getD_eq_getElem?_getD, hi, show i < n by omega]

end Go.Proofs.YtinpkfdmellleaaGreat

namespace Go.Proofs.YtinpkfdmellleaaGreat
open Go.ChangeShapes Go.WideShapes Go.ChangeAt Go.RowKit

/-- w' is w with whatever is new behind it. -/
def Kept (w w' : World) : Prop := Grown w w' ∧ ∀ k, k < w.heap.size → w'.heap[k]? = w.heap[k]?
theorem Kept.same {w w' : World} (h : Kept w w') {p : MemPlace} (hp : p.block < w.heap.size) : w.sameAt w' p := by
  cases p with
  | cell b o => exact World.cell?_of_block (w := w) (h.2 b hp)
  | map b => exact h.2 b hp
theorem Kept.cell {w w' : World} (h : Kept w w') {b o : Nat} (hb : b < w.heap.size) : w'.cell? ⟨b, o, none⟩ = w.cell? ⟨b, o, none⟩ := World.cell?_of_block (w := w) (a := ⟨b, o, none⟩) (h.2 b hb)

section
variable {H : Type} {enc : TypeId × Value → H} {P : Program}
theorem trodAll_stays (hl : laidOutB P = true) {W W' : World} {sp : Nat → Bool} : ∀ {ts : List TypeId} {vs : List Value} {ds : List (DataW H)} {ps : List MemPlace}, (∀ t ∈ ts, P.readableRec t = true ∧ t < P.types.size) →
    DataW.TrodAll enc P W 0 (fun _ => true) true ts vs ds ps → (∀ p ∈ ps, W.sameAt W' p) → (∀ p ∈ ps, sp p.block = true) → DataW.TrodAll enc P W' 0 sp true ts vs ds ps
  | [], [], [], _, _, h, _, _ => h
  | _ :: _, _ :: _, _ :: _, _, hT, ⟨p, q, h1, h2, e⟩, hsame, hs =>
    ⟨p, q, WideElems.Trod_stays hl (hT _ (List.mem_cons.2 (Or.inl rfl))).1 (hT _ (List.mem_cons.2 (Or.inl rfl))).2 h1 (fun x hx => hsame x (by rw [e]; exact List.mem_append_left _ hx)) (fun x hx => hs x (by rw [e]; exact List.mem_append_left _ hx)),
      trodAll_stays hl (fun t ht => hT t (List.mem_cons.2 (Or.inr ht))) h2 (fun x hx => hsame x (by rw [e]; exact List.mem_append_right _ hx)) (fun x hx => hs x (by rw [e]; exact List.mem_append_right _ hx)), e⟩

/-- a slice of bytes that came in: empty, or n numbers at plain cells. -/
inductive BytesIn (w : World) : Value → Prop
  | empty (a : Option Addr) (cap : Nat) (h : cap ≤ maxLen) : BytesIn w (.slice a 0 cap)
  | some (b off n cap : Nat) (zs : List Int) (hb : b < w.heap.size) (h0 : 0 < n) (h1 : n ≤ cap) (h2 : cap ≤ maxLen) (hc : ∀ i, i < n → w.cell? ⟨b, off + i, none⟩ = Option.some (.int .u8 (zs.getD i 0))) (hz : ∀ i, 0 ≤ zs.getD i 0 ∧ zs.getD i 0 < 256) : BytesIn w (.slice (Option.some ⟨b, off, none⟩) n cap)

theorem open_bytes {t e : TypeId} {W : World} {base : Nat} {v : Value} {d : DataW H} {ps : List MemPlace} (ht : P.underlying t = some (.slice e)) (he : P.underlying e = some (.int .u8)) (hc : P.cellsOf e = 1)
    (hv : Value.okWide P W .any base t v) (h : DataW.Trod enc P W 0 (fun _ => true) true t v d ps) : BytesIn W v := by
  obtain ⟨a0, len, cap, rfl⟩ := okWide_slice ht hv
  obtain ⟨fuel, hf⟩ := h
  rcases open_ints ht he hc hf with ⟨hcs, _⟩ | ⟨a, len', cap', zs, hcs, _, hl, hm, hz, _, hcell, hwz⟩
  · simp [Value.cells] at hcs
    obtain ⟨rfl, rfl, rfl⟩ := hcs
    exact .empty none 0 (by unfold maxLen; omega)
  · simp [Value.cells] at hcs
    obtain ⟨rfl, rfl, rfl⟩ := hcs
    simp only [if_true] at hz
    by_cases h0 : len = 0
    · subst h0; exact .empty _ _ hm
    · obtain ⟨b, off, spot⟩ := a
      have hspot : spot = none := by simpa [Addr.add] using World.cell?_spot (hcell 0 (by omega))
      subst hspot
      have hb : b < W.heap.size := by
        have h0 := hcell 0 (by omega)
        have e0 : (Addr.add ⟨b, off, none⟩ 0) = ⟨b, off, none⟩ := by simp [Addr.add]
        rw [e0] at h0
        by_cases hh : b < W.heap.size
        · exact hh
        · exfalso
          have hn : W.heap[b]? = none := by simp; omega
          simp [World.cell?, hn] at h0
      refine .some b off len cap zs hb (by omega) hl hm (fun i hi => ?_) (fun i => ?_)
      · have hci := hcell i (by omega)
        have ei : (Addr.add ⟨b, off, none⟩ i) = ⟨b, off + i, none⟩ := by simp [Addr.add]
        rw [ei] at hci; exact hci
      · by_cases hi : i < zs.length
        · have e : zs.getD i 0 = zs[i] := by simp [List.getD, hi]
          have hw := hwz _ (List.getElem_mem hi)
          rw [e]
          have := bounds_u8 hw
          omega
        · have e : zs.getD i 0 = 0 := by rw [List.getD, List.getElem?_eq_none (by omega)]; rfl
          rw [e]; omega
end

end Go.Proofs.YtinpkfdmellleaaGreat

namespace Go.Proofs.YtinpkfdmellleaaGreat
open Go.ChangeShapes Go.WideShapes Go.ChangeAt Go.RowKit

section
variable {H : Type} {enc : TypeId × Value → H} {P : Program}
theorem open_strs {t e : TypeId} {W : World} {base : Nat} {v : Value} {d : DataW H} {ps : List MemPlace} (ht : P.underlying t = some (.slice e)) (he : P.underlying e = some .string) (hc : P.cellsOf e = 1)
    (hv : Value.okWide P W .any base t v) (h : DataW.Trod enc P W 0 (fun _ => true) true t v d ps) : ∃ l : List ByteArray, StrsIn W v l ∧ ∀ i, i < l.length → (l.getD i noS).size ≤ maxLen := by
  obtain ⟨a0, len, cap, rfl⟩ := okWide_slice ht hv
  obtain ⟨fuel, hf⟩ := h
  rcases open_strings ht he hc hf with ⟨hcs, _⟩ | ⟨a, len', cap', ss, hcs, _, hl, hm, hz, _, hcell, hsz⟩
  · simp [Value.cells] at hcs
    obtain ⟨rfl, rfl, rfl⟩ := hcs
    exact ⟨[], .empty none 0 (by unfold maxLen; omega), fun i hi => by simp at hi⟩
  · simp [Value.cells] at hcs
    obtain ⟨rfl, rfl, rfl⟩ := hcs
    simp only [if_true] at hz
    by_cases h0 : len = 0
    · subst h0; exact ⟨[], .empty _ _ hm, fun i hi => by simp at hi⟩
    · obtain ⟨b, off, spot⟩ := a
      have hspot : spot = none := by simpa [Addr.add] using World.cell?_spot (hcell 0 (by omega))
      subst hspot
      have hlen : (ss.take len).length = len := by rw [List.length_take]; omega
      have hat : ∀ i, i < len → (ss.take len).getD i noS = ss.getD i ByteArray.empty := fun i hi => by
        rw [List.getD_eq_getElem?_getD, List.getD_eq_getElem?_getD, List.getElem?_take, if_pos hi, List.getElem?_eq_getElem (by omega)]
        rfl
      have key := StrsIn.some (w := W) b off cap (ss.take len) (by omega) (by omega) hm (fun i hi => by
        rw [hlen] at hi
        have hci := hcell i (by omega)
        have ei : (Addr.add ⟨b, off, none⟩ i) = ⟨b, off + i, none⟩ := by simp [Addr.add]
        rw [ei] at hci
        rw [hat i hi]; exact hci)
      rw [hlen] at key
      refine ⟨ss.take len, key, fun i hi => ?_⟩
      rw [hlen] at hi
      rw [hat i hi, List.getD_eq_getElem?_getD, List.getElem?_eq_getElem (by omega)]
      exact hsz _ (List.getElem_mem (by omega))

theorem weights_strs (P : Program) (e : TypeId) : ∀ (l : List ByteArray) (s : ByteArray), s ∈ l → s.size ∈ DataW.weightsAll P e (strs (H := H) l)
  | [], _, h => by cases h
  | a :: r, s, h => by
    show s.size ∈ (DataW.lit (H := H) (.string a.data.toList)).weights P e ++ DataW.weightsAll P e (strs r)
    rw [List.mem_append]
    rcases List.mem_cons.1 h with rfl | h'
    · refine Or.inl ?_
      rw [show (DataW.lit (H := H) (.string s.data.toList)).weights P e = [s.data.toList.length] by simp [DataW.weights]]
      simp
    · exact Or.inr (weights_strs P e r s h')
/-- a list of texts, each of which is within the reach. -/
theorem open_strs_sized {t e : TypeId} {W : World} {base : Nat} {v : Value} {d : DataW H} {ps : List MemPlace} (ht : P.underlying t = some (.slice e)) (he : P.underlying e = some .string) (hc : P.cellsOf e = 1)
    (hv : Value.okWide P W .any base t v) (h : DataW.Trod enc P W 0 (fun _ => true) true t v d ps) (hw : ∀ n ∈ d.weights P t, n ≤ 140737488351232) : ∃ l : List ByteArray, StrsIn W v l ∧ (∀ i, i < l.length → (l.getD i noS).size ≤ maxLen) ∧ ∀ i, i < l.length → (l.getD i noS).size ≤ 140737488351232 := by
  obtain ⟨a0, len, cap, rfl⟩ := okWide_slice ht hv
  obtain ⟨fuel, hf⟩ := h
  rcases open_strings ht he hc hf with ⟨hcs, _⟩ | ⟨a, len', cap', ss, hcs, _, hl, hm, hz, hd, hcell, hsz⟩
  · simp [Value.cells] at hcs
    obtain ⟨rfl, rfl, rfl⟩ := hcs
    exact ⟨[], .empty none 0 (by unfold maxLen; omega), fun i hi => by simp at hi, fun i hi => by simp at hi⟩
  · simp [Value.cells] at hcs
    obtain ⟨rfl, rfl, rfl⟩ := hcs
    simp only [if_true] at hz
    by_cases h0 : len = 0
    · subst h0; exact ⟨[], .empty _ _ hm, fun i hi => by simp at hi, fun i hi => by simp at hi⟩
    · obtain ⟨b, off, spot⟩ := a
      have hspot : spot = none := by simpa [Addr.add] using World.cell?_spot (hcell 0 (by omega))
      subst hspot
      have hlen : (ss.take len).length = len := by rw [List.length_take]; omega
      have hat : ∀ i, i < len → (ss.take len).getD i noS = ss.getD i ByteArray.empty := fun i hi => by
        rw [List.getD_eq_getElem?_getD, List.getD_eq_getElem?_getD, List.getElem?_take, if_pos hi, List.getElem?_eq_getElem (by omega)]
        rfl
      have key := StrsIn.some (w := W) b off cap (ss.take len) (by omega) (by omega) hm (fun i hi => by
        rw [hlen] at hi
        have hci := hcell i (by omega)
        have ei : (Addr.add ⟨b, off, none⟩ i) = ⟨b, off + i, none⟩ := by simp [Addr.add]
        rw [ei] at hci
        rw [hat i hi]; exact hci)
      rw [hlen] at key
      obtain ⟨rfl, _⟩ := Prod.mk.inj hd
      refine ⟨ss.take len, key, fun i hi => ?_, fun i hi => ?_⟩
      · rw [hlen] at hi
        rw [hat i hi, List.getD_eq_getElem?_getD, List.getElem?_eq_getElem (by omega)]
        exact hsz _ (List.getElem_mem (by omega))
      · refine hw _ ?_
        have hm2 := weights_strs (H := H) P e (ss.take len) ((ss.take len).getD i noS) (by rw [List.getD_eq_getElem?_getD, List.getElem?_eq_getElem hi]; exact List.getElem_mem _)
        simp only [DataW.weights, ht, List.mem_cons, List.mem_append]
        exact Or.inr (Or.inl hm2)

theorem open_two {k e : TypeId} {W : World} {r : Reach} {b0 base : Nat} {sp : Nat → Bool} {held : Bool} {v : Value} {d : DataW H} {ps : List MemPlace} (hu : P.underlying k = some (.array 2 e)) (he : P.underlying e = some .string) (hone : P.cellsOf e = 1) (hsize : P.cellsOf k = 2)
    (hval : Value.okWide P W r b0 k v) (hd : DataW.Trod enc P W base sp held k v d ps) : ∃ a b : ByteArray, v = .agg #[.string a, .string b] ∧ a.size ≤ maxLen ∧ b.size ≤ maxLen := by
  have hp : ∃ c0 c1, v = .agg #[c0, c1] := by
    simp only [Value.okWide, hu] at hval
    obtain ⟨cs, h1, h2, _⟩ := hval
    rw [hsize] at h2
    obtain ⟨l⟩ := cs
    match l, h2 with
    | [c0, c1], _ => exact ⟨c0, c1, h1⟩
  obtain ⟨c0, c1, rfl⟩ := hp
  obtain ⟨fuel, hf⟩ := hd
  cases fuel with
  | zero => simp [DataW.trod] at hf
  | succ n =>
    rw [DataW.trod_step] at hf
    unfold DataW.trodStep at hf
    simp only [hu, Value.cells] at hf
    rw [if_pos (by rw [hsize]; rfl)] at hf
    simp only [Option.map_eq_some_iff] at hf
    obtain ⟨xs, hx, e1⟩ := hf
    rw [show List.range 2 = [0, 1] from rfl, List.mapM_cons, List.mapM_cons, List.mapM_nil] at hx
    simp only [bind, Option.bind_eq_some_iff, pure, Option.some.injEq, hone] at hx
    obtain ⟨y0, h0, _, ⟨y1, h1, _, rfl, rfl⟩, rfl⟩ := hx
    obtain ⟨a, ea, rfl, wa⟩ := DataW.trod_string he h0
    obtain ⟨b, eb, rfl, wb⟩ := DataW.trod_string he h1
    simp at ea eb
    subst ea; subst eb
    exact ⟨a, b, rfl, wa, wb⟩

theorem open_ints2 {k e : TypeId} {W : World} {r : Reach} {b0 base : Nat} {sp : Nat → Bool} {held : Bool} {v : Value} {d : DataW H} {ps : List MemPlace} (hu : P.underlying k = some (.array 2 e)) (he : P.underlying e = some (.int .i64)) (hone : P.cellsOf e = 1) (hsize : P.cellsOf k = 2)
    (hval : Value.okWide P W r b0 k v) (hd : DataW.Trod enc P W base sp held k v d ps) : ∃ a b : Int, v = .agg #[.int .i64 a, .int .i64 b] ∧ (Lit.int .i64 a).wf = true ∧ (Lit.int .i64 b).wf = true := by
  have hp : ∃ c0 c1, v = .agg #[c0, c1] := by
    simp only [Value.okWide, hu] at hval
    obtain ⟨cs, h1, h2, _⟩ := hval
    rw [hsize] at h2
    obtain ⟨l⟩ := cs
    match l, h2 with
    | [c0, c1], _ => exact ⟨c0, c1, h1⟩
  obtain ⟨c0, c1, rfl⟩ := hp
  obtain ⟨fuel, hf⟩ := hd
  cases fuel with
  | zero => simp [DataW.trod] at hf
  | succ n =>
    rw [DataW.trod_step] at hf
    unfold DataW.trodStep at hf
    simp only [hu, Value.cells] at hf
    rw [if_pos (by rw [hsize]; rfl)] at hf
    simp only [Option.map_eq_some_iff] at hf
    obtain ⟨xs, hx, e1⟩ := hf
    rw [show List.range 2 = [0, 1] from rfl, List.mapM_cons, List.mapM_cons, List.mapM_nil] at hx
    simp only [bind, Option.bind_eq_some_iff, pure, Option.some.injEq, hone] at hx
    obtain ⟨y0, h0, _, ⟨y1, h1, _, rfl, rfl⟩, rfl⟩ := hx
    obtain ⟨a, ea, rfl, wa⟩ := DataW.trod_int he h0
    obtain ⟨b, eb, rfl, wb⟩ := DataW.trod_int he h1
    simp at ea eb
    subst ea; subst eb
    exact ⟨a, b, rfl, wa, wb⟩

theorem open_four {k e : TypeId} {W : World} {r : Reach} {b0 base : Nat} {sp : Nat → Bool} {held : Bool} {v : Value} {d : DataW H} {ps : List MemPlace} (hu : P.underlying k = some (.array 4 e)) (he : P.underlying e = some .string) (hone : P.cellsOf e = 1) (hsize : P.cellsOf k = 4)
    (hval : Value.okWide P W r b0 k v) (hd : DataW.Trod enc P W base sp held k v d ps) : ∃ a b c d : ByteArray, v = .agg #[.string a, .string b, .string c, .string d] ∧ a.size ≤ maxLen ∧ b.size ≤ maxLen ∧ c.size ≤ maxLen ∧ d.size ≤ maxLen := by
  have hp : ∃ c0 c1 c2 c3, v = .agg #[c0, c1, c2, c3] := by
    simp only [Value.okWide, hu] at hval
    obtain ⟨cs, h1, h2, _⟩ := hval
    rw [hsize] at h2
    obtain ⟨l⟩ := cs
    match l, h2 with
    | [c0, c1, c2, c3], _ => exact ⟨c0, c1, c2, c3, h1⟩
  obtain ⟨c0, c1, c2, c3, rfl⟩ := hp
  obtain ⟨fuel, hf⟩ := hd
  cases fuel with
  | zero => simp [DataW.trod] at hf
  | succ n =>
    rw [DataW.trod_step] at hf
    unfold DataW.trodStep at hf
    simp only [hu, Value.cells] at hf
    rw [if_pos (by rw [hsize]; rfl)] at hf
    simp only [Option.map_eq_some_iff] at hf
    obtain ⟨xs, hx, e1⟩ := hf
    rw [show List.range 4 = [0, 1, 2, 3] from rfl, List.mapM_cons, List.mapM_cons, List.mapM_cons, List.mapM_cons, List.mapM_nil] at hx
    simp only [bind, Option.bind_eq_some_iff, pure, Option.some.injEq, hone] at hx
    obtain ⟨y0, h0, _, ⟨y1, h1, _, ⟨y2, h2, _, ⟨y3, h3, _, rfl, rfl⟩, rfl⟩, rfl⟩, rfl⟩ := hx
    obtain ⟨a, ea, rfl, wa⟩ := DataW.trod_string he h0
    obtain ⟨b, eb, rfl, wb⟩ := DataW.trod_string he h1
    obtain ⟨c, ec, rfl, wc⟩ := DataW.trod_string he h2
    obtain ⟨d, ed, rfl, wd⟩ := DataW.trod_string he h3
    simp at ea eb ec ed
    subst ea; subst eb; subst ec; subst ed
    exact ⟨a, b, c, d, rfl, wa, wb, wc, wd⟩

theorem post_kp {f : Func} {s : ChangeSpec} {apart fresh handsOn : Bool} {W W' : World} {args : Array Value} {v : Value} {ds gs : List (DataW H)} {before pa pv : List MemPlace}
    (hW : DataW.Whole enc P f.params.toList s.vars apart W args.toList ds gs before)
    (hres : ∀ (b : Nat) (sp : Nat → Bool) (hd : Bool), DataW.TrodAll enc P W' b sp hd f.resultTypes.toList (v.resultList f.resultTypes.size) (s.fn H (ds ++ gs)).results [])
    (hargs : ∀ sp : Nat → Bool, (∀ p ∈ before, sp p.block = true) → DataW.TrodAll enc P W' 0 sp true f.params.toList args.toList (s.fn H (ds ++ gs)).args pa)
    (hvars : ∀ sp : Nat → Bool, (∀ p ∈ before, sp p.block = true) → DataW.TrodVars enc P W' sp s.vars (s.fn H (ds ++ gs)).vars pv)
    (hps : before = pa ++ pv) (hk : Kp W W') : s.post enc P f apart fresh handsOn false W args v W' := by
  have hold : ∀ p ∈ before, (fun b => decide (b < W.heap.size)) p.block = true := fun p hp => by simpa using hW.lt p hp
  refine ⟨ds, gs, before, [], pa, pv, hW, hres _ _ _, hargs _ hold, hvars _ hold, World.keptBut_mono (fun p hp => ⟨hp, ?_⟩) (Below.frame hk (· ∈ before)), fun h => by cases h⟩
  rw [hps, List.mem_append] at hp
  exact Or.inr hp
end

end Go.Proofs.YtinpkfdmellleaaGreat

namespace Go.Proofs.YtinpkfdmellleaaGreat
open Go.RowKit

open Classical in
noncomputable def kpw (w : World) (p : List World) : World := if Kp w (p.headD w) then p.headD w else w
theorem kpw_kp (w : World) (p : List World) : Kp w (kpw w p) := by
  unfold kpw
  split
  · assumption
  · exact Kp.refl w
theorem kpw_of {w w' : World} (h : Kp w w') : ∃ p, w' = kpw w p := ⟨[w'], by
  unfold kpw
  rw [if_pos]
  · rfl
  · exact h⟩
theorem kpw_cell {w : World} {b o : Nat} {v : Value} (h : w.cell? ⟨b, o, none⟩ = some v) (p : List World) : (kpw w p).cell? ⟨b, o, none⟩ = some v := (kpw_kp w p).held h
/-- a region that draws its order, in the class of the worlds that hold what w held. -/
theorem wp_region_kp {P : Program} {id : Nat} {Q : Exit → Act → World → Prop} {a : Act} {w : World} {l : List Oper} (hm : P.follows .mixedOrders = true) (hB : Region.lexB .any l.toArray = true)
    (h : wpQuiet P l.toArray (fun w' => ∃ p, w' = kpw w p) (fun a' => ∀ w', (∃ p, w' = kpw w p) → Q .normal a' w') l a) : (Code.region id l.toArray true).wp P Q a w :=
  wp_region_quiet (C := fun w' => ∃ p, w' = kpw w p) hm hB (kpw_of (Kp.refl w).drew) (by simpa using h)
/-- a contract, met in such a world. -/
theorem kp_call {P : Program} {f : FuncId} {args : Array Value} {w : World} {p : List World} {v : Value}
    (h : Calls P f args (kpw w p) fun e w' => e = .returned v ∧ Kp (kpw w p) w') : Calls P f args (kpw w p) fun e w'' => e = .returned v ∧ ∃ p, w'' = kpw w p :=
  h.mono fun _ _ ⟨he, k⟩ => ⟨he, kpw_of ((kpw_kp w p).trans k)⟩
theorem kp_same {P : Program} {f : FuncId} {args : Array Value} {w : World} {p : List World} {v : Value}
    (h : Calls P f args (kpw w p) fun e w' => e = .returned v ∧ w' = kpw w p) : Calls P f args (kpw w p) fun e w'' => e = .returned v ∧ ∃ p, w'' = kpw w p :=
  h.mono fun _ _ ⟨he, k⟩ => ⟨he, p, k⟩

end Go.Proofs.YtinpkfdmellleaaGreat

namespace Go.Proofs.YtinpkfdmellleaaGreat
open Go.RowKit

/-- no guard; each waits for earlier ones alone; the last one for every earlier one. -/
def tailB (l : List Oper) (o : Oper) : Bool :=
  l.all (fun x => x.guard.isNone) && o.guard.isNone &&
  (List.range l.length).all (fun j => match l[j]? with | some x => x.after.all fun e => decide (e.on < j) | none => true) &&
  o.after.all (fun e => decide (e.on < l.length)) &&
  (List.range l.length).all (fun j => o.after.any fun e => Region.binds .any e && e.on == j)
theorem wanted_none {o : Oper} (h : o.guard.isNone = true) (y : Nat → Option Bool) : Region.wanted o y = true := by
  unfold Region.wanted
  cases hg : o.guard with
  | none => rfl
  | some g => rw [hg] at h; cases h
theorem push_set (L : Array Bool) (i : Nat) (h : i < L.size) : (L.push false).setIfInBounds i true = (L.setIfInBounds i true).push false := by
  apply Array.ext_getElem?
  intro j
  rw [Array.getElem?_setIfInBounds, Array.getElem?_push, Array.getElem?_push, Array.getElem?_setIfInBounds, Array.size_setIfInBounds, Array.size_push]
  by_cases e : i = j
  · subst e
    rw [if_pos rfl, if_pos (by omega), if_neg (by omega), if_pos rfl, if_pos h]
  · rw [if_neg e, if_neg e]
theorem push_head (L : Array Bool) (b : Bool) (i : Nat) (h : i < L.size) : (L.push false).getD i b = L.getD i b := by
  rw [Array.getD_eq_getD_getElem?, Array.getD_eq_getD_getElem?, Array.getElem?_push, if_neg (by omega)]
theorem push_last (L : Array Bool) (b : Bool) : (L.push false).getD L.size b = false := by
  rw [Array.getD_eq_getD_getElem?, Array.getElem?_push, if_pos rfl]; rfl
theorem push_over (L : Array Bool) (i : Nat) (h : L.size < i) : (L.push false).getD i true = true := by
  rw [Array.getD_eq_getD_getElem?, Array.getElem?_push, if_neg (by omega), Array.getElem?_eq_none (by omega)]; rfl
/-- how many have not come up. -/
def left (L : Array Bool) : Nat := L.toList.count false
theorem left_zero {L : Array Bool} (h : left L = 0) (i : Nat) (hi : i < L.size) (b : Bool) : L.getD i b = true := by
  unfold left at h
  rw [List.count_eq_zero] at h
  rw [Array.getD_eq_getD_getElem?, Array.getElem?_eq_getElem hi]
  cases e : L[i] with
  | true => rfl
  | false => exact absurd (by rw [← e]; simp) h
theorem left_pos {L : Array Bool} (h : 0 < left L) : ∃ m, m < L.size ∧ L.getD m true = false ∧ ∀ i, i < m → L.getD i false = true := by
  unfold left at h
  obtain ⟨m, hm, h1⟩ := List.getElem_of_mem (List.count_pos_iff.1 h)
  have key : ∀ k, (∃ m, m < k ∧ m < L.size ∧ L.getD m true = false) → ∃ m, m < L.size ∧ L.getD m true = false ∧ ∀ i, i < m → L.getD i false = true := by
    intro k
    induction k with
    | zero => rintro ⟨m, h, _⟩; omega
    | succ k ih =>
      rintro ⟨m, h1, h2, h3⟩
      by_cases hx : ∃ m, m < k ∧ m < L.size ∧ L.getD m true = false
      · exact ih hx
      · refine ⟨m, h2, h3, fun i hi => ?_⟩
        have hi2 : i < L.size := by omega
        cases e : L[i] with
        | true => rw [Array.getD_eq_getD_getElem?, Array.getElem?_eq_getElem hi2, e]; rfl
        | false => exact absurd ⟨i, by omega, hi2, by rw [Array.getD_eq_getD_getElem?, Array.getElem?_eq_getElem hi2, e]; rfl⟩ hx
  have hm2 : m < L.size := by simpa using hm
  exact key (m + 1) ⟨m, by omega, hm2, by rw [Array.getD_eq_getD_getElem?, Array.getElem?_eq_getElem hm2]; simpa using h1⟩
theorem left_set {L : Array Bool} {i : Nat} (hi : i < L.size) (h : L.getD i true = false) : left (L.setIfInBounds i true) + 1 = left L := by
  have h1 : L[i] = false := by
    rw [Array.getD_eq_getD_getElem?, Array.getElem?_eq_getElem hi] at h
    simpa using h
  have hp : 0 < L.toList.count false := List.count_pos_iff.2 (by rw [← h1]; simp)
  unfold left
  have h2 : L.toList[i]'(by simpa using hi) = false := by simpa using h1
  rw [Array.toList_setIfInBounds, List.count_set (by simpa using hi), h2]
  show L.toList.count false - 1 + 0 + 1 = L.toList.count false
  omega

theorem any_tail {P : Program} {l : List Oper} {o : Oper} {C : World → Prop} {Q : Exit → Act → World → Prop} {Qa : Act → Prop} (hB : tailB l o = true)
    (hQ : ∀ a w, C w → Qa a → wpOp P (l ++ [o]).toArray Q l.length (fun a w => Q .normal a w) a w) :
    ∀ (f : Nat) (L : Array Bool) (a : Act) (w : World), C w → L.size = l.length → left L = f → wpAnyQ P .any l.toArray C Qa f L a → wpAny P .any (l ++ [o]).toArray Q (f + 1) (L.push false) a w := by
  unfold tailB at hB
  simp only [Bool.and_eq_true, List.all_eq_true, List.mem_range] at hB
  obtain ⟨⟨⟨⟨hg, hgo⟩, hbk⟩, hbo⟩, hwt⟩ := hB
  have hat : ∀ j, j < l.length → (l ++ [o]).toArray[j]? = l[j]? := fun j hj => by simp [List.getElem?_append_left hj]
  have hlast : (l ++ [o]).toArray[l.length]? = some o := by simp
  have hbk2 : ∀ (j : Nat) (x : Oper), l[j]? = some x → ∀ e ∈ x.after, e.on < j := fun j x hx e he => by
    have hj : j < l.length := (List.getElem?_eq_some_iff.1 hx).1
    have := hbk j hj
    rw [hx] at this
    exact of_decide_eq_true (Array.all_eq_true_iff_forall_mem.1 this e he)
  have hbo2 : ∀ e ∈ o.after, e.on < l.length := fun e he => of_decide_eq_true (Array.all_eq_true_iff_forall_mem.1 hbo e he)
  intro f
  induction f with
  | zero =>
    intro L a w hw hL hf h
    have hall : ∀ i, i < l.length → ∀ b, L.getD i b = true := fun i hi b => left_zero hf i (by omega) b
    have hr : l.length ∈ Region.ready .any (l ++ [o]).toArray (L.push false) := by
      rw [mem_ready]
      refine ⟨by rw [← hL]; exact push_last L true, o, hlast, fun e he _ => ?_⟩
      have := hbo2 e he
      rw [push_head L false e.on (by omega)]
      exact hall _ this _
    refine ⟨fun h0 => (by rw [h0] at hr; cases hr), fun i hi => ?_⟩
    obtain rfl : i = l.length := by
      have h1 := (mem_ready.1 hi).1
      rcases Nat.lt_trichotomy i l.length with h2 | h2 | h2
      · rw [push_head L true i (by omega), hall i h2] at h1; cases h1
      · exact h2
      · rw [push_over L i (by omega)] at h1; cases h1
    refine wpOp_mono (fun a w h2 => ⟨?_, h2⟩) (hQ a w hw h.2)
    apply List.eq_nil_iff_forall_not_mem.2
    intro j hj
    have h1 := (mem_ready.1 hj).1
    rw [Array.getD_eq_getD_getElem?, Array.getElem?_setIfInBounds, Array.size_push] at h1
    rcases Nat.lt_trichotomy j l.length with h2 | h2 | h2
    · rw [if_neg (by omega), ← Array.getD_eq_getD_getElem?, push_head L true j (by omega), hall j h2] at h1; cases h1
    · rw [if_pos h2.symm, if_pos (by omega)] at h1; cases h1
    · rw [if_neg (by omega), ← Array.getD_eq_getD_getElem?, push_over L j (by omega)] at h1; cases h1
  | succ f ih =>
    intro L a w hw hL hf h
    obtain ⟨m, hm, hm1, hm2⟩ := left_pos (L := L) (by omega)
    have hml : m < l.length := by omega
    have hr : m ∈ Region.ready .any (l ++ [o]).toArray (L.push false) := by
      rw [mem_ready]
      refine ⟨by rw [push_head L true m hm]; exact hm1, l[m], by rw [hat m hml]; exact List.getElem?_eq_getElem hml, fun e he _ => ?_⟩
      have := hbk2 m _ (List.getElem?_eq_getElem hml) e he
      rw [push_head L false e.on (by omega)]
      exact hm2 _ this
    refine ⟨fun h0 => (by rw [h0] at hr; cases hr), fun i hi => ?_⟩
    obtain ⟨h1, x, hx, hall⟩ := mem_ready.1 hi
    have hil : i < l.length := by
      rcases Nat.lt_trichotomy i l.length with h2 | h2 | h2
      · exact h2
      · subst h2
        rw [hlast] at hx
        obtain rfl := Option.some.inj hx
        obtain ⟨e, he, hb⟩ := Array.any_eq_true'.1 (hwt m hml)
        simp only [Bool.and_eq_true, beq_iff_eq] at hb
        have h3 := hall e he hb.1
        rw [hb.2, push_head L false m hm] at h3
        rw [Array.getD_eq_getD_getElem?, Array.getElem?_eq_getElem hm] at h3 hm1
        simp at h3 hm1
        rw [h3] at hm1; cases hm1
      · rw [push_over L i (by omega)] at h1; cases h1
    rw [hat i hil] at hx
    rw [push_head L true i (by omega)] at h1
    have hri : i ∈ Region.ready .any l.toArray L := by
      rw [mem_ready]
      refine ⟨h1, x, by simpa using hx, fun e he hb => ?_⟩
      have h3 := hall e he hb
      have := hbk2 i x hx e he
      rw [push_head L false e.on (by omega)] at h3
      exact h3
    have hq := h.2 i hri
    unfold qOp at hq
    unfold wpOp
    rw [show l.toArray[i]? = some x by simpa using hx] at hq
    rw [show (l ++ [o]).toArray[i]? = some x by rw [hat i hil]; exact hx]
    have hgx : x.guard.isNone = true := hg x (List.mem_of_getElem? hx)
    simp only [wanted_none hgx, if_true] at hq ⊢
    refine .inl (Oper.wp_of_quiet hw (fun a' w' hw' hK => ?_) hq)
    rw [push_set L i (by omega)]
    exact ih _ a' w' hw' (by rw [Array.size_setIfInBounds]; exact hL) (by have := left_set (L := L) (i := i) (by omega) h1; omega) hK

/-- the region's law. -/
theorem wp_region_tail {P : Program} {id : Nat} {Q : Exit → Act → World → Prop} {a : Act} {w : World} (l : List Oper) (o : Oper) (ops : Array Oper) (hops : ops = (l ++ [o]).toArray) (hm : P.follows .mixedOrders = true) (hX : Region.lexB .any l.toArray = true) (hB : tailB l o = true)
    (h : wpQuiet P l.toArray (fun w' => ∃ p, w' = kpw w p) (fun a' => ∀ w', (∃ p, w' = kpw w p) → wpOp P (l ++ [o]).toArray Q l.length (fun a w => Q .normal a w) a' w') l a) : (Code.region id ops true).wp P Q a w := by
  subst hops
  refine wp_region_any hm ?_
  simp only [Region.lexB, Bool.and_eq_true] at hX
  have H := wpAnyQ_lex (C := fun w' => ∃ p, w' = kpw w p) (md := .any) hX.1 l 0 (Array.replicate l.toArray.size false) a (by simp) (by simpa using hX.2) h
  have := any_tail (P := P) (Q := Q) (C := fun w' => ∃ p, w' = kpw w p) (Qa := fun a' => ∀ w', (∃ p, w' = kpw w p) → wpOp P (l ++ [o]).toArray Q l.length (fun a w => Q .normal a w) a' w') hB (fun a w hw h => h w hw) l.length (Array.replicate l.toArray.size false) a w.drew (kpw_of (Kp.refl w).drew) (by simp) (by unfold left; simp) (by simpa using H)
  rw [show (l ++ [o]).toArray.size = l.length + 1 by simp]
  rw [show Array.replicate (l.length + 1) false = (Array.replicate l.toArray.size false).push false by simp [Array.replicate_succ]]
  exact this

theorem wp_region_tail2 {P : Program} {id : Nat} {Q : Exit → Act → World → Prop} {a : Act} {w : World} {l0 : List Oper} {o : Oper} (ho : l0.getLast? = some o) (hm : P.follows .mixedOrders = true) (hX : Region.lexB .any l0.dropLast.toArray = true) (hB : tailB l0.dropLast o = true)
    (h : wpQuiet P l0.dropLast.toArray (fun w' => ∃ p, w' = kpw w p) (fun a' => ∀ w', (∃ p, w' = kpw w p) → wpList P l0.toArray Q [o] a' w') l0.dropLast a) : (Code.region id l0.toArray true).wp P Q a w := by
  have e : l0 = l0.dropLast ++ [o] := by
    have hne : l0 ≠ [] := fun h => by rw [h] at ho; cases ho
    have h1 := List.dropLast_concat_getLast hne
    rw [List.getLast?_eq_some_getLast hne] at ho
    rw [Option.some.inj ho] at h1
    exact h1.symm
  refine wp_region_tail l0.dropLast o l0.toArray (by rw [← e]) hm hX hB ?_
  rw [← e]
  have key : ∀ a' w', wpList P l0.toArray Q [o] a' w' → wpOp P l0.toArray Q l0.dropLast.length (fun a w => Q .normal a w) a' w' := fun a' w' h => by
    have h0 : l0.toArray[l0.dropLast.length]? = some o := by
      have : (l0.dropLast ++ [o])[l0.dropLast.length]? = some o := by simp
      rw [← e] at this
      simpa using this
    unfold wpOp
    simp only [h0]
    exact h
  have mono : ∀ (K K' : Act → Prop), (∀ a, K a → K' a) → ∀ (l : List Oper) (a : Act), wpQuiet P l0.dropLast.toArray (fun w' => ∃ p, w' = kpw w p) K l a → wpQuiet P l0.dropLast.toArray (fun w' => ∃ p, w' = kpw w p) K' l a := by
    intro K K' hK l
    induction l with
    | nil => exact fun a h => hK a h
    | cons x l ih =>
      intro a h
      unfold wpQuiet at h ⊢
      split
      · rename_i hw
        rw [if_pos hw] at h
        exact Oper.quiet_mono (fun a h => ih a h) h
      · rename_i hw
        rw [if_neg hw] at h
        exact ih _ h
  exact mono _ _ (fun a' h w' hw' => key a' w' (h w' hw')) _ _ h

end Go.Proofs.YtinpkfdmellleaaGreat

namespace Go.Proofs.YtinpkfdmellleaaGreat
open Go.RowKit Plain
set_option linter.unusedVariables false

theorem imin {P : Program} (ts : Array TypeId) (t : TypeId) (x y : Int) (w : World) : (Builtin.min_ ts t #[.int .i64 x, .int .i64 y]).run P w = .ok (.int .i64 (min x y)) w := by
  rw [run_min_int2]
  congr 2
  split <;> omega
theorem imax {P : Program} (ts : Array TypeId) (t : TypeId) (x y : Int) (w : World) : (Builtin.max_ ts t #[.int .i64 x, .int .i64 y]).run P w = .ok (.int .i64 (max x y)) w := by
  rw [run_max_int2]
  congr 2
  split <;> omega
theorem info_int : (Tryz.prog.info? 3).map (fun i => (i.zero, i.size, i.bytes)) = some (some (.int .i64 0), 1, 8) := by kernel_rfl
theorem info_u8 : (Tryz.prog.info? 5).map (fun i => (i.zero, i.size, i.bytes)) = some (some (.int .u8 0), 1, 1) := by kernel_rfl
theorem info_str : (Tryz.prog.info? 9).map (fun i => (i.zero, i.size, i.bytes)) = some (some (.string ByteArray.empty), 1, 16) := by kernel_rfl

end Go.Proofs.YtinpkfdmellleaaGreat
