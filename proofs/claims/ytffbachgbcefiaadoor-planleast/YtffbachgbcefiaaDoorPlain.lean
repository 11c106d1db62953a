/-
  Plain arithmetic of eight bytes at a time: what the word functions High, Twice, Half and Times reckon is reckoned byte by byte. No condition but that a word is below 2^64.
-/
namespace Go.Proofs.YtffbachgbcefiaaDoor.Plain

def hiN (x : Nat) : Nat := (x &&& 9259542123273814144) / 128 * 255 % 18446744073709551616
def twN (x : Nat) : Nat := (x * 2 % 18446744073709551616 &&& 18374403900871474942) ^^^ (hiN x &&& 2097865012304223517)
def hfN (x : Nat) : Nat := (x / 2 &&& 9187201950435737471) ^^^ (hiN (x * 128 % 18446744073709551616) &&& 10272304543006887566)

/-- a function of bytes, done to each of the lowest n bytes. -/
def lm (f : Nat → Nat) : Nat → Nat → Nat
  | 0, _ => 0
  | n + 1, x => f (x % 256) + 256 * lm f n (x / 256)
/-- n times one byte. -/
def rep (k : Nat) : Nat → Nat
  | 0 => 0
  | n + 1 => k + 256 * rep k n

theorem and_cons (a b c d : Nat) (ha : a < 256) (hc : c < 256) : (a + 256 * b) &&& (c + 256 * d) = (a &&& c) + 256 * (b &&& d) := by
  have h1 : ((a + 256 * b) &&& (c + 256 * d)) % 2 ^ 8 = a &&& c := by
    rw [Nat.and_mod_two_pow]; congr 1 <;> omega
  have h2 : ((a + 256 * b) &&& (c + 256 * d)) / 2 ^ 8 = b &&& d := by
    rw [Nat.and_div_two_pow]; congr 1 <;> omega
  omega
theorem xor_cons (a b c d : Nat) (ha : a < 256) (hc : c < 256) : (a + 256 * b) ^^^ (c + 256 * d) = (a ^^^ c) + 256 * (b ^^^ d) := by
  have h1 : ((a + 256 * b) ^^^ (c + 256 * d)) % 2 ^ 8 = a ^^^ c := by
    rw [Nat.xor_mod_two_pow]; congr 1 <;> omega
  have h2 : ((a + 256 * b) ^^^ (c + 256 * d)) / 2 ^ 8 = b ^^^ d := by
    rw [Nat.xor_div_two_pow]; congr 1 <;> omega
  omega
theorem xor_lt (a b : Nat) (ha : a < 256) (hb : b < 256) : a ^^^ b < 256 := Nat.xor_lt_two_pow (n := 8) ha hb

theorem lm_congr {f g : Nat → Nat} (h : ∀ b, b < 256 → f b = g b) : ∀ n x, lm f n x = lm g n x
  | 0, _ => rfl
  | n + 1, x => by simp only [lm]; rw [h _ (Nat.mod_lt _ (by omega)), lm_congr h n]
theorem lm_lt {f : Nat → Nat} (h : ∀ b, b < 256 → f b < 256) : ∀ n x, lm f n x < 256 ^ n
  | 0, _ => by simp [lm]
  | n + 1, x => by
    simp only [lm]
    have h1 := h _ (Nat.mod_lt x (by omega : 256 > 0))
    have h2 := lm_lt h n (x / 256)
    rw [Nat.pow_succ]; omega
theorem lm_and {f : Nat → Nat} (k : Nat) (hk : k < 256) (h : ∀ b, b < 256 → f b < 256) : ∀ n x, lm f n x &&& rep k n = lm (fun b => f b &&& k) n x
  | 0, _ => by simp [lm, rep]
  | n + 1, x => by
    simp only [lm, rep]
    rw [and_cons _ _ _ _ (h _ (Nat.mod_lt _ (by omega))) hk, lm_and k hk h n]
theorem lm_xor {f g : Nat → Nat} (h : ∀ b, b < 256 → f b < 256) (h' : ∀ b, b < 256 → g b < 256) : ∀ n x, lm f n x ^^^ lm g n x = lm (fun b => f b ^^^ g b) n x
  | 0, _ => by simp [lm]
  | n + 1, x => by
    simp only [lm]
    rw [xor_cons _ _ _ _ (h _ (Nat.mod_lt _ (by omega))) (h' _ (Nat.mod_lt _ (by omega))), lm_xor h h' n]
theorem lm_lm {f g : Nat → Nat} (h : ∀ b, b < 256 → f b < 256) : ∀ n x, lm g n (lm f n x) = lm (fun b => g (f b)) n x
  | 0, _ => rfl
  | n + 1, x => by
    have h1 := h _ (Nat.mod_lt x (by omega : 256 > 0))
    simp only [lm]
    rw [show (f (x % 256) + 256 * lm f n (x / 256)) % 256 = f (x % 256) by omega, show (f (x % 256) + 256 * lm f n (x / 256)) / 256 = lm f n (x / 256) by omega, lm_lm h n]
theorem lm_id : ∀ n x, x < 256 ^ n → lm (fun b => b) n x = x
  | 0, x, h => by simp [lm] at *; omega
  | n + 1, x, h => by
    simp only [lm]; rw [lm_id n]
    · omega
    · rw [Nat.pow_succ] at h; exact Nat.div_lt_of_lt_mul (by omega)
theorem lm_lin {f : Nat → Nat} (h : ∀ b, b < 256 → f b < 256) (hf : ∀ a, a < 256 → ∀ b, b < 256 → f (a ^^^ b) = f a ^^^ f b) : ∀ n x y, lm f n (x ^^^ y) = lm f n x ^^^ lm f n y
  | 0, _, _ => by simp [lm]
  | n + 1, x, y => by
    have e1 : (x ^^^ y) % 256 = x % 256 ^^^ y % 256 := Nat.xor_mod_two_pow (n := 8)
    have e2 : (x ^^^ y) / 256 = x / 256 ^^^ y / 256 := Nat.xor_div_two_pow (n := 8)
    simp only [lm]
    rw [xor_cons _ _ _ _ (h _ (Nat.mod_lt _ (by omega))) (h _ (Nat.mod_lt _ (by omega))), e1, e2, hf _ (Nat.mod_lt _ (by omega)) _ (Nat.mod_lt _ (by omega)), lm_lin h hf n]

/-! ### the functions of a byte -/
def hb (b : Nat) : Nat := b / 128 * 255
def lb (b : Nat) : Nat := b % 2 * 255
def tb (b : Nat) : Nat := (b * 2 % 256) ^^^ (hb b &&& 29)
def fb (b : Nat) : Nat := (b / 2) ^^^ (lb b &&& 142)

theorem hi_mask : ∀ n x, (x &&& rep 128 n) = 128 * lm (fun b => b / 128) n x
  | 0, _ => by simp [lm, rep]
  | n + 1, x => by
    have e : x = x % 256 + 256 * (x / 256) := by omega
    have hl := Nat.mod_lt x (by omega : 256 > 0)
    have h1 : x % 256 &&& 128 = 128 * (x % 256 / 128) := by
      generalize x % 256 = a at *
      have key : ∀ a, a < 256 → a &&& 128 = 128 * (a / 128) := by decide +kernel
      exact key a hl
    have h2 : x &&& (128 + 256 * rep 128 n) = (x % 256 &&& 128) + 256 * (x / 256 &&& rep 128 n) := by
      conv => lhs; rw [e]
      exact and_cons _ _ _ _ hl (by omega)
    simp only [lm, rep]
    rw [h2, h1, hi_mask n]; omega
theorem lm_mul (f : Nat → Nat) (k : Nat) : ∀ n x, lm f n x * k = lm (fun b => f b * k) n x
  | 0, _ => by simp [lm]
  | n + 1, x => by
    simp only [lm]; rw [← lm_mul f k n, Nat.add_mul, Nat.mul_assoc]
theorem lt_hb (b : Nat) (h : b < 256) : hb b < 256 := by unfold hb; omega
theorem lt_lb (b : Nat) : lb b < 256 := by unfold lb; omega
theorem hi_lm (x : Nat) : hiN x = lm hb 8 x := by
  have h := hi_mask 8 x
  have e : rep 128 8 = 9259542123273814144 := by decide +kernel
  rw [e] at h
  unfold hiN
  rw [h, Nat.mul_div_cancel_left _ (by omega : 0 < 128), lm_mul]
  have hl := lm_lt (f := hb) lt_hb 8 x
  have e2 : (256 : Nat) ^ 8 = 18446744073709551616 := by decide +kernel
  rw [e2] at hl
  exact Nat.mod_eq_of_lt hl
theorem tw_mask : ∀ n x c, c ≤ 1 → ((x * 2 + c) % 256 ^ n &&& rep 254 n) = lm (fun b => b * 2 % 256) n x
  | 0, _, _, _ => by simp [lm, rep]
  | n + 1, x, c, hc => by
    have hl := Nat.mod_lt x (by omega : 256 > 0)
    have e : (x * 2 + c) % 256 ^ (n + 1) = (x % 256 * 2 + c) % 256 + 256 * ((x / 256 * 2 + (x % 256 * 2 + c) / 256) % 256 ^ n) := by
      rw [Nat.pow_succ, Nat.mul_comm (256 ^ n) 256, Nat.mod_mul, show (x * 2 + c) % 256 = (x % 256 * 2 + c) % 256 by omega, show (x * 2 + c) / 256 = x / 256 * 2 + (x % 256 * 2 + c) / 256 by omega]
    have key : ∀ a, a < 256 → ∀ c, c < 2 → ((a * 2 + c) % 256 &&& 254) = a * 2 % 256 := by decide +kernel
    simp only [lm, rep]
    rw [e, and_cons _ _ _ _ (Nat.mod_lt _ (by omega)) (by omega), key _ hl c (by omega), tw_mask n _ _ (by omega)]
theorem tw_lm (x : Nat) : twN x = lm tb 8 x := by
  have h := tw_mask 8 x 0 (by omega)
  have e : rep 254 8 = 18374403900871474942 := by decide +kernel
  have e2 : (256 : Nat) ^ 8 = 18446744073709551616 := by decide +kernel
  rw [e, e2, Nat.add_zero] at h
  have h2 := lm_and (f := hb) 29 (by omega) lt_hb 8 x
  have e3 : rep 29 8 = 2097865012304223517 := by decide +kernel
  rw [e3] at h2
  unfold twN
  rw [h, hi_lm, h2, lm_xor (fun b _ => Nat.mod_lt _ (by omega)) (fun b hb' => Nat.lt_of_le_of_lt Nat.and_le_right (by omega))]
  rfl
theorem hf_mask : ∀ n x, (x / 2 &&& rep 127 n) = lm (fun b => b / 2) n x
  | 0, _ => by simp [lm, rep]
  | n + 1, x => by
    have e : x / 2 = (x % 256 / 2 + 128 * (x / 256 % 2)) + 256 * (x / 256 / 2) := by omega
    have key : ∀ a, a < 256 → ∀ c, c < 2 → ((a / 2 + 128 * c) &&& 127) = a / 2 := by decide +kernel
    simp only [lm, rep]
    rw [e, and_cons _ _ _ _ (by omega) (by omega), key _ (by omega) _ (by omega), hf_mask n]
theorem lo_mask : ∀ n x c, c < 128 → ((x * 128 + c) % 256 ^ n &&& rep 128 n) = 128 * lm (fun b => b % 2) n x
  | 0, _, _, _ => by simp [lm, rep]
  | n + 1, x, c, hc => by
    have e : (x * 128 + c) % 256 ^ (n + 1) = (128 * (x % 2) + c) + 256 * ((x / 256 * 128 + x % 256 / 2) % 256 ^ n) := by
      rw [Nat.pow_succ, Nat.mul_comm (256 ^ n) 256, Nat.mod_mul, show (x * 128 + c) % 256 = 128 * (x % 2) + c by omega, show (x * 128 + c) / 256 = x / 256 * 128 + x % 256 / 2 by omega]
    have key : ∀ a, a < 2 → ∀ c, c < 128 → ((128 * a + c) &&& 128) = 128 * a := by decide +kernel
    have e4 : x % 256 % 2 = x % 2 := by omega
    simp only [lm, rep]
    rw [e, and_cons _ _ _ _ (by omega) (by omega), key _ (by omega) c hc, lo_mask n _ _ (by omega), e4]
    omega
theorem lo_lm (x : Nat) : hiN (x * 128 % 18446744073709551616) = lm lb 8 x := by
  have h := lo_mask 8 x 0 (by omega)
  have e : rep 128 8 = 9259542123273814144 := by decide +kernel
  have e2 : (256 : Nat) ^ 8 = 18446744073709551616 := by decide +kernel
  rw [e, e2, Nat.add_zero] at h
  unfold hiN
  rw [h, Nat.mul_div_cancel_left _ (by omega : 0 < 128), lm_mul]
  have hl := lm_lt (f := lb) (fun b _ => lt_lb b) 8 x
  rw [e2] at hl
  exact Nat.mod_eq_of_lt hl
theorem hf_lm (x : Nat) : hfN x = lm fb 8 x := by
  have h := hf_mask 8 x
  have e : rep 127 8 = 9187201950435737471 := by decide +kernel
  rw [e] at h
  have h2 := lm_and (f := lb) 142 (by omega) (fun b _ => lt_lb b) 8 x
  have e3 : rep 142 8 = 10272304543006887566 := by decide +kernel
  rw [e3] at h2
  unfold hfN
  rw [h, lo_lm, h2, lm_xor (fun b hb' => by omega) (fun b _ => Nat.lt_of_le_of_lt Nat.and_le_right (by omega))]
  rfl

theorem tb_lt : ∀ b, b < 256 → tb b < 256 := by decide +kernel
theorem fb_lt : ∀ b, b < 256 → fb b < 256 := by decide +kernel
theorem fb_tb : ∀ b, b < 256 → fb (tb b) = b := by decide +kernel
theorem tb_fb : ∀ b, b < 256 → tb (fb b) = b := by decide +kernel
theorem xor_swap (p q r s : Nat) : p ^^^ q ^^^ (r ^^^ s) = p ^^^ r ^^^ (q ^^^ s) := by
  rw [Nat.xor_assoc, Nat.xor_assoc, ← Nat.xor_assoc q, ← Nat.xor_assoc r, Nat.xor_comm q r]
theorem tb_lin : ∀ a, a < 256 → ∀ b, b < 256 → tb (a ^^^ b) = tb a ^^^ tb b := by
  intro a ha b hb'
  have e1 : (a ^^^ b) * 2 % 256 = (a * 2 % 256) ^^^ (b * 2 % 256) := by
    have h := Nat.shiftLeft_xor_distrib (a := a) (b := b) (i := 1)
    simp only [Nat.shiftLeft_eq] at h
    rw [show (2 : Nat) ^ 1 = 2 by rfl] at h
    rw [h]; exact Nat.xor_mod_two_pow (n := 8)
  have e2 : (a ^^^ b) / 128 = a / 128 ^^^ b / 128 := Nat.xor_div_two_pow (n := 7)
  have key : ∀ u, u < 2 → ∀ v, v < 2 → ((u ^^^ v) * 255 &&& 29) = (u * 255 &&& 29) ^^^ (v * 255 &&& 29) := by decide +kernel
  unfold tb hb
  rw [e1, e2, key _ (by omega) _ (by omega)]
  exact xor_swap _ _ _ _

theorem word_lt {f : Nat → Nat} (h : ∀ b, b < 256 → f b < 256) (x : Nat) : lm f 8 x < 18446744073709551616 := by
  have := lm_lt h 8 x
  have e2 : (256 : Nat) ^ 8 = 18446744073709551616 := by decide +kernel
  omega
theorem hi_lt (x : Nat) : hiN x < 18446744073709551616 := by rw [hi_lm]; exact word_lt lt_hb x
theorem tw_lt (x : Nat) : twN x < 18446744073709551616 := by rw [tw_lm]; exact word_lt tb_lt x
theorem hf_lt (x : Nat) : hfN x < 18446744073709551616 := by rw [hf_lm]; exact word_lt fb_lt x
theorem tw_lin (x y : Nat) : twN (x ^^^ y) = twN x ^^^ twN y := by
  simp only [tw_lm]; exact lm_lin tb_lt tb_lin 8 x y
theorem word_id (x : Nat) (h : x < 18446744073709551616) : lm (fun b => b) 8 x = x := lm_id 8 x (by
  have e2 : (256 : Nat) ^ 8 = 18446744073709551616 := by decide +kernel
  omega)
theorem hf_tw (x : Nat) (h : x < 18446744073709551616) : hfN (twN x) = x := by
  rw [hf_lm, tw_lm, lm_lm tb_lt, lm_congr fb_tb, word_id x h]
theorem tw_hf (x : Nat) (h : x < 18446744073709551616) : twN (hfN x) = x := by
  rw [hf_lm, tw_lm, lm_lm fb_lt, lm_congr tb_fb, word_id x h]

/-! ### Times -/
def twI (x : Nat) : Nat → Nat
  | 0 => x
  | n + 1 => twN (twI x n)
def tmS (x c : Nat) : Nat → Nat
  | 0 => 0
  | n + 1 => if c / 2 ^ n % 2 = 1 then tmS x c n ^^^ twI x n else tmS x c n
def tmN (x c : Nat) : Nat := tmS x c 8
theorem xor64 (a b : Nat) (ha : a < 18446744073709551616) (hb : b < 18446744073709551616) : a ^^^ b < 18446744073709551616 := Nat.xor_lt_two_pow (n := 64) ha hb
theorem twI_lt (x : Nat) (h : x < 18446744073709551616) : ∀ n, twI x n < 18446744073709551616
  | 0 => h
  | _ + 1 => tw_lt _
theorem tmS_lt (x c : Nat) (h : x < 18446744073709551616) : ∀ n, tmS x c n < 18446744073709551616
  | 0 => by simp [tmS]
  | n + 1 => by
    simp only [tmS]; split
    · exact xor64 _ _ (tmS_lt x c h n) (twI_lt x h n)
    · exact tmS_lt x c h n
theorem tm_lt (x c : Nat) (h : x < 18446744073709551616) : tmN x c < 18446744073709551616 := tmS_lt x c h 8
theorem twI_lin (x y : Nat) : ∀ n, twI (x ^^^ y) n = twI x n ^^^ twI y n
  | 0 => rfl
  | n + 1 => by simp only [twI]; rw [twI_lin x y n, tw_lin]
theorem tmS_lin (x y c : Nat) : ∀ n, tmS (x ^^^ y) c n = tmS x c n ^^^ tmS y c n
  | 0 => by simp [tmS]
  | n + 1 => by
    simp only [tmS]
    by_cases h : c / 2 ^ n % 2 = 1
    · rw [if_pos h, if_pos h, if_pos h, tmS_lin x y c n, twI_lin]; exact xor_swap _ _ _ _
    · rw [if_neg h, if_neg h, if_neg h, tmS_lin x y c n]
theorem tm_lin (x y c : Nat) : tmN (x ^^^ y) c = tmN x c ^^^ tmN y c := tmS_lin x y c 8
theorem bit_xor (c d n : Nat) : (c ^^^ d) / 2 ^ n % 2 = (c / 2 ^ n % 2) ^^^ (d / 2 ^ n % 2) := by
  have h1 := Nat.xor_div_two_pow (a := c) (b := d) (n := n)
  have h2 := Nat.xor_mod_two_pow (a := c / 2 ^ n) (b := d / 2 ^ n) (n := 1)
  rw [h1]; exact h2
theorem tmS_sum (x c d : Nat) : ∀ n, tmS x (c ^^^ d) n = tmS x c n ^^^ tmS x d n
  | 0 => by simp [tmS]
  | n + 1 => by
    have hb := bit_xor c d n
    have hc : c / 2 ^ n % 2 = 0 ∨ c / 2 ^ n % 2 = 1 := by omega
    have hd : d / 2 ^ n % 2 = 0 ∨ d / 2 ^ n % 2 = 1 := by omega
    have ih := tmS_sum x c d n
    simp only [tmS]
    generalize twI x n = t
    generalize tmS x c n = p at *
    generalize tmS x d n = q at *
    rw [ih]
    rcases hc with hc | hc <;> rcases hd with hd | hd <;> rw [hc, hd] at hb <;> simp [hb, hc, hd]
    · rw [Nat.xor_assoc]
    · rw [Nat.xor_assoc, Nat.xor_comm q t, ← Nat.xor_assoc]
    · have := xor_swap p t q t
      rw [this]; simp
theorem tm_sum (x c d : Nat) : tmN x (c ^^^ d) = tmN x c ^^^ tmN x d := tmS_sum x c d 8
theorem twI_tw (x : Nat) : ∀ n, twI (twN x) n = twN (twI x n)
  | 0 => rfl
  | n + 1 => by simp only [twI]; rw [twI_tw x n]
theorem tmS_tw (x c : Nat) : ∀ n, tmS (twN x) c n = twN (tmS x c n)
  | 0 => by simp only [tmS]; decide +kernel
  | n + 1 => by
    simp only [tmS]
    by_cases h : c / 2 ^ n % 2 = 1
    · rw [if_pos h, if_pos h, tmS_tw x c n, twI_tw, tw_lin]
    · rw [if_neg h, if_neg h, tmS_tw x c n]
theorem tmS_twI (x c n : Nat) : ∀ m, tmS (twI x m) c n = twI (tmS x c n) m
  | 0 => rfl
  | m + 1 => by simp only [twI]; rw [tmS_tw, tmS_twI x c n m]
theorem tmS_zero (c : Nat) : ∀ n, tmS 0 c n = 0
  | 0 => rfl
  | n + 1 => by
    have e : ∀ n, twI 0 n = 0 := by
      intro n; induction n with
      | zero => rfl
      | succ n ih => simp only [twI]; rw [ih]; decide +kernel
    simp only [tmS]; rw [tmS_zero c n, e]; simp
theorem tmS_comm (x c d k : Nat) : ∀ n, tmS (tmS x d n) c k = tmS (tmS x c k) d n
  | 0 => by simp only [tmS]; exact tmS_zero c k
  | n + 1 => by
    simp only [tmS]
    by_cases h : d / 2 ^ n % 2 = 1
    · rw [if_pos h, if_pos h, tmS_lin, tmS_comm x c d k n, tmS_twI]
    · rw [if_neg h, if_neg h, tmS_comm x c d k n]
theorem tm_comm (x c d : Nat) : tmN (tmN x c) d = tmN (tmN x d) c := tmS_comm x d c 8 8
theorem tm_one (x : Nat) : tmN x 1 = x := by
  simp [tmN, tmS, twI]
theorem tm_zero (x : Nat) : tmN x 0 = 0 := by
  simp [tmN, tmS]

/-! ### a lane alone -/
theorem lm_byte {f : Nat → Nat} (h : ∀ b, b < 256 → f b < 256) : ∀ n k x, k < n → lm f n x / 256 ^ k % 256 = f (x / 256 ^ k % 256)
  | 0, _, _, hk => by omega
  | n + 1, 0, x, _ => by
    have := h _ (Nat.mod_lt x (by omega : 256 > 0))
    simp only [lm, Nat.pow_zero, Nat.div_one]; omega
  | n + 1, k + 1, x, hk => by
    have h1 := h _ (Nat.mod_lt x (by omega : 256 > 0))
    have ih := lm_byte h n k (x / 256) (by omega)
    simp only [lm]
    rw [Nat.pow_succ, Nat.mul_comm (256 ^ k) 256, ← Nat.div_div_eq_div_mul, ← Nat.div_div_eq_div_mul, show (f (x % 256) + 256 * lm f n (x / 256)) / 256 = lm f n (x / 256) by omega]
    exact ih

end Go.Proofs.YtffbachgbcefiaaDoor.Plain
