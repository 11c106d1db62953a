/-
  Plain arithmetic of sums of 32 bits: a register moved on bit by bit (tN, tI), the product of two registers (prN), the register behind the bytes of a text (rgS); all is linear; a register that is not nought stays so. No condition but that a register is below 2^32.
-/
namespace Go.Proofs.Ytobpgfnmhpgkeaa.Plain

/-- a register, moved on by one bit. -/
def tN (x : Nat) : Nat := (x / 2) ^^^ (x % 2 * 3988292384)
/-- .. by n bits. -/
def tI (x : Nat) : Nat → Nat
  | 0 => x
  | n + 1 => tN (tI x n)

theorem xor_mid (p q r s : Nat) : p ^^^ q ^^^ (r ^^^ s) = p ^^^ r ^^^ (q ^^^ s) := by
  rw [Nat.xor_assoc, Nat.xor_assoc, ← Nat.xor_assoc q, ← Nat.xor_assoc r, Nat.xor_comm q r]
theorem xor32 (a b : Nat) (ha : a < 4294967296) (hb : b < 4294967296) : a ^^^ b < 4294967296 := Nat.xor_lt_two_pow (n := 32) ha hb
theorem tN_lin (x y : Nat) : tN (x ^^^ y) = tN x ^^^ tN y := by
  have e1 : (x ^^^ y) / 2 = x / 2 ^^^ y / 2 := Nat.xor_div_two_pow (n := 1)
  have e2 : (x ^^^ y) % 2 = x % 2 ^^^ y % 2 := Nat.xor_mod_two_pow (n := 1)
  have key : ∀ u, u < 2 → ∀ v, v < 2 → (u ^^^ v) * 3988292384 = (u * 3988292384) ^^^ (v * 3988292384) := by decide +kernel
  unfold tN
  rw [e1, e2, key _ (by omega) _ (by omega)]
  exact xor_mid _ _ _ _
theorem tN_lt (x : Nat) (h : x < 4294967296) : tN x < 4294967296 := by
  unfold tN
  exact xor32 _ _ (by omega) (by omega)
theorem tN_two (x : Nat) : tN (2 * x) = x := by
  unfold tN
  rw [show 2 * x / 2 = x by omega, show 2 * x % 2 = 0 by omega]
  simp
theorem tN_none (x : Nat) (h : x < 4294967296) (h0 : tN x = 0) : x = 0 := by
  unfold tN at h0
  have h1 := congrArg (fun z => z ^^^ (x % 2 * 3988292384)) h0
  simp only [Nat.xor_assoc, Nat.xor_self, Nat.xor_zero, Nat.zero_xor] at h1
  omega
theorem tI_lt (x : Nat) (h : x < 4294967296) : ∀ n, tI x n < 4294967296
  | 0 => h
  | n + 1 => tN_lt _ (tI_lt x h n)
theorem tI_lin (x y : Nat) : ∀ n, tI (x ^^^ y) n = tI x n ^^^ tI y n
  | 0 => rfl
  | n + 1 => by simp only [tI]; rw [tI_lin x y n, tN_lin]
theorem tI_add (x m : Nat) : ∀ n, tI x (m + n) = tI (tI x m) n
  | 0 => rfl
  | n + 1 => by
    show tN (tI x (m + n)) = tN (tI (tI x m) n)
    rw [tI_add x m n]
theorem tI_nought : ∀ n, tI 0 n = 0
  | 0 => rfl
  | n + 1 => by simp only [tI]; rw [tI_nought n]; decide +kernel
theorem tI_none (x : Nat) (h : x < 4294967296) : ∀ n, tI x n = 0 → x = 0
  | 0, h0 => h0
  | n + 1, h0 => tI_none x h n (tN_none _ (tI_lt x h n) h0)
theorem tI_one (x n : Nat) : tI x (n + 1) = tI (tN x) n := by
  rw [show n + 1 = 1 + n by omega, tI_add]; rfl
theorem tI_up (x : Nat) : ∀ n, tI (2 ^ n * x) n = x
  | 0 => by simp [tI]
  | n + 1 => by
    rw [tI_one, show 2 ^ (n + 1) * x = 2 * (2 ^ n * x) by rw [Nat.pow_succ]; simp only [Nat.mul_comm, Nat.mul_left_comm], tN_two, tI_up x n]

/-! ### the product of two registers -/
def pr : Nat → Nat → Nat → Nat
  | 0, _, _ => 0
  | n + 1, a, b => (if 2147483648 ≤ a then b else 0) ^^^ pr n (a * 2 % 4294967296) (tN b)
def prN (a b : Nat) : Nat := pr 32 a b
theorem pr_nought : ∀ n b, pr n 0 b = 0
  | 0, _ => rfl
  | n + 1, b => by
    simp only [pr]
    rw [show 0 * 2 % 4294967296 = 0 by rfl, pr_nought n]
    simp
theorem pr_tN : ∀ n a b, pr n a (tN b) = tN (pr n a b)
  | 0, _, _ => by simp only [pr]; decide +kernel
  | n + 1, a, b => by
    simp only [pr]
    rw [pr_tN n, tN_lin]
    congr 1
    split
    · rfl
    · decide +kernel
theorem pr_tI (n a b : Nat) : ∀ m, pr n a (tI b m) = tI (pr n a b) m
  | 0 => rfl
  | m + 1 => by simp only [tI]; rw [pr_tN, pr_tI n a b m]
theorem pr_lt : ∀ n a b, b < 4294967296 → pr n a b < 4294967296
  | 0, _, _, _ => by simp [pr]
  | n + 1, a, b, h => by
    simp only [pr]
    refine xor32 _ _ ?_ (pr_lt n _ _ (tN_lt b h))
    split
    · exact h
    · omega
theorem top_xor (n c : Nat) (h : c < 2 ^ n) : 2 ^ n ^^^ c = 2 ^ n + c := by
  apply Nat.eq_of_testBit_eq
  intro i
  rw [Nat.testBit_xor, Nat.testBit_two_pow, ]
  by_cases hi : n = i
  · subst hi
    rw [Nat.testBit_two_pow_add_eq, Nat.testBit_lt_two_pow h]; simp
  · rcases Nat.lt_or_gt_of_ne hi with hlt | hgt
    · have h1 : c < 2 ^ i := Nat.lt_of_lt_of_le h (Nat.pow_le_pow_right (by omega) (by omega))
      have h2 : 2 ^ n + c < 2 ^ i := by
        have : 2 ^ (n + 1) ≤ 2 ^ i := Nat.pow_le_pow_right (by omega) (by omega)
        rw [Nat.pow_succ] at this
        omega
      rw [Nat.testBit_lt_two_pow h1, Nat.testBit_lt_two_pow h2]; simp [hi]
    · rw [Nat.testBit_two_pow_add_gt hgt]; simp [hi]
theorem pr_one : ∀ n c, n ≤ 32 → c < 2 ^ n → pr n (c * 2 ^ (32 - n)) (2 ^ n / 2) = c
  | 0, c, _, h => by simp only [pr]; simp at h; omega
  | n + 1, c, hn, h => by
    have e32 : (2 : Nat) ^ (n + 1) * 2 ^ (31 - n) = 4294967296 := by
      rw [← Nat.pow_add, show n + 1 + (31 - n) = 32 by omega]
    have e31 : (2 : Nat) ^ n * 2 ^ (31 - n) = 2147483648 := by
      rw [← Nat.pow_add, show n + (31 - n) = 31 by omega]
    have ep : (2 : Nat) ^ (32 - n) = 2 * 2 ^ (31 - n) := by rw [show 32 - n = 31 - n + 1 by omega, Nat.pow_succ]; omega
    have ek : 32 - (n + 1) = 31 - n := by omega
    have hpos : 0 < (2 : Nat) ^ (31 - n) := Nat.pow_pos (by omega)
    have hd : (2 : Nat) ^ (n + 1) / 2 = 2 ^ n := by rw [Nat.pow_succ]; omega
    have ha : c * 2 ^ (31 - n) * 2 % 4294967296 = c % 2 ^ n * 2 ^ (32 - n) := by
      rw [show (4294967296 : Nat) = 2 ^ n * 2 ^ (32 - n) by rw [← Nat.pow_add, show n + (32 - n) = 32 by omega], ← Nat.mul_mod_mul_right, ep]
      congr 1
      rw [Nat.mul_comm 2, Nat.mul_assoc]
    have ht : (2147483648 ≤ c * 2 ^ (31 - n)) ↔ 2 ^ n ≤ c := by
      rw [← e31]
      exact ⟨fun hh => Nat.le_of_mul_le_mul_right hh hpos, fun hh => Nat.mul_le_mul_right _ hh⟩
    have hm : c % 2 ^ n < 2 ^ n := Nat.mod_lt _ (Nat.pow_pos (by omega))
    have ih : pr n (c % 2 ^ n * 2 ^ (32 - n)) (tN (2 ^ n)) = c % 2 ^ n := by
      cases n with
      | zero => simp only [pr]; omega
      | succ k =>
        have := pr_one (k + 1) (c % 2 ^ (k + 1)) (by omega) hm
        rw [show tN (2 ^ (k + 1)) = 2 ^ (k + 1) / 2 by rw [Nat.pow_succ, Nat.mul_comm, tN_two]; omega]
        exact this
    simp only [pr]
    rw [ek, hd, ha, ih]
    by_cases hc : 2 ^ n ≤ c
    · rw [if_pos (ht.2 hc), top_xor n _ hm]
      have : c % 2 ^ n = c - 2 ^ n := by
        rw [Nat.mod_eq_sub_mod hc, Nat.mod_eq_of_lt]
        rw [Nat.pow_succ] at h; omega
      omega
    · rw [if_neg (fun hh => hc (ht.1 hh)), Nat.zero_xor, Nat.mod_eq_of_lt (by omega)]
/-- a register times what moving on by m bits multiplies by is moved on by m bits. -/
theorem prN_pow (a m : Nat) (ha : a < 4294967296) : prN a (tI 2147483648 m) = tI a m := by
  have h := pr_one 32 a (by omega) ha
  rw [show a * 2 ^ (32 - 32) = a by simp, show (2 : Nat) ^ 32 / 2 = 2147483648 by rfl] at h
  unfold prN
  rw [pr_tI, h]
theorem prN_step (k a b : Nat) (hk : k < 32) : pr (32 - k) a b = (if 2147483648 ≤ a then b else 0) ^^^ pr (32 - (k + 1)) (a * 2 % 4294967296) (tN b) := by
  rw [show 32 - k = 32 - (k + 1) + 1 by omega]; rfl

/-! ### what a byte becomes -/
theorem xor_256 (q e : Nat) (he : e < 256) : 256 * q ^^^ e = e + 256 * q := by
  have h1 : (256 * q ^^^ e) % 2 ^ 8 = e := by
    rw [Nat.xor_mod_two_pow, show 256 * q % 2 ^ 8 = 0 by omega, show e % 2 ^ 8 = e by omega]; simp
  have h2 : (256 * q ^^^ e) / 2 ^ 8 = q := by
    rw [Nat.xor_div_two_pow, show 256 * q / 2 ^ 8 = q by omega, show e / 2 ^ 8 = 0 by omega]; simp
  omega
theorem by_table (r c : Nat) : (r / 256) ^^^ tI (r % 256 ^^^ c) 8 = tI (r ^^^ c) 8 := by
  have e : r ^^^ c = 256 * (r / 256) ^^^ (r % 256 ^^^ c) := by
    conv => lhs; rw [show r = 256 * (r / 256) ^^^ r % 256 by rw [xor_256 _ _ (Nat.mod_lt _ (by omega))]; omega]
    rw [Nat.xor_assoc]
  have h := tI_up (r / 256) 8
  rw [show (2 : Nat) ^ 8 = 256 by rfl] at h
  rw [e, tI_lin (256 * (r / 256)), h]

/-! ### the register behind the bytes f 0, f 1 .. -/
def rgS (f : Nat → Nat) (r : Nat) : Nat → Nat
  | 0 => r
  | k + 1 => tI (rgS f r k ^^^ f k) 8
theorem rgS_lt (f : Nat → Nat) (hf : ∀ i, f i < 256) (r : Nat) (hr : r < 4294967296) : ∀ k, rgS f r k < 4294967296
  | 0 => hr
  | k + 1 => tI_lt _ (xor32 _ _ (rgS_lt f hf r hr k) (by have := hf k; omega)) 8
theorem rgS_congr {f g : Nat → Nat} (r : Nat) : ∀ k, (∀ i, i < k → f i = g i) → rgS f r k = rgS g r k
  | 0, _ => rfl
  | k + 1, h => by
    simp only [rgS]
    rw [rgS_congr r k (fun i hi => h i (by omega)), h k (by omega)]
theorem rgS_add (f : Nat → Nat) (r k : Nat) : ∀ m, rgS f r (k + m) = rgS (fun i => f (k + i)) (rgS f r k) m
  | 0 => rfl
  | m + 1 => by
    show tI (rgS f r (k + m) ^^^ f (k + m)) 8 = _
    rw [rgS_add f r k m]
    rfl
theorem rgS_lin (f g : Nat → Nat) (r q : Nat) : ∀ k, rgS (fun i => f i ^^^ g i) (r ^^^ q) k = rgS f r k ^^^ rgS g q k
  | 0 => rfl
  | k + 1 => by
    simp only [rgS]
    rw [rgS_lin f g r q k, ← tI_lin]
    congr 1
    exact xor_mid _ _ _ _
theorem rgS_none (r : Nat) : ∀ k, rgS (fun _ => 0) r k = tI r (8 * k)
  | 0 => rfl
  | k + 1 => by
    simp only [rgS]
    rw [rgS_none r k, Nat.xor_zero, show 8 * (k + 1) = 8 * k + 8 by omega, tI_add]
theorem rgS_split (f : Nat → Nat) (r : Nat) (k : Nat) : rgS f r k = tI r (8 * k) ^^^ rgS f 0 k := by
  have h := rgS_lin (fun _ => 0) f r 0 k
  rw [rgS_none, Nat.xor_zero] at h
  rw [← h]
  exact rgS_congr r k (fun i _ => by simp)

/-! ### all bits turned -/
def nt (x : Nat) : Nat := 4294967295 ^^^ x
theorem nt_def (x : Nat) : nt x = 4294967295 ^^^ x := rfl
theorem xor_back (z x : Nat) : z ^^^ (z ^^^ x) = x := by rw [← Nat.xor_assoc, Nat.xor_self, Nat.zero_xor]
theorem nt_lt (x : Nat) (h : x < 4294967296) : nt x < 4294967296 := xor32 _ _ (by omega) h
theorem nt_nt (x : Nat) : nt (nt x) = x := by
  rw [nt_def, nt_def]
  exact xor_back _ _
theorem nt_inj {x y : Nat} (h : nt x = nt y) : x = y := by
  have := congrArg nt h
  rwa [nt_nt, nt_nt] at this
theorem nt_sub (x : Nat) (h : x < 4294967296) : nt x = 4294967295 - x := by
  unfold nt
  apply Nat.eq_of_testBit_eq
  intro i
  have e := Nat.testBit_two_pow_sub_succ (n := 32) (x := x) (by omega) i
  rw [show (2 : Nat) ^ 32 - (x + 1) = 4294967295 - x by omega] at e
  have e2 := Nat.testBit_two_pow_sub_one 32 i
  rw [show (2 : Nat) ^ 32 - 1 = 4294967295 by rfl] at e2
  rw [e, Nat.testBit_xor, e2]
  by_cases hi : i < 32
  · simp [hi]
  · simp [hi]
    have : x < 2 ^ i := Nat.lt_of_lt_of_le h (by
      have : (2 : Nat) ^ 32 ≤ 2 ^ i := Nat.pow_le_pow_right (by omega) (by omega)
      omega)
    exact Nat.testBit_lt_two_pow this

/-- the sum of a text and n bytes more; of n bytes; of two texts by theirs. -/
def mrN (sum : Nat) (f : Nat → Nat) (n : Nat) : Nat := nt (rgS f (nt sum) n)
def smN (f : Nat → Nat) (n : Nat) : Nat := mrN 0 f n
def jnN (a b n : Nat) : Nat := tI a (8 * n) ^^^ b
theorem mrN_lt (sum : Nat) (hs : sum < 4294967296) (f : Nat → Nat) (hf : ∀ i, f i < 256) (n : Nat) : mrN sum f n < 4294967296 := nt_lt _ (rgS_lt f hf _ (nt_lt _ hs) n)
theorem smN_lt (f : Nat → Nat) (hf : ∀ i, f i < 256) (n : Nat) : smN f n < 4294967296 := mrN_lt 0 (by omega) f hf n
theorem jnN_lt (a b n : Nat) (ha : a < 4294967296) (hb : b < 4294967296) : jnN a b n < 4294967296 := xor32 _ _ (tI_lt a ha _) hb
theorem mr_parts (f : Nat → Nat) (k m : Nat) : mrN (smN f k) (fun i => f (k + i)) m = smN f (k + m) := by
  unfold smN mrN
  rw [nt_nt, ← rgS_add]
theorem jn_parts (f : Nat → Nat) (k m : Nat) : jnN (smN f k) (smN (fun i => f (k + i)) m) m = smN f (k + m) := by
  unfold smN mrN jnN
  rw [rgS_add, rgS_split _ (rgS f (nt 0) k) m, rgS_split _ (nt 0) m]
  generalize rgS (fun i => f (k + i)) 0 m = x
  generalize rgS f (nt 0) k = y
  have e0 : nt 0 = 4294967295 := by decide +kernel
  rw [e0]
  unfold nt
  rw [tI_lin]
  generalize tI 4294967295 (8 * m) = u
  generalize tI y (8 * m) = v
  generalize 4294967295 = z
  apply Nat.eq_of_testBit_eq
  intro i
  simp only [Nat.testBit_xor]
  cases u.testBit i <;> cases v.testBit i <;> cases z.testBit i <;> cases x.testBit i <;> rfl
theorem jn_far (a n m : Nat) : jnN (jnN a 0 n) 0 m = jnN a 0 (n + m) := by
  unfold jnN
  rw [Nat.xor_zero, Nat.xor_zero, Nat.xor_zero, Nat.mul_add, tI_add]
theorem jn_none (a n : Nat) (h : n = 0) : jnN a 0 n = a := by subst h; unfold jnN; simp [tI]
theorem jn_more (a b n : Nat) : jnN a b n = jnN a 0 n ^^^ b := by unfold jnN; rw [Nat.xor_zero]

/-! ### bits that are turned -/
/-- the bit at place k turned. -/
def flp (f : Nat → Nat) (k : Nat) (i : Nat) : Nat := if i = k / 8 then f i ^^^ 2 ^ (k % 8) else f i
def one1 (k : Nat) (i : Nat) : Nat := if i = k / 8 then 2 ^ (k % 8) else 0
theorem flp_is (f : Nat → Nat) (k i : Nat) : flp f k i = f i ^^^ one1 k i := by
  unfold flp one1; split
  · rfl
  · simp
theorem rg_one (k : Nat) : ∀ n, rgS (one1 k) 0 n = if k < 8 * n then tI 1 (8 * n - k) else 0
  | 0 => by simp [rgS]
  | n + 1 => by
    simp only [rgS]
    rw [rg_one k n]
    by_cases h1 : k < 8 * n
    · have h0 : one1 k n = 0 := by unfold one1; rw [if_neg (by omega)]
      rw [if_pos h1, if_pos (by omega), h0, Nat.xor_zero, ← tI_add]
      congr 1; omega
    · rw [if_neg h1, Nat.zero_xor]
      by_cases h2 : k < 8 * (n + 1)
      · have h0 : one1 k n = 2 ^ (k % 8) := by unfold one1; rw [if_pos (by omega)]
        have e : 8 = k % 8 + (8 * (n + 1) - k) := by omega
        have := tI_up 1 (k % 8)
        rw [Nat.mul_one] at this
        rw [if_pos h2, h0, show tI (2 ^ (k % 8)) 8 = tI (2 ^ (k % 8)) (k % 8 + (8 * (n + 1) - k)) from congrArg _ e, tI_add, this]
      · have h0 : one1 k n = 0 := by unfold one1; rw [if_neg (by omega)]
        rw [if_neg h2, h0]
        exact tI_nought 8
theorem rg_flp (f : Nat → Nat) (r k n : Nat) (h : k < 8 * n) : rgS (flp f k) r n = rgS f r n ^^^ tI 1 (8 * n - k) := by
  have h1 := rgS_lin f (one1 k) r 0 n
  rw [rg_one, if_pos h, Nat.xor_zero] at h1
  rw [← h1]
  exact rgS_congr r n (fun i _ => flp_is f k i)
/-- the lowest i bits of b, turned from place k on. -/
def brs (f : Nat → Nat) (k b : Nat) : Nat → Nat → Nat
  | 0 => f
  | i + 1 => if b / 2 ^ i % 2 = 1 then flp (brs f k b i) (k + i) else brs f k b i
theorem rg_brs (f : Nat → Nat) (r k b n : Nat) (h : k + 32 ≤ 8 * n) : ∀ i, i ≤ 32 → rgS (brs f k b i) r n = rgS f r n ^^^ tI (b % 2 ^ i) (8 * n - k)
  | 0, _ => by
    rw [show b % 2 ^ 0 = 0 by omega, tI_nought, Nat.xor_zero]; rfl
  | i + 1, hi => by
    have ih := rg_brs f r k b n h i (by omega)
    have hm : b % 2 ^ (i + 1) = b % 2 ^ i + 2 ^ i * (b / 2 ^ i % 2) := by rw [Nat.pow_succ, Nat.mod_mul]
    have hl : b % 2 ^ i < 2 ^ i := Nat.mod_lt _ (Nat.pow_pos (by omega))
    simp only [brs]
    by_cases hb : b / 2 ^ i % 2 = 1
    · rw [if_pos hb, rg_flp _ _ _ _ (by omega), ih, hm, hb, Nat.mul_one, Nat.add_comm (b % 2 ^ i), ← top_xor i _ hl, tI_lin, Nat.xor_assoc, Nat.xor_comm (tI (2 ^ i) _)]
      congr 2
      have e := tI_up 1 i
      rw [Nat.mul_one] at e
      rw [show 8 * n - k = i + (8 * n - (k + i)) by omega, tI_add, e]
    · rw [if_neg hb, ih, hm, show b / 2 ^ i % 2 = 0 by omega, Nat.mul_zero, Nat.add_zero]
theorem sm_brs (f : Nat → Nat) (k b n : Nat) (hb : b < 4294967296) (h : k + 32 ≤ 8 * n) : smN (brs f k b 32) n = smN f n ↔ b = 0 := by
  unfold smN mrN
  have e := rg_brs f (nt 0) k b n h 32 (by omega)
  rw [show b % 2 ^ 32 = b by omega] at e
  rw [e]
  constructor
  · intro hh
    have h2 := nt_inj hh
    have h3 := congrArg (fun z => rgS f (nt 0) n ^^^ z) h2
    simp only [← Nat.xor_assoc, Nat.xor_self, Nat.zero_xor] at h3
    exact tI_none b hb _ h3
  · rintro rfl
    rw [tI_nought, Nat.xor_zero]

end Go.Proofs.Ytobpgfnmhpgkeaa.Plain
