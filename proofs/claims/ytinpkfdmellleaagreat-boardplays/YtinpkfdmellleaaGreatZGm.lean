/-
  Sums (layer 6), places (layer 9), labels (layer 12): contracts. Conditions: that the lists lie in memory.
-/
import Derived.Test.YtinpkfdmellleaaGreatZBase
import Derived.Laws.BitsAllLaws
import Derived.Deep.LoopGhost
import Derived.Deep.OwnRows
import Derived.Deep.Quiet
import Derived.Deep.QuietTactic
import Derived.BigQuiet
import Derived.Maps.AppendAt
import Derived.Laws.AppendOwnNone
import Derived.Deep.RegionWith
import Derived.Deep.RegionHeld3
import Derived.Deep.DeepCutAuto
import Derived.Laws.ResultCell
import Derived.Lib.LazyBuf
import Derived.Deep.RegionLaw
import Derived.Lib.SlBytesConst
namespace Go.Proofs.YtinpkfdmellleaaGreat.Plain

/-- a register, moved on by one bit. -/
def tN (x : Nat) : Nat := (x / 2) ^^^ (x % 2 * 3988292384)
/-- .. by n bits. -/
def tI (x : Nat) : Nat → Nat
  | 0 => x
  | n + 1 => tN (tI x n)

theorem xor_mid (p q r s : Nat) : p ^^^ q ^^^ (r ^^^ s) = p ^^^ r ^^^ (q ^^^ s) := by
  rw [Nat.xor_assoc, Nat.xor_assoc, ← Nat.xor_assoc q, ← Nat.xor_assoc r, Nat.xor_comm q r]
theorem xor32 (a b : Nat) (ha : a < 4294967296) (hb : b < 4294967296) : a ^^^ b < 4294967296 := Nat.xor_lt_two_pow (n := 32) ha hb
theorem tN_lin (x y : Nat) : tN (x ^^^ y) = tN x ^^^ tN y := by
  have e1 : (x ^^^ y) / 2 = x / 2 ^^^ y / 2 := Nat.xor_div_two_pow (n := 1)
  have e2 : (x ^^^ y) % 2 = x % 2 ^^^ y % 2 := Nat.xor_mod_two_pow (n := 1)
  have key : ∀ u, u < 2 → ∀ v, v < 2 → (u ^^^ v) * 3988292384 = (u * 3988292384) ^^^ (v * 3988292384) := by decide +kernel
  unfold tN
  rw [e1, e2, key _ (by omega) _ (by omega)]
  exact xor_mid _ _ _ _
theorem tN_lt (x : Nat) (h : x < 4294967296) : tN x < 4294967296 := by
  unfold tN
  exact xor32 _ _ (by omega) (by omega)
theorem tN_two (x : Nat) : tN (2 * x) = x := by
  unfold tN
  rw [show 2 * x / 2 = x by omega, show 2 * x % 2 = 0 by omega]
  simp
theorem tN_none (x : Nat) (h : x < 4294967296) (h0 : tN x = 0) : x = 0 := by
  unfold tN at h0
  have h1 := congrArg (fun z => z ^^^ (x % 2 * 3988292384)) h0
  simp only [Nat.xor_assoc, Nat.xor_self, Nat.xor_zero, Nat.zero_xor] at h1
  omega
theorem tI_lt (x : Nat) (h : x < 4294967296) : ∀ n, tI x n < 4294967296
  | 0 => h
  | n + 1 => tN_lt _ (tI_lt x h n)
theorem tI_lin (x y : Nat) : ∀ n, tI (x ^^^ y) n = tI x n ^^^ tI y n
  | 0 => rfl
  | n + 1 => by simp only [tI]; rw [tI_lin x y n, tN_lin]
theorem tI_add (x m : Nat) : ∀ n, tI x (m + n) = tI (tI x m) n
  | 0 => rfl
  | n + 1 => by
    show tN (tI x (m + n)) = tN (tI (tI x m) n)
    rw [tI_add x m n]
theorem tI_nought : ∀ n, tI 0 n = 0
  | 0 => rfl
  | n + 1 => by simp only [tI]; rw [tI_nought n]; decide +kernel
theorem tI_none (x : Nat) (h : x < 4294967296) : ∀ n, tI x n = 0 → x = 0
  | 0, h0 => h0
  | n + 1, h0 => tI_none x h n (tN_none _ (tI_lt x h n) h0)
theorem tI_one (x n : Nat) : tI x (n + 1) = tI (tN x) n := by
  rw [show n + 1 = 1 + n by omega, tI_add]; rfl
theorem tI_up (x : Nat) : ∀ n, tI (2 ^ n * x) n = x
  | 0 => by simp [tI]
  | n + 1 => by
    rw [tI_one, show 2 ^ (n + 1) * x = 2 * (2 ^ n * x) by rw [Nat.pow_succ]; simp only [Nat.mul_comm, Nat.mul_left_comm], tN_two, tI_up x n]

/-! ### the product of two registers -/
def pr : Nat → Nat → Nat → Nat
  | 0, _, _ => 0
  | n + 1, a, b => (if 2147483648 ≤ a then b else 0) ^^^ pr n (a * 2 % 4294967296) (tN b)
def prN (a b : Nat) : Nat := pr 32 a b
theorem pr_nought : ∀ n b, pr n 0 b = 0
  | 0, _ => rfl
  | n + 1, b => by
    simp only [pr]
    rw [show 0 * 2 % 4294967296 = 0 by rfl, pr_nought n]
    simp
theorem pr_tN : ∀ n a b, pr n a (tN b) = tN (pr n a b)
  | 0, _, _ => by simp only [pr]; decide +kernel
  | n + 1, a, b => by
    simp only [pr]
    rw [pr_tN n, tN_lin]
    congr 1
    split
    · rfl
    · decide +kernel
theorem pr_tI (n a b : Nat) : ∀ m, pr n a (tI b m) = tI (pr n a b) m
  | 0 => rfl
  | m + 1 => by simp only [tI]; rw [pr_tN, pr_tI n a b m]
theorem pr_lt : ∀ n a b, b < 4294967296 → pr n a b < 4294967296
  | 0, _, _, _ => by simp [pr]
  | n + 1, a, b, h => by
    simp only [pr]
    refine xor32 _ _ ?_ (pr_lt n _ _ (tN_lt b h))
    split
    · exact h
    · omega
theorem top_xor (n c : Nat) (h : c < 2 ^ n) : 2 ^ n ^^^ c = 2 ^ n + c := by
  apply Nat.eq_of_testBit_eq
  intro i
  rw [Nat.testBit_xor, Nat.testBit_two_pow, ]
  by_cases hi : n = i
  · subst hi
    rw [Nat.testBit_two_pow_add_eq, Nat.testBit_lt_two_pow h]; simp
  · rcases Nat.lt_or_gt_of_ne hi with hlt | hgt
    · have h1 : c < 2 ^ i := Nat.lt_of_lt_of_le h (Nat.pow_le_pow_right (by omega) (by omega))
      have h2 : 2 ^ n + c < 2 ^ i := by
        have : 2 ^ (n + 1) ≤ 2 ^ i := Nat.pow_le_pow_right (by omega) (by omega)
        rw [Nat.pow_succ] at this
        omega
      rw [Nat.testBit_lt_two_pow h1, Nat.testBit_lt_two_pow h2]; simp [hi]
    · rw [Nat.testBit_two_pow_add_gt hgt]; simp [hi]
theorem pr_one : ∀ n c, n ≤ 32 → c < 2 ^ n → pr n (c * 2 ^ (32 - n)) (2 ^ n / 2) = c
  | 0, c, _, h => by simp only [pr]; simp at h; omega
  | n + 1, c, hn, h => by
    have e32 : (2 : Nat) ^ (n + 1) * 2 ^ (31 - n) = 4294967296 := by
      rw [← Nat.pow_add, show n + 1 + (31 - n) = 32 by omega]
    have e31 : (2 : Nat) ^ n * 2 ^ (31 - n) = 2147483648 := by
      rw [← Nat.pow_add, show n + (31 - n) = 31 by omega]
    have ep : (2 : Nat) ^ (32 - n) = 2 * 2 ^ (31 - n) := by rw [show 32 - n = 31 - n + 1 by omega, Nat.pow_succ]; omega
    have ek : 32 - (n + 1) = 31 - n := by omega
    have hpos : 0 < (2 : Nat) ^ (31 - n) := Nat.pow_pos (by omega)
    have hd : (2 : Nat) ^ (n + 1) / 2 = 2 ^ n := by rw [Nat.pow_succ]; omega
    have ha : c * 2 ^ (31 - n) * 2 % 4294967296 = c % 2 ^ n * 2 ^ (32 - n) := by
      rw [show (4294967296 : Nat) = 2 ^ n * 2 ^ (32 - n) by rw [← Nat.pow_add, show n + (32 - n) = 32 by omega], ← Nat.mul_mod_mul_right, ep]
      congr 1
      rw [Nat.mul_comm 2, Nat.mul_assoc]
    have ht : (2147483648 ≤ c * 2 ^ (31 - n)) ↔ 2 ^ n ≤ c := by
      rw [← e31]
      exact ⟨fun hh => Nat.le_of_mul_le_mul_right hh hpos, fun hh => Nat.mul_le_mul_right _ hh⟩
    have hm : c % 2 ^ n < 2 ^ n := Nat.mod_lt _ (Nat.pow_pos (by omega))
    have ih : pr n (c % 2 ^ n * 2 ^ (32 - n)) (tN (2 ^ n)) = c % 2 ^ n := by
      cases n with
      | zero => simp only [pr]; omega
      | succ k =>
        have := pr_one (k + 1) (c % 2 ^ (k + 1)) (by omega) hm
        rw [show tN (2 ^ (k + 1)) = 2 ^ (k + 1) / 2 by rw [Nat.pow_succ, Nat.mul_comm, tN_two]; omega]
        exact this
    simp only [pr]
    rw [ek, hd, ha, ih]
    by_cases hc : 2 ^ n ≤ c
    · rw [if_pos (ht.2 hc), top_xor n _ hm]
      have : c % 2 ^ n = c - 2 ^ n := by
        rw [Nat.mod_eq_sub_mod hc, Nat.mod_eq_of_lt]
        rw [Nat.pow_succ] at h; omega
      omega
    · rw [if_neg (fun hh => hc (ht.1 hh)), Nat.zero_xor, Nat.mod_eq_of_lt (by omega)]
/-- a register times what moving on by m bits multiplies by is moved on by m bits. -/
theorem prN_pow (a m : Nat) (ha : a < 4294967296) : prN a (tI 2147483648 m) = tI a m := by
  have h := pr_one 32 a (by omega) ha
  rw [show a * 2 ^ (32 - 32) = a by simp, show (2 : Nat) ^ 32 / 2 = 2147483648 by rfl] at h
  unfold prN
  rw [pr_tI, h]
theorem prN_step (k a b : Nat) (hk : k < 32) : pr (32 - k) a b = (if 2147483648 ≤ a then b else 0) ^^^ pr (32 - (k + 1)) (a * 2 % 4294967296) (tN b) := by
  rw [show 32 - k = 32 - (k + 1) + 1 by omega]; rfl

/-! ### what a byte becomes -/
theorem xor_256 (q e : Nat) (he : e < 256) : 256 * q ^^^ e = e + 256 * q := by
  have h1 : (256 * q ^^^ e) % 2 ^ 8 = e := by
    rw [Nat.xor_mod_two_pow, show 256 * q % 2 ^ 8 = 0 by omega, show e % 2 ^ 8 = e by omega]; simp
  have h2 : (256 * q ^^^ e) / 2 ^ 8 = q := by
    rw [Nat.xor_div_two_pow, show 256 * q / 2 ^ 8 = q by omega, show e / 2 ^ 8 = 0 by omega]; simp
  omega
theorem by_table (r c : Nat) : (r / 256) ^^^ tI (r % 256 ^^^ c) 8 = tI (r ^^^ c) 8 := by
  have e : r ^^^ c = 256 * (r / 256) ^^^ (r % 256 ^^^ c) := by
    conv => lhs; rw [show r = 256 * (r / 256) ^^^ r % 256 by rw [xor_256 _ _ (Nat.mod_lt _ (by omega))]; omega]
    rw [Nat.xor_assoc]
  have h := tI_up (r / 256) 8
  rw [show (2 : Nat) ^ 8 = 256 by rfl] at h
  rw [e, tI_lin (256 * (r / 256)), h]

/-! ### the register behind the bytes f 0, f 1 .. -/
def rgS (f : Nat → Nat) (r : Nat) : Nat → Nat
  | 0 => r
  | k + 1 => tI (rgS f r k ^^^ f k) 8
theorem rgS_lt (f : Nat → Nat) (hf : ∀ i, f i < 256) (r : Nat) (hr : r < 4294967296) : ∀ k, rgS f r k < 4294967296
  | 0 => hr
  | k + 1 => tI_lt _ (xor32 _ _ (rgS_lt f hf r hr k) (by have := hf k; omega)) 8
theorem rgS_congr {f g : Nat → Nat} (r : Nat) : ∀ k, (∀ i, i < k → f i = g i) → rgS f r k = rgS g r k
  | 0, _ => rfl
  | k + 1, h => by
    simp only [rgS]
    rw [rgS_congr r k (fun i hi => h i (by omega)), h k (by omega)]
theorem rgS_add (f : Nat → Nat) (r k : Nat) : ∀ m, rgS f r (k + m) = rgS (fun i => f (k + i)) (rgS f r k) m
  | 0 => rfl
  | m + 1 => by
    show tI (rgS f r (k + m) ^^^ f (k + m)) 8 = _
    rw [rgS_add f r k m]
    rfl
theorem rgS_lin (f g : Nat → Nat) (r q : Nat) : ∀ k, rgS (fun i => f i ^^^ g i) (r ^^^ q) k = rgS f r k ^^^ rgS g q k
  | 0 => rfl
  | k + 1 => by
    simp only [rgS]
    rw [rgS_lin f g r q k, ← tI_lin]
    congr 1
    exact xor_mid _ _ _ _
theorem rgS_none (r : Nat) : ∀ k, rgS (fun _ => 0) r k = tI r (8 * k)
  | 0 => rfl
  | k + 1 => by
    simp only [rgS]
    rw [rgS_none r k, Nat.xor_zero, show 8 * (k + 1) = 8 * k + 8 by omega, tI_add]
theorem rgS_split (f : Nat → Nat) (r : Nat) (k : Nat) : rgS f r k = tI r (8 * k) ^^^ rgS f 0 k := by
  have h := rgS_lin (fun _ => 0) f r 0 k
  rw [rgS_none, Nat.xor_zero] at h
  rw [← h]
  exact rgS_congr r k (fun i _ => by simp)

/-! ### all bits turned -/
def nt (x : Nat) : Nat := 4294967295 ^^^ x
theorem nt_def (x : Nat) : nt x = 4294967295 ^^^ x := rfl
theorem xor_back (z x : Nat) : z ^^^ (z ^^^ x) = x := by rw [← Nat.xor_assoc, Nat.xor_self, Nat.zero_xor]
theorem nt_lt (x : Nat) (h : x < 4294967296) : nt x < 4294967296 := xor32 _ _ (by omega) h
theorem nt_nt (x : Nat) : nt (nt x) = x := by
  rw [nt_def, nt_def]
  exact xor_back _ _
theorem nt_inj {x y : Nat} (h : nt x = nt y) : x = y := by
  have := congrArg nt h
  rwa [nt_nt, nt_nt] at this
theorem nt_sub (x : Nat) (h : x < 4294967296) : nt x = 4294967295 - x := by
  unfold nt
  apply Nat.eq_of_testBit_eq
  intro i
  have e := Nat.testBit_two_pow_sub_succ (n := 32) (x := x) (by omega) i
  rw [show (2 : Nat) ^ 32 - (x + 1) = 4294967295 - x by omega] at e
  have e2 := Nat.testBit_two_pow_sub_one 32 i
  rw [show (2 : Nat) ^ 32 - 1 = 4294967295 by rfl] at e2
  rw [e, Nat.testBit_xor, e2]
  by_cases hi : i < 32
  · simp [hi]
  · simp [hi]
    have : x < 2 ^ i := Nat.lt_of_lt_of_le h (by
      have : (2 : Nat) ^ 32 ≤ 2 ^ i := Nat.pow_le_pow_right (by omega) (by omega)
      omega)
    exact Nat.testBit_lt_two_pow this

/-- the sum of a text and n bytes more; of n bytes; of two texts by theirs. -/
def mrN (sum : Nat) (f : Nat → Nat) (n : Nat) : Nat := nt (rgS f (nt sum) n)
def smN (f : Nat → Nat) (n : Nat) : Nat := mrN 0 f n
def jnN (a b n : Nat) : Nat := tI a (8 * n) ^^^ b
theorem mrN_lt (sum : Nat) (hs : sum < 4294967296) (f : Nat → Nat) (hf : ∀ i, f i < 256) (n : Nat) : mrN sum f n < 4294967296 := nt_lt _ (rgS_lt f hf _ (nt_lt _ hs) n)
theorem smN_lt (f : Nat → Nat) (hf : ∀ i, f i < 256) (n : Nat) : smN f n < 4294967296 := mrN_lt 0 (by omega) f hf n
theorem jnN_lt (a b n : Nat) (ha : a < 4294967296) (hb : b < 4294967296) : jnN a b n < 4294967296 := xor32 _ _ (tI_lt a ha _) hb
theorem mr_parts (f : Nat → Nat) (k m : Nat) : mrN (smN f k) (fun i => f (k + i)) m = smN f (k + m) := by
  unfold smN mrN
  rw [nt_nt, ← rgS_add]
theorem jn_parts (f : Nat → Nat) (k m : Nat) : jnN (smN f k) (smN (fun i => f (k + i)) m) m = smN f (k + m) := by
  unfold smN mrN jnN
  rw [rgS_add, rgS_split _ (rgS f (nt 0) k) m, rgS_split _ (nt 0) m]
  generalize rgS (fun i => f (k + i)) 0 m = x
  generalize rgS f (nt 0) k = y
  have e0 : nt 0 = 4294967295 := by decide +kernel
  rw [e0]
  unfold nt
  rw [tI_lin]
  generalize tI 4294967295 (8 * m) = u
  generalize tI y (8 * m) = v
  generalize 4294967295 = z
  apply Nat.eq_of_testBit_eq
  intro i
  simp only [Nat.testBit_xor]
  cases u.testBit i <;> cases v.testBit i <;> cases z.testBit i <;> cases x.testBit i <;> rfl
theorem jn_far (a n m : Nat) : jnN (jnN a 0 n) 0 m = jnN a 0 (n + m) := by
  unfold jnN
  rw [Nat.xor_zero, Nat.xor_zero, Nat.xor_zero, Nat.mul_add, tI_add]
theorem jn_none (a n : Nat) (h : n = 0) : jnN a 0 n = a := by subst h; unfold jnN; simp [tI]
theorem jn_more (a b n : Nat) : jnN a b n = jnN a 0 n ^^^ b := by unfold jnN; rw [Nat.xor_zero]

/-! ### bits that are turned -/
/-- the bit at place k turned. -/
def flp (f : Nat → Nat) (k : Nat) (i : Nat) : Nat := if i = k / 8 then f i ^^^ 2 ^ (k % 8) else f i
def one1 (k : Nat) (i : Nat) : Nat := if i = k / 8 then 2 ^ (k % 8) else 0
theorem flp_is (f : Nat → Nat) (k i : Nat) : flp f k i = f i ^^^ one1 k i := by
  unfold flp one1; split
  · rfl
  · simp
theorem rg_one (k : Nat) : ∀ n, rgS (one1 k) 0 n = if k < 8 * n then tI 1 (8 * n - k) else 0
  | 0 => by simp [rgS]
  | n + 1 => by
    simp only [rgS]
    rw [rg_one k n]
    by_cases h1 : k < 8 * n
    · have h0 : one1 k n = 0 := by unfold one1; rw [if_neg (by omega)]
      rw [if_pos h1, if_pos (by omega), h0, Nat.xor_zero, ← tI_add]
      congr 1; omega
    · rw [if_neg h1, Nat.zero_xor]
      by_cases h2 : k < 8 * (n + 1)
      · have h0 : one1 k n = 2 ^ (k % 8) := by unfold one1; rw [if_pos (by omega)]
        have e : 8 = k % 8 + (8 * (n + 1) - k) := by omega
        have := tI_up 1 (k % 8)
        rw [Nat.mul_one] at this
        rw [if_pos h2, h0, show tI (2 ^ (k % 8)) 8 = tI (2 ^ (k % 8)) (k % 8 + (8 * (n + 1) - k)) from congrArg _ e, tI_add, this]
      · have h0 : one1 k n = 0 := by unfold one1; rw [if_neg (by omega)]
        rw [if_neg h2, h0]
        exact tI_nought 8
theorem rg_flp (f : Nat → Nat) (r k n : Nat) (h : k < 8 * n) : rgS (flp f k) r n = rgS f r n ^^^ tI 1 (8 * n - k) := by
  have h1 := rgS_lin f (one1 k) r 0 n
  rw [rg_one, if_pos h, Nat.xor_zero] at h1
  rw [← h1]
  exact rgS_congr r n (fun i _ => flp_is f k i)
/-- the lowest i bits of b, turned from place k on. -/
def brs (f : Nat → Nat) (k b : Nat) : Nat → Nat → Nat
  | 0 => f
  | i + 1 => if b / 2 ^ i % 2 = 1 then flp (brs f k b i) (k + i) else brs f k b i
theorem rg_brs (f : Nat → Nat) (r k b n : Nat) (h : k + 32 ≤ 8 * n) : ∀ i, i ≤ 32 → rgS (brs f k b i) r n = rgS f r n ^^^ tI (b % 2 ^ i) (8 * n - k)
  | 0, _ => by
    rw [show b % 2 ^ 0 = 0 by omega, tI_nought, Nat.xor_zero]; rfl
  | i + 1, hi => by
    have ih := rg_brs f r k b n h i (by omega)
    have hm : b % 2 ^ (i + 1) = b % 2 ^ i + 2 ^ i * (b / 2 ^ i % 2) := by rw [Nat.pow_succ, Nat.mod_mul]
    have hl : b % 2 ^ i < 2 ^ i := Nat.mod_lt _ (Nat.pow_pos (by omega))
    simp only [brs]
    by_cases hb : b / 2 ^ i % 2 = 1
    · rw [if_pos hb, rg_flp _ _ _ _ (by omega), ih, hm, hb, Nat.mul_one, Nat.add_comm (b % 2 ^ i), ← top_xor i _ hl, tI_lin, Nat.xor_assoc, Nat.xor_comm (tI (2 ^ i) _)]
      congr 2
      have e := tI_up 1 i
      rw [Nat.mul_one] at e
      rw [show 8 * n - k = i + (8 * n - (k + i)) by omega, tI_add, e]
    · rw [if_neg hb, ih, hm, show b / 2 ^ i % 2 = 0 by omega, Nat.mul_zero, Nat.add_zero]
theorem sm_brs (f : Nat → Nat) (k b n : Nat) (hb : b < 4294967296) (h : k + 32 ≤ 8 * n) : smN (brs f k b 32) n = smN f n ↔ b = 0 := by
  unfold smN mrN
  have e := rg_brs f (nt 0) k b n h 32 (by omega)
  rw [show b % 2 ^ 32 = b by omega] at e
  rw [e]
  constructor
  · intro hh
    have h2 := nt_inj hh
    have h3 := congrArg (fun z => rgS f (nt 0) n ^^^ z) h2
    simp only [← Nat.xor_assoc, Nat.xor_self, Nat.zero_xor] at h3
    exact tI_none b hb _ h3
  · rintro rfl
    rw [tI_nought, Nat.xor_zero]

end Go.Proofs.YtinpkfdmellleaaGreat.Plain

namespace Go.Proofs.YtinpkfdmellleaaGreat
open Go.RowKit Plain

theorem bit1 (x : Nat) (h : x < 4294967296) : bits .and .u32 (x : Int) 1 = ((x % 2 : Nat) : Int) := by
  have := u32_and_nat x 1 h (by omega)
  rw [nat_mask1] at this
  exact this
theorem xor_c (x c : Nat) (h : x < 4294967296) (hc : c < 4294967296) : bits .xor .u32 (x : Int) (c : Int) = ((x ^^^ c : Nat) : Int) := u32_xor_nat x c h hc
set_option maxHeartbeats 400000 in
theorem bitOn_any (x : Nat) (h : x < 4294967296) (w : World) :
    Calls Tryz.prog 169 #[.int .u32 x] w fun e w' => e = .returned (.int .u32 (tN x : Nat)) ∧ w' = w := by
  have hb := bit1 x h
  by_cases h1 : x % 2 = 1
  · have ht : (bits .and .u32 (x : Int) 1 == 1) = true := by rw [hb, h1]; rfl
    have HX : Hid (bits .xor .u32 ((x / 2 : Nat) : Int) 3988292384 = ((tN x : Nat) : Int)) := by
      show bits .xor .u32 ((x / 2 : Nat) : Int) ((3988292384 : Nat) : Int) = _
      rw [xor_c _ _ (by omega) (by omega)]; unfold tN; rw [h1, Nat.one_mul]
    clear hb h1
    go_enter Tryz.func169, Tryz.ntmps169
    go_wp2
    go_ret
    exact ⟨ret_int HX.out, rfl⟩
  · have ht : (bits .and .u32 (x : Int) 1 == 1) = false := by rw [hb, show x % 2 = 0 by omega]; rfl
    have HX : Hid (tN x = x / 2) := by
      show tN x = _; unfold tN; rw [show x % 2 = 0 by omega]; simp
    clear hb h1
    go_enter Tryz.func169, Tryz.ntmps169
    go_wp2
    go_ret
    exact ⟨ret_int (by rw [HX.out]; rfl), rfl⟩
set_option maxHeartbeats 400000 in
theorem byteOn_any (x : Nat) (h : x < 4294967296) (w : World) :
    Calls Tryz.prog 160 #[.int .u32 x] w fun e w' => e = .returned (.int .u32 (tI x 8 : Nat)) ∧ w' = w := by
  go_enter Tryz.func160, Tryz.ntmps160
  go_wp2
  go_loop [0, 3] (fun X i => ∃ k : Nat, k ≤ 8 ∧ i = .int .i64 k ∧ X = .int .u32 (tI x k : Nat)) (fun _ i => 8 - (intOf i).toNat)
  case atStart => exact ⟨0, by omega, rfl, rfl⟩
  case round =>
    obtain ⟨k, hk, rfl, rfl⟩ := hrel
    have hl := tI_lt x h k
    by_cases hlt : k < 8
    · go_wp2_with (go_at_call 169; refine (bitOn_any _ hl _).mono ?_; rintro e w' ⟨rfl, rfl⟩)
      go_round
      case rel => exact ⟨k + 1, by omega, by go_num, rfl⟩
      case measure => simp [intOf]; omega
    · obtain rfl : k = 8 := by omega
      go_wp2
      go_ret
      exact ⟨rfl, rfl⟩

theorem top_bit (a : Nat) (h : a < 4294967296) : bits .and .u32 (a : Int) 2147483648 = ((if 2147483648 ≤ a then 2147483648 else 0 : Nat) : Int) := by
  have h1 := u32_and_nat a 2147483648 h (by omega)
  rw [show ((2147483648 : Nat) : Int) = 2147483648 by rfl] at h1
  rw [h1]
  congr 1
  have e1 : (a &&& 2147483648) % 2 ^ 31 = 0 := by
    rw [Nat.and_mod_two_pow, show 2147483648 % 2 ^ 31 = 0 by rfl, Nat.and_zero]
  have e2 : (a &&& 2147483648) / 2 ^ 31 = a / 2147483648 % 2 := by
    rw [Nat.and_div_two_pow, show 2147483648 / 2 ^ 31 = 1 by rfl, nat_mask1, show (2 : Nat) ^ 31 = 2147483648 by rfl]
  rw [show (2 : Nat) ^ 31 = 2147483648 by rfl] at e1 e2
  by_cases hh : 2147483648 ≤ a
  · rw [if_pos hh]; omega
  · rw [if_neg hh]; omega
def ak (a k : Nat) : Nat := a * 2 ^ k % 4294967296
theorem ak_step (a k : Nat) : ak a k * 2 % 4294967296 = ak a (k + 1) := by
  unfold ak
  rw [Nat.pow_succ, Nat.mod_mul_mod, Nat.mul_assoc]
theorem ak_lt (a k : Nat) : ak a k < 4294967296 := Nat.mod_lt _ (by omega)
theorem ak_past (a k : Nat) (h : 32 ≤ k) : ak a k = 0 := by
  unfold ak
  rw [show k = 32 + (k - 32) by omega, Nat.pow_add, ← Nat.mul_assoc, Nat.mul_comm a, Nat.mul_assoc]
  exact Nat.mul_mod_right _ _
theorem shl_u32 (a : Nat) : (a : Int) * 2 % 4294967296 = ((a * 2 % 4294967296 : Nat) : Int) := by omega

theorem to_u32 (c : Nat) (h : c < 256) : (c : Int) % 4294967296 = (c : Int) := by omega
/-- the bytes of a text. -/
def bf (s : ByteArray) (i : Nat) : Nat := bAt s (i : Int)
theorem bf_lt (s : ByteArray) (i : Nat) : bf s i < 256 := bAt_lt s _
theorem bf_at (s : ByteArray) (i : Nat) (h : i < s.size) : (s[i]'h).toNat = bf s i := (bAt_nat s i h).symm
theorem not_u32 (x : Nat) (h : x < 4294967296) : bits .xor .u32 IntKind.u32.max (x : Int) = ((nt x : Nat) : Int) := by
  have e : IntKind.u32.max = ((4294967295 : Nat) : Int) := by decide +kernel
  rw [e, u32_xor_nat _ _ (by omega) h]
  rfl
set_option maxHeartbeats 1000000 in
theorem slow_any (s : ByteArray) (hs : s.size ≤ 9223372036854775807) (w : World) :
    Calls Tryz.prog 145 #[.string s] w fun e w' => e = .returned (.int .u32 (smN (bf s) s.size : Nat)) ∧ w' = w := by
  go_enter Tryz.func145, Tryz.ntmps145
  go_wp2
  go_loop [3, 7] (fun X i => ∃ k : Nat, k ≤ s.size ∧ i = .int .i64 k ∧ X = .int .u32 (rgS (bf s) 4294967295 k : Nat)) (fun _ i => s.size - (intOf i).toNat)
  case atStart => exact ⟨0, by omega, rfl, rfl⟩
  case round =>
    obtain ⟨k, hk, rfl, rfl⟩ := hrel
    have hl := rgS_lt (bf s) (bf_lt s) 4294967295 (by omega) k
    by_cases hlt : k < s.size
    · have hb := bf_lt s k
      have HB : Hid ((s[k]'hlt).toNat = bf s k) := bf_at s k hlt
      have HS : Hid (tI (rgS (bf s) 4294967295 k ^^^ bf s k) 8 = rgS (bf s) 4294967295 (k + 1)) := rfl
      generalize rgS (bf s) 4294967295 k = r at *
      go_wp2_with fail
      rw [HB.out, to_u32 _ hb, u32_xor_nat _ _ hl (by omega)]
      refine (byteOn_any _ (xor32 _ _ hl (by omega)) _).mono ?_; rintro e w' ⟨rfl, rfl⟩
      go_wp2
      go_round
      case rel => exact ⟨k + 1, by omega, by go_num, by rw [HS.out]⟩
      case measure => simp [intOf]; omega
    · obtain rfl : k = s.size := by omega
      have HS : Hid (nt (rgS (bf s) 4294967295 s.size) = smN (bf s) s.size) := by
        show nt _ = mrN 0 (bf s) s.size
        unfold mrN
        rw [show nt 0 = 4294967295 by decide +kernel]
      generalize rgS (bf s) 4294967295 s.size = r at *
      go_wp2
      go_ret
      exact ⟨ret_int (by rw [← HS.out, not_u32 _ hl]), rfl⟩

/-! ### the document's own -/
theorem rturned_any (x : Nat) (h : x < 4294967296) (w : World) :
    Calls Tryz.prog 157 #[.int .u32 x] w fun e w' => e = .returned (.int .u32 (nt x : Nat)) ∧ w' = w := by
  have HX : Hid (((nt x : Nat) : Int) = 4294967295 - (x : Int)) := by show ((nt x : Nat) : Int) = _; rw [nt_sub x h]; omega
  go_enter Tryz.func157, Tryz.ntmps157
  go_wp2
  go_ret
  exact ⟨ret_int (by rw [HX.out]), rfl⟩
/-- the lowest k bits of a sum, bit by bit. -/
theorem xor_low (a b k : Nat) : (a ^^^ b) % 2 ^ (k + 1) = (a ^^^ b) % 2 ^ k + 2 ^ k * ((a / 2 ^ k % 2) ^^^ (b / 2 ^ k % 2)) := by
  rw [Nat.pow_succ, Nat.mod_mul]
  congr 2
  have h1 := Nat.xor_div_two_pow (a := a) (b := b) (n := k)
  have h2 := Nat.xor_mod_two_pow (a := a / 2 ^ k) (b := b / 2 ^ k) (n := 1)
  rw [h1]; exact h2
def hv (a k : Nat) : Nat := a / 2 ^ k
def lw (a b k : Nat) : Nat := (a ^^^ b) % 2 ^ k
def p2 (k : Nat) : Nat := 2 ^ k % 4294967296
theorem hv_step (a k : Nat) : hv a k / 2 = hv a (k + 1) := by unfold hv; rw [Nat.pow_succ, Nat.div_div_eq_div_mul]
theorem hv_lt (a k : Nat) (h : a < 4294967296) : hv a k < 4294967296 := Nat.lt_of_le_of_lt (Nat.div_le_self _ _) h
theorem p2_step (k : Nat) : 2 * p2 k % 4294967296 = p2 (k + 1) := by
  unfold p2; rw [Nat.pow_succ, Nat.mul_mod_mod, Nat.mul_comm]
theorem p2_lt (k : Nat) : p2 k < 4294967296 := Nat.mod_lt _ (by omega)
theorem p2_is (k : Nat) (h : k < 32) : p2 k = 2 ^ k := by
  unfold p2
  have h1 : (2 : Nat) ^ k < 2 ^ 32 := Nat.pow_lt_pow_right (by omega) h
  rw [show (2 : Nat) ^ 32 = 4294967296 by rfl] at h1
  exact Nat.mod_eq_of_lt h1
theorem lw_lt (a b k : Nat) : lw a b k < 2 ^ k := Nat.mod_lt _ (Nat.pow_pos (by omega))
theorem lw_next (a b k : Nat) (h : hv a k % 2 = hv b k % 2) : lw a b (k + 1) = lw a b k := by
  unfold lw hv at *
  rw [xor_low, h, Nat.xor_self]; simp
theorem lw_more (a b k : Nat) (hk : k < 32) (h : hv a k % 2 ≠ hv b k % 2) : lw a b (k + 1) = lw a b k + p2 k ∧ lw a b k + p2 k < 4294967296 := by
  have h1 : lw a b (k + 1) = lw a b k + p2 k := by
    rw [p2_is k hk]
    unfold lw hv at *
    rw [xor_low]
    have h1 : a / 2 ^ k % 2 = 0 ∨ a / 2 ^ k % 2 = 1 := by omega
    have h2 : b / 2 ^ k % 2 = 0 ∨ b / 2 ^ k % 2 = 1 := by omega
    rcases h1 with h1 | h1 <;> rcases h2 with h2 | h2
    · exact absurd (h1.trans h2.symm) h
    · rw [h1, h2]; simp
    · rw [h1, h2]; simp
    · exact absurd (h1.trans h2.symm) h
  refine ⟨h1, ?_⟩
  rw [← h1]
  have h2 := lw_lt a b (k + 1)
  have : (2 : Nat) ^ (k + 1) ≤ 2 ^ 32 := Nat.pow_le_pow_right (by omega) (by omega)
  omega
set_option maxHeartbeats 1000000 in
theorem rxor_any (a b : Nat) (ha : a < 4294967296) (hb : b < 4294967296) (w : World) :
    Calls Tryz.prog 168 #[.int .u32 a, .int .u32 b] w fun e w' => e = .returned (.int .u32 (a ^^^ b : Nat)) ∧ w' = w := by
  go_enter Tryz.func168, Tryz.ntmps168
  go_wp2
  go_loop [0, 1, 5, 6, 7] (fun A B N P i => ∃ k A' B' N' P' : Nat, k ≤ 32 ∧ i = .int .i64 k ∧ A' = hv a k ∧ A = .int .u32 A' ∧ B' = hv b k ∧ B = .int .u32 B' ∧ N' = lw a b k ∧ N = .int .u32 N' ∧ P' = p2 k ∧ P = .int .u32 P') (fun _ _ _ _ i => 32 - (intOf i).toNat)
  case atStart => exact ⟨0, a, b, 0, 1, by omega, rfl, by simp [hv], rfl, by simp [hv], rfl, by simp [lw]; omega, rfl, by decide +kernel, rfl⟩
  case round =>
    obtain ⟨k, A', B', N', P', hk, rfl, hA, rfl, hB, rfl, hN, rfl, hP, rfl⟩ := hrel
    have hA1 : A' < 4294967296 := by rw [hA]; exact hv_lt a k ha
    have hB1 : B' < 4294967296 := by rw [hB]; exact hv_lt b k hb
    have hP1 : P' < 4294967296 := by rw [hP]; exact p2_lt k
    by_cases hlt : k < 32
    · have HA : Hid (A' / 2 = hv a (k + 1)) := by show _ = _; rw [hA, hv_step]
      have HB : Hid (B' / 2 = hv b (k + 1)) := by show _ = _; rw [hB, hv_step]
      have HP : Hid (2 * P' % 4294967296 = p2 (k + 1)) := by show _ = _; rw [hP, p2_step]
      by_cases he : A' % 2 = B' % 2
      · have HN : Hid (N' = lw a b (k + 1)) := by show _ = _; rw [hN, lw_next a b k (by rw [← hA, ← hB]; exact he)]
        have e1 : ((A' : Int) % 2 != (B' : Int) % 2) = false := by simp; omega
        clear hA hB hN hP he
        go_wp2
        go_round
        case rel => exact ⟨k + 1, A' / 2, B' / 2, N', 2 * P' % 4294967296, by omega, by go_num, HA.out, rfl, HB.out, rfl, HN.out, rfl, HP.out, rfl⟩
        case measure => simp [intOf]; omega
      · have hM := lw_more a b k hlt (by rw [← hA, ← hB]; exact he)
        have HN : Hid (N' + P' = lw a b (k + 1)) := by show _ = _; rw [hN, hP, hM.1]
        have hL : N' + P' < 4294967296 := by rw [hN, hP]; exact hM.2
        have e1 : ((A' : Int) % 2 != (B' : Int) % 2) = true := by simp; omega
        clear hA hB hN hP he hM
        go_wp2
        go_round
        case rel => exact ⟨k + 1, A' / 2, B' / 2, N' + P', 2 * P' % 4294967296, by omega, by go_num, HA.out, rfl, HB.out, rfl, HN.out, rfl, HP.out, rfl⟩
        case measure => simp [intOf]; omega
    · obtain rfl : k = 32 := by omega
      have HN : Hid (N' = a ^^^ b) := by
        show _ = _
        rw [hN]
        have := xor32 a b ha hb
        unfold lw; omega
      clear hA hB hN hP
      go_wp2
      go_ret
      exact ⟨ret_int (by rw [HN.out]), rfl⟩

end Go.Proofs.YtinpkfdmellleaaGreat

namespace Go.Proofs.YtinpkfdmellleaaGreat
open Go.RowKit Plain

set_option maxHeartbeats 1000000 in
theorem ron_any (r c : Nat) (hr : r < 4294967296) (hc : c < 256) (w : World) :
    Calls Tryz.prog 158 #[.int .u32 r, .int .u8 c] w fun e w' => e = .returned (.int .u32 (tI (r ^^^ c) 8 : Nat)) ∧ w' = w := by
  have hx := xor32 r c hr (by omega)
  obtain ⟨x, hxe⟩ : ∃ x, r ^^^ c = x := ⟨_, rfl⟩
  rw [hxe] at hx ⊢
  have HE : Hid (r ^^^ c = x) := hxe
  clear hxe
  go_enter Tryz.func158, Tryz.ntmps158
  go_wp2_with fail
  refine (rxor_any r c hr (by omega) _).mono ?_; rintro e w' ⟨rfl, rfl⟩
  rw [HE.out]
  go_wp2
  go_loop [0, 5] (fun X i => ∃ k X' : Nat, k ≤ 8 ∧ i = .int .i64 k ∧ X' = tI x k ∧ X = .int .u32 X') (fun _ i => 8 - (intOf i).toNat)
  case atStart => exact ⟨0, x, by omega, rfl, rfl, rfl⟩
  case round =>
    obtain ⟨k, X', hk, rfl, hX, rfl⟩ := hrel
    have hl : X' < 4294967296 := by rw [hX]; exact tI_lt x hx k
    by_cases hlt : k < 8
    · by_cases h1 : X' % 2 = 1
      · have e1 : ((X' : Int) % 2 == 1) = true := by simp; omega
        have HX : Hid (X' / 2 ^^^ 3988292384 = tI x (k + 1)) := by
          show _ = tN (tI x k)
          rw [← hX]; unfold tN; rw [h1, Nat.one_mul]
        have hl2 : X' / 2 < 4294967296 := by omega
        clear hX h1
        go_wp2_with fail
        refine (rxor_any (X' / 2) 3988292384 hl2 (by omega) _).mono ?_; rintro e w' ⟨rfl, rfl⟩
        go_wp2
        go_round
        case rel => exact ⟨k + 1, X' / 2 ^^^ 3988292384, by omega, by go_num, HX.out, rfl⟩
        case measure => simp [intOf]; omega
      · have e1 : ((X' : Int) % 2 == 1) = false := by simp; omega
        have HX : Hid (X' / 2 = tI x (k + 1)) := by
          show _ = tN (tI x k)
          rw [← hX]; unfold tN; rw [show X' % 2 = 0 by omega]; simp
        clear hX h1
        go_wp2
        go_round
        case rel => exact ⟨k + 1, X' / 2, by omega, by go_num, HX.out, rfl⟩
        case measure => simp [intOf]; omega
    · obtain rfl : k = 8 := by omega
      have HX : Hid (X' = tI x 8) := hX
      clear hX
      go_wp2
      go_ret
      exact ⟨ret_int (by rw [HX.out]), rfl⟩

set_option maxHeartbeats 1000000 in
theorem rmore_any (sum : Nat) (hsum : sum < 4294967296) (s : ByteArray) (hs : s.size ≤ 9223372036854775807) (w : World) :
    Calls Tryz.prog 140 #[.int .u32 sum, .string s] w fun e w' => e = .returned (.int .u32 (mrN sum (bf s) s.size : Nat)) ∧ w' = w := by
  have hn := nt_lt sum hsum
  have HM : Hid (mrN sum (bf s) s.size = nt (rgS (bf s) (nt sum) s.size)) := rfl
  generalize mrN sum (bf s) s.size = m at *
  go_enter Tryz.func140, Tryz.ntmps140
  go_wp2_with fail
  refine (rturned_any sum hsum _).mono ?_; rintro e w' ⟨rfl, rfl⟩
  generalize nt sum = q at *
  go_wp2
  go_loop [5, 6] (fun X i => ∃ k X' : Nat, k ≤ s.size ∧ i = .int .i64 k ∧ X' = rgS (bf s) q k ∧ X = .int .u32 X') (fun _ i => s.size - (intOf i).toNat)
  case atStart => exact ⟨0, q, by omega, rfl, rfl, rfl⟩
  case round =>
    obtain ⟨k, X', hk, rfl, hX, rfl⟩ := hrel
    have hl : X' < 4294967296 := by rw [hX]; exact rgS_lt (bf s) (bf_lt s) q hn k
    by_cases hlt : k < s.size
    · have hb := bf_lt s k
      have HB : Hid ((s[k]'hlt).toNat = bf s k) := bf_at s k hlt
      have HX : Hid (tI (X' ^^^ bf s k) 8 = rgS (bf s) q (k + 1)) := by show _ = _; rw [hX]; rfl
      clear hX
      go_wp2_with fail
      rw [HB.out]
      refine (ron_any X' (bf s k) hl hb _).mono ?_; rintro e w' ⟨rfl, rfl⟩
      go_wp2
      go_round
      case rel => exact ⟨k + 1, tI (X' ^^^ bf s k) 8, by omega, by go_num, HX.out, rfl⟩
      case measure => simp [intOf]; omega
    · obtain rfl : k = s.size := by omega
      have HX : Hid (nt X' = m) := by show _ = _; rw [HM.out, hX]
      clear hX
      go_wp2_with fail
      refine (rturned_any X' hl _).mono ?_; rintro e w' ⟨rfl, rfl⟩
      go_wp2
      go_ret
      exact ⟨ret_int (by rw [HX.out]), rfl⟩

theorem rsum_any (s : ByteArray) (hs : s.size ≤ 9223372036854775807) (w : World) :
    Calls Tryz.prog 114 #[.string s] w fun e w' => e = .returned (.int .u32 (smN (bf s) s.size : Nat)) ∧ w' = w := by
  go_enter Tryz.func114, Tryz.ntmps114
  go_wp2_with fail
  refine (rmore_any 0 (by omega) s hs _).mono ?_; rintro e w' ⟨rfl, rfl⟩
  go_wp2
  go_ret
  exact ⟨rfl, rfl⟩

/-- what Join answers. -/
def jnV (a b : Nat) (n : Int) : Nat := if n < 1 then a else jnN a b n.toNat
theorem jnV_low (a b : Nat) (n : Int) (h : n < 1) : jnV a b n = a := if_pos h
theorem jnV_nat (a b n : Nat) (h : 1 ≤ n) : jnV a b (n : Int) = jnN a b n := by unfold jnV; rw [if_neg (by omega)]; rfl
theorem jnV_lt (a b : Nat) (n : Int) (ha : a < 4294967296) (hb : b < 4294967296) : jnV a b n < 4294967296 := by
  unfold jnV; split
  · exact ha
  · exact jnN_lt a b _ ha hb

end Go.Proofs.YtinpkfdmellleaaGreat

namespace Go.Proofs.YtinpkfdmellleaaGreat.Plain
set_option linter.unusedVariables false

def gg (n s : Int) : Bool := decide (4 ≤ n ∧ n ≤ 32 ∧ 1 ≤ s ∧ s ≤ 64)
theorem gg_iff (n s : Int) : gg n s = true ↔ 4 ≤ n ∧ n ≤ 32 ∧ 1 ≤ s ∧ s ≤ 64 := by simp [gg]
def dI (n s : Int) : Int := if gg n s = true then n - 2 else 0
def bI (n s : Int) : Int := if gg n s = true then (n - 2) * s else 0
def xI (n s : Int) : Int := if gg n s = true then 100 + s else 0
def inR (l : List (Int × Int)) : Bool := l.all (fun p => decide (0 ≤ p.1 ∧ p.1 < p.2))
def rfE (n s : Int) (l : List (Int × Int)) : Int := if gg n s = true then (if inR l = true then 0 else 3) else 4
theorem inR_one (x y : Int) : inR [(x, y)] = true ↔ 0 ≤ x ∧ x < y := by simp [inR]
theorem inR_two (x y u v : Int) : inR [(x, y), (u, v)] = true ↔ (0 ≤ x ∧ x < y) ∧ 0 ≤ u ∧ u < v := by simp [inR]
theorem mul_bd {a b A B : Int} (h1 : 0 ≤ a) (h2 : a ≤ A) (h3 : 0 ≤ b) (h4 : b ≤ B) : 0 ≤ a * b ∧ a * b ≤ A * B :=
  ⟨Int.mul_nonneg h1 h3, Int.mul_le_mul h2 h4 h3 (by omega)⟩
theorem mul_64 {a b : Int} (h1 : 0 ≤ a) (h2 : a ≤ 64) (h3 : 0 ≤ b) (h4 : b ≤ 30) : 0 ≤ a * b ∧ a * b ≤ 1920 := mul_bd h1 h2 h3 h4

/-! ### blocks -/
theorem div_facts {b k : Int} (hb : 0 ≤ b) (hk : 0 < k) : 0 ≤ b / k ∧ b / k ≤ b ∧ 0 ≤ b % k ∧ b % k < k ∧ b / k * k + b % k = b := by
  refine ⟨Int.ediv_nonneg hb (by omega), Int.ediv_le_self _ hb, Int.emod_nonneg _ (by omega), Int.emod_lt_of_pos _ hk, ?_⟩
  have := Int.emod_add_mul_ediv b k
  rw [Int.mul_comm k] at this
  omega
theorem div_of {t c k : Int} (h1 : 0 ≤ c) (h2 : c < k) : (t * k + c) / k = t ∧ (t * k + c) % k = c := by
  have := (Int.ediv_emod_unique (a := t * k + c) (b := k) (r := c) (q := t) (by omega)).2 ⟨by rw [Int.mul_comm]; omega, h1, h2⟩
  exact this
theorem div_lt {b k s : Int} (hb : 0 ≤ b) (hk : 0 < k) (h : b < k * s) : b / k < s := Int.ediv_lt_of_lt_mul hk (by rw [Int.mul_comm]; exact h)
/-- the stripe, the column, the error. -/
def fnd (n s b : Int) : Int × Int × Int := if gg n s = true then (if 0 ≤ b ∧ b < (n - 2) * s then (b / (n - 2), b % (n - 2), 0) else (0, 0, 3)) else (0, 0, 4)
def blk (n s t c : Int) : Int × Int := if gg n s = true then (if (0 ≤ t ∧ t < s) ∧ 0 ≤ c ∧ c < n - 2 then (t * (n - 2) + c, 0) else (0, 3)) else (0, 4)
/-! ### members -/
def sM (n t : Int) : Int := n + 1 - t % n
def mM (n t c : Int) : Int := (sM n t + c) % n
def cM (n t m : Int) : Int := (2 * n - sM n t + m) % n
theorem rem_bd (t : Int) {n : Int} (h : 0 < n) : 0 ≤ t % n ∧ t % n < n := ⟨Int.emod_nonneg _ (by omega), Int.emod_lt_of_pos _ h⟩
theorem mM_bd (t c : Int) {n : Int} (h : 0 < n) : 0 ≤ mM n t c ∧ mM n t c < n := rem_bd _ h
theorem cM_bd (t c : Int) {n : Int} (h : 0 < n) : 0 ≤ cM n t c ∧ cM n t c < n := rem_bd _ h
theorem cm_inv (n t c : Int) (h1 : 0 ≤ c) (h2 : c < n) : cM n t (mM n t c) = c := by
  unfold cM mM
  rw [Int.add_emod_emod, show 2 * n - sM n t + (sM n t + c) = c + n * 2 by omega, Int.add_mul_emod_self_left]
  exact Int.emod_eq_of_lt h1 h2
theorem mc_inv (n t m : Int) (h1 : 0 ≤ m) (h2 : m < n) : mM n t (cM n t m) = m := by
  unfold cM mM
  rw [Int.add_emod_emod, show sM n t + (2 * n - sM n t + m) = m + n * 2 by omega, Int.add_mul_emod_self_left]
  exact Int.emod_eq_of_lt h1 h2
theorem mM_inj {n t c d : Int} (h1 : 0 ≤ c) (h2 : c < n) (h3 : 0 ≤ d) (h4 : d < n) (h : mM n t c = mM n t d) : c = d := by
  rw [← cm_inv n t c h1 h2, h, cm_inv n t d h3 h4]
def mem (n s t c : Int) : Int × Int := if gg n s = true then (if (0 ≤ t ∧ t < s) ∧ 0 ≤ c ∧ c < n then (mM n t c, 0) else (0, 3)) else (0, 4)
def col (n s t m : Int) : Int × Int := if gg n s = true then (if (0 ≤ t ∧ t < s) ∧ 0 ≤ m ∧ m < n then (cM n t m, 0) else (0, 3)) else (0, 4)
def sec (n s t : Int) : Int × Int := if gg n s = true then (if 0 ≤ t ∧ t < s then (100 + t, 0) else (0, 3)) else (0, 4)
/-- the members of a stripe's columns. -/
def rowL (n t : Int) : List Int := (List.range n.toNat).map fun c : Nat => mM n t c
def row (n s t : Int) : List Int × Int := if gg n s = true then (if 0 ≤ t ∧ t < s then (rowL n t, 0) else ([], 3)) else ([], 4)
theorem rowL_len (n t : Int) : (rowL n t).length = n.toNat := by simp [rowL]
theorem rowL_at (n t : Int) (c : Nat) (h : c < n.toNat) : (rowL n t).getD c 0 = mM n t c := by
  simp [rowL, List.getD_eq_getElem?_getD, h]
/-- what a row holds behind the first k members. -/
def rF (n t : Int) (k : Nat) (c : Nat) : Int := if mM n t c < (k : Int) then mM n t c else 0
theorem rF_step (n t : Int) (k c : Nat) (hk : (k : Int) < n) (hc : (c : Int) < n) : rF n t (k + 1) c = if c = (cM n t k).toNat then (k : Int) else rF n t k c := by
  have hb := cM_bd t k (n := n) (by omega)
  unfold rF
  by_cases e : c = (cM n t k).toNat
  · have e2 : (c : Int) = cM n t k := by omega
    rw [if_pos e, e2, mc_inv n t k (by omega) hk, if_pos (by omega)]
  · rw [if_neg e]
    have hne : mM n t c ≠ (k : Int) := fun h => e (by rw [← h, cm_inv n t c (by omega) hc]; omega)
    have hm := mM_bd t c (n := n) (by omega)
    by_cases h1 : mM n t c < (k : Int)
    · rw [if_pos h1, if_pos (by omega)]
    · rw [if_neg h1, if_neg (by omega)]
theorem rF_full (n t : Int) (c : Nat) (hn : 0 < n) : rF n t n.toNat c = mM n t c := by
  have hm := mM_bd t c hn
  unfold rF
  rw [if_pos (by omega)]
theorem rF_zero (n t : Int) (c : Nat) (hn : 0 < n) : rF n t 0 c = 0 := by
  have hm := mM_bd t c hn
  unfold rF
  rw [if_neg (by omega)]
/-! ### the next member, and the next -/
def nxt (n m : Int) : Int := if m = n - 1 then 0 else m + 1
theorem nxt_mod (n m : Int) (h1 : 0 ≤ m) (h2 : m < n) : nxt n m = (m + 1) % n := by
  unfold nxt
  by_cases e : m = n - 1
  · rw [if_pos e, e, show n - 1 + 1 = n by omega, Int.emod_self]
  · rw [if_neg e, Int.emod_eq_of_lt (by omega) (by omega)]
theorem nxt_bd (n m : Int) (h1 : 0 ≤ m) (h2 : m < n) : 0 ≤ nxt n m ∧ nxt n m < n := by
  unfold nxt; split <;> omega
/-- P's member, told downwards. -/
def pM (n t : Int) : Int := n - 1 - t % n
theorem pM_bd (t : Int) {n : Int} (h : 0 < n) : 0 ≤ pM n t ∧ pM n t < n := by have := rem_bd t h; unfold pM; omega
theorem pM_zero (n : Int) : pM n 0 = n - 1 := by simp [pM]
theorem pM_step (n t : Int) (hn : 0 < n) (ht : 0 ≤ t) : pM n (t + 1) = if pM n t - 1 < 0 then n - 1 else pM n t - 1 := by
  have hb := rem_bd t hn
  unfold pM
  have h1 : (t + 1) % n = (t % n + 1) % n := by rw [Int.emod_add_emod]
  by_cases e : t % n + 1 = n
  · rw [h1, e, Int.emod_self, if_pos (by omega)]; omega
  · rw [h1, Int.emod_eq_of_lt (by omega) (by omega), if_neg (by omega)]; omega
theorem mM_p (n t : Int) (hn : 0 < n) : mM n t (n - 2) = pM n t := by
  have hb := pM_bd t hn
  unfold mM sM
  have : n + 1 - t % n + (n - 2) = pM n t + n * 1 := by unfold pM; omega
  rw [this, Int.add_mul_emod_self_left, Int.emod_eq_of_lt hb.1 hb.2]
theorem mM_q (n t : Int) (hn : 0 < n) : mM n t (n - 1) = nxt n (pM n t) := by
  have hb := pM_bd t hn
  rw [nxt_mod n _ hb.1 hb.2]
  unfold mM sM
  have : n + 1 - t % n + (n - 1) = pM n t + 1 + n * 1 := by unfold pM; omega
  rw [this, Int.add_mul_emod_self_left]
theorem mM_data (n t c : Int) (hn : 0 < n) : mM n t c = (nxt n (pM n t) + 1 + c) % n := by
  have hb := pM_bd t hn
  rw [nxt_mod n _ hb.1 hb.2]
  unfold mM sM
  have : n + 1 - t % n + c = pM n t + 1 + (1 + c) := by unfold pM; omega
  rw [this, Int.add_assoc ((pM n t + 1) % n), Int.emod_add_emod]
theorem mM_first (n t : Int) (hn : 0 < n) : mM n t 0 = nxt n (nxt n (pM n t)) := by
  have hb := pM_bd t hn
  have hq := nxt_bd n _ hb.1 hb.2
  rw [mM_data n t 0 hn, nxt_mod n (nxt n (pM n t)) hq.1 hq.2, Int.add_zero]
theorem mM_next (n t c : Int) (hn : 0 < n) : mM n t (c + 1) = nxt n (mM n t c) := by
  have hm := mM_bd t c hn
  rw [nxt_mod n _ hm.1 hm.2]
  unfold mM
  rw [Int.emod_add_emod, ← Int.add_assoc]
/-- the row's members, one behind the other. -/
def rT (n t : Int) (k : Nat) : List Int := (List.range k).map fun c : Nat => mM n t c
theorem rT_succ (n t : Int) (k : Nat) : rT n t (k + 1) = rT n t k ++ [mM n t k] := by simp [rT, List.range_succ]
theorem rT_len (n t : Int) (k : Nat) : (rT n t k).length = k := by simp [rT]
theorem rT_full (n t : Int) (k : Nat) (hn : 4 ≤ n) (hk : (k : Int) = n - 2) : rT n t k ++ [pM n t] ++ [nxt n (pM n t)] = rowL n t := by
  have e1 : mM n t k = pM n t := by rw [hk]; exact mM_p n t (by omega)
  have e2 : mM n t ((k + 1 : Nat) : Int) = nxt n (pM n t) := by
    rw [show ((k + 1 : Nat) : Int) = n - 1 by omega]; exact mM_q n t (by omega)
  rw [← e1, ← rT_succ]
  show rT n t (k + 1) ++ [_] = rowL n t
  rw [e1, ← e2, ← rT_succ]
  unfold rT rowL
  rw [show k + 1 + 1 = n.toNat by omega]
/-! ### the stripes of some blocks -/
def tP (k f c : Int) (t : Nat) : Bool := decide (0 < c ∧ (t : Int) * k < f + c ∧ f < (t : Int) * k + k)
def tL (k f c : Int) (a : Nat) : List Int := ((List.range a).filter (tP k f c)).map (fun t : Nat => (t : Int))
theorem tL_yes {k f c : Int} {a : Nat} (h : tP k f c a = true) : tL k f c (a + 1) = tL k f c a ++ [(a : Int)] := by
  simp [tL, List.range_succ, h]
theorem tL_no {k f c : Int} {a : Nat} (h : tP k f c a = false) : tL k f c (a + 1) = tL k f c a := by
  simp [tL, List.range_succ, h]
theorem tL_len (k f c : Int) (a : Nat) : (tL k f c a).length ≤ a := by
  have := List.length_filter_le (tP k f c) (List.range a)
  simpa [tL] using this
theorem tL_none {k f c : Int} : ∀ {a : Nat}, (∀ t, t < a → tP k f c t = false) → tL k f c a = []
  | 0, _ => rfl
  | a + 1, h => by rw [tL_no (h a (by omega)), tL_none (fun t ht => h t (by omega))]
theorem tL_stop {k f c : Int} {a : Nat} (h : ∀ t, a ≤ t → tP k f c t = false) (b : Nat) (hb : a ≤ b) : tL k f c b = tL k f c a := by
  obtain ⟨d, rfl⟩ : ∃ d, b = a + d := ⟨b - a, by omega⟩
  clear hb
  induction d with
  | zero => rfl
  | succ d ih => rw [show a + (d + 1) = a + d + 1 by omega, tL_no (h _ (by omega)), ih]
theorem mul_mono {k : Int} (hk : 0 < k) {a b : Nat} (h : a ≤ b) : (a : Int) * k ≤ (b : Int) * k := Int.mul_le_mul_of_nonneg_right (by omega) (by omega)
/-- behind some rounds: the next stripe is T, the next block B. -/
structure TI (k f : Int) (T : Nat) (B : Int) : Prop where
  dv : B / k = T
  ge : f ≤ B
  is : B = f ∨ B = (T : Int) * k
theorem TI.start {k f : Int} (hk : 0 < k) (hf : 0 ≤ f) (c : Int) : TI k f (f / k).toNat f ∧ tL k f c (f / k).toNat = [] := by
  have hd := div_facts hf hk
  refine ⟨⟨by omega, by omega, .inl rfl⟩, tL_none fun t ht => ?_⟩
  have h1 : ((t + 1 : Nat) : Int) * k ≤ (((f / k).toNat : Nat) : Int) * k := mul_mono hk (by omega)
  rw [show (((f / k).toNat : Nat) : Int) = f / k by omega] at h1
  have h2 : ((t + 1 : Nat) : Int) * k = (t : Int) * k + k := by rw [Int.natCast_add, Int.add_mul]; simp
  unfold tP
  apply decide_eq_false
  rintro ⟨_, _, h⟩
  omega
theorem TI.facts {k f : Int} {T : Nat} {B : Int} (h : TI k f T B) (hk : 0 < k) (hf : 0 ≤ f) : 0 ≤ B ∧ (T : Int) * k + B % k = B ∧ 0 ≤ B % k ∧ B % k < k := by
  have hd := div_facts (b := B) (k := k) (by have := h.ge; omega) hk
  rw [h.dv] at hd
  exact ⟨by have := h.ge; omega, hd.2.2.2.2, hd.2.2.1, hd.2.2.2.1⟩
theorem TI.yes {k f c : Int} {T : Nat} {B : Int} (h : TI k f T B) (hk : 0 < k) (hf : 0 ≤ f) (hB : B < f + c) : tP k f c T = true ∧ TI k f (T + 1) (B + (k - B % k)) := by
  have hq := h.facts hk hf
  have hg := h.ge
  have h2 : ((T + 1 : Nat) : Int) * k = (T : Int) * k + k := by rw [Int.natCast_add, Int.add_mul]; simp
  refine ⟨decide_eq_true ⟨by omega, by omega, by omega⟩, ⟨?_, by omega, .inr (by omega)⟩⟩
  rw [show B + (k - B % k) = ((T + 1 : Nat) : Int) * k + 0 by omega]
  exact (div_of (by omega) hk).1
theorem TI.no {k f c : Int} {T : Nat} {B : Int} (h : TI k f T B) (hk : 0 < k) (hB : ¬ B < f + c) : ∀ t, T ≤ t → tP k f c t = false := fun t ht => by
  apply decide_eq_false
  rintro ⟨h1, h2, h3⟩
  have := mul_mono hk ht
  rcases h.is with e | e <;> omega
theorem TI.lt {k f s : Int} {T : Nat} {B : Int} (h : TI k f T B) (hk : 0 < k) (hf : 0 ≤ f) (hB : B < k * s) : (T : Int) < s := by
  have := div_lt (h.facts hk hf).1 hk hB
  rw [h.dv] at this
  exact this
def tch (n s f c : Int) : List Int × Int := if gg n s = true then (if (0 ≤ f ∧ f ≤ (n - 2) * s) ∧ 0 ≤ c ∧ c ≤ (n - 2) * s - f then (tL (n - 2) f c s.toNat, 0) else ([], 3)) else ([], 4)

end Go.Proofs.YtinpkfdmellleaaGreat.Plain

namespace Go.Proofs.YtinpkfdmellleaaGreat
open Go.RowKit Plain
set_option linter.unusedVariables false

structure SpAt (w : World) (a : Option Addr) (b off cap : Nat) (l : List (Int × Int)) : Prop where
  ha : 0 < l.length → a = some ⟨b, off, none⟩
  hn : a = none → cap = 0
  le : l.length ≤ cap
  mx : cap ≤ maxLen
  c0 : ∀ i, i < l.length → w.cell? ⟨b, off + i * 2, none⟩ = some (.int .i64 (l.getD i (0, 0)).1)
  c1 : ∀ i, i < l.length → w.cell? ⟨b, off + i * 2 + 1, none⟩ = some (.int .i64 (l.getD i (0, 0)).2)
def SpIn (w : World) (v : Value) (l : List (Int × Int)) : Prop := ∃ a b off cap, v = .slice a l.length cap ∧ SpAt w a b off cap l
theorem SpAt.kept {w w' : World} {a : Option Addr} {b off cap : Nat} {l : List (Int × Int)} (h : SpAt w a b off cap l) (k : Kp w w') : SpAt w' a b off cap l :=
  ⟨h.ha, h.hn, h.le, h.mx, fun i hi => k.held (h.c0 i hi), fun i hi => k.held (h.c1 i hi)⟩
theorem SpIn.kept {w w' : World} {v : Value} {l : List (Int × Int)} (h : SpIn w v l) (k : Kp w w') : SpIn w' v l := by
  obtain ⟨a, b, off, cap, rfl, h⟩ := h
  exact ⟨a, b, off, cap, rfl, h.kept k⟩
theorem SpIn.nil (w : World) : SpIn w (.slice none 0 0) [] := ⟨none, 0, 0, 0, rfl, ⟨fun h => absurd h (by simp), fun _ => rfl, by simp, by unfold maxLen; omega, fun i h => absurd h (by simp), fun i h => absurd h (by simp)⟩⟩
theorem SpAt.new1 (w : World) (x y : Int) (t : TypeId) : SpAt (w.alloc (.cells #[.int .i64 x, .int .i64 y] t)) (some ⟨w.heap.size, 0, none⟩) w.heap.size 0 1 [(x, y)] :=
  ⟨fun _ => rfl, fun h => (by cases h), by simp, by unfold maxLen; omega, fun i h => (by
    obtain rfl : i = 0 := by simp at h; omega
    rw [World.cell?_alloc_at _ _ _ _ rfl]; rfl), fun i h => (by
    obtain rfl : i = 0 := by simp at h; omega
    rw [World.cell?_alloc_at _ _ _ _ rfl]; rfl)⟩
theorem SpAt.new2 (w : World) (x y u v : Int) (t : TypeId) : SpAt (w.alloc (.cells #[.int .i64 x, .int .i64 y, .int .i64 u, .int .i64 v] t)) (some ⟨w.heap.size, 0, none⟩) w.heap.size 0 2 [(x, y), (u, v)] :=
  ⟨fun _ => rfl, fun h => (by cases h), by simp, by unfold maxLen; omega, fun i h => (by
    have h : i = 0 ∨ i = 1 := by simp at h; omega
    rcases h with rfl | rfl <;> (rw [World.cell?_alloc_at _ _ _ _ rfl]; rfl)), fun i h => (by
    have h : i = 0 ∨ i = 1 := by simp at h; omega
    rcases h with rfl | rfl <;> (rw [World.cell?_alloc_at _ _ _ _ rfl]; rfl))⟩
theorem Kp.own {w w' : World} (k : Kp w w') {base : Nat} {e : TypeId} {size : Nat} {v : Value} {n : Nat} {xs : List Value} (h : w.ownsRow base e size v n xs) : w'.ownsRow base e size v n xs := by
  rcases h.2 with ⟨h', h0⟩ | ⟨g, cap, cur, h', hb, hg, hr⟩
  · exact ⟨h.1, .inl ⟨h', h0⟩⟩
  · exact ⟨h.1, .inr ⟨g, cap, cur, h', hb, (k.block g (Array.getElem?_eq_some_iff.1 hg).1).trans hg, hr⟩⟩
theorem own_lt {w : World} {base : Nat} {e : TypeId} {size : Nat} {v : Value} {n : Nat} {xs : List Value} (h : w.ownsRow base e size v n xs) : ∀ k, v.ownBlock = some k → base ≤ k := fun k hk => (h.lt k hk).1
theorem Kp.drewN {a b : World} (h : Kp a b) (n : Nat) : Kp a (b.drewN n) := ⟨h.os, h.tape, h.output, h.size, h.block⟩

/-! ### rows of numbers -/
def iv (l : List Int) : List Value := l.map (Value.int .i64)
def OwnI (w : World) (base : Nat) (v : Value) (l : List Int) : Prop := w.ownsRow base 3 1 v l.length (iv l)
theorem OwnI.kept {w w' : World} {base : Nat} {v : Value} {l : List Int} (h : OwnI w base v l) (k : Kp w w') : OwnI w' base v l := k.own h
theorem OwnI.alloc {w : World} {base : Nat} {v : Value} {l : List Int} (h : OwnI w base v l) (o : Obj) : OwnI (w.alloc o) base v l := ((Kp.refl w).alloc o).own h
/-- one number appended. -/
theorem wpList_append_int {w : World} {ops : Array Oper} {rest : List Oper} {o : Oper} {a : Act} {Q : Exit → Act → World → Prop} (hgd : o.guard = none) (s x : Operand)
    (ho : o.op = .call { callee := .builtin .append, args := #[s, x], argTypes := #[61, 61] })
    (base : Nat) (v : Value) (l : List Int) (hs : a.eval s = v) (hown : OwnI w base v l) (p : Int) (k : Nat) (hx : a.eval x = .slice (some ⟨k, 0, none⟩) 1 1) (hc : w.cell? ⟨k, 0, none⟩ = some (.int .i64 p))
    (hlen : l.length + 1 ≤ 1099511627776) (hbase : base ≤ w.heap.size)
    (h : ∀ v' w', OwnI w' base v' (l ++ [p]) → w.grownBy w' v.ownBlock → wpList Tryz.prog ops Q rest (a.put o.dst v') w') : wpList Tryz.prog ops Q (o :: rest) a w := by
  obtain ⟨i0, hi, hz0, hz1, hz2⟩ := info_parts info_int
  refine wpList_append_own_at w hgd s x 61 ho base 3 i0 (.int .i64 0) 1 8 Tryz.underlying61 hi hz0 hz1 hz2 rfl (by decide) v l.length (iv l) hs hown ⟨k, 0, none⟩ 1 1 [.int .i64 p] hx rfl ?_ (by simp [Value.oneCell']) (by unfold maxLen; omega) (by omega) hbase (fun v' w' h1 h2 _ _ => h v' w' ?_ h2)
  · intro j u hj
    match j, hj with
    | 0, hj => simp at hj; subst hj; simpa [Addr.add] using hc
  · unfold OwnI iv
    rw [List.length_append, List.map_append]
    exact h1
/-- a row of numbers, by a function. -/
def FI (w : World) (base : Nat) (v : Value) (n : Nat) (f : Nat → Int) : Prop := w.ownsRow base 3 1 v n ((List.range n).map fun i => Value.int .i64 (f i))
theorem FI.of {w : World} {base : Nat} {v : Value} {l : List Int} (h : OwnI w base v l) : FI w base v l.length (fun i => l.getD i 0) := by
  have e : ((List.range l.length).map fun i => Value.int .i64 (l.getD i 0)) = iv l := by
    apply List.ext_getElem?
    intro i
    unfold iv
    rw [List.getElem?_map, List.getElem?_map]
    by_cases hi : i < l.length
    · rw [List.getElem?_range hi, List.getElem?_eq_getElem hi]
      simp [List.getD_eq_getElem?_getD, hi]
    · rw [List.getElem?_eq_none (by simpa using hi), List.getElem?_eq_none (by omega)]; rfl
  unfold FI
  rw [e]
  exact h
theorem FI.kept {w w' : World} {base : Nat} {v : Value} {n : Nat} {f : Nat → Int} (h : FI w base v n f) (k : Kp w w') : FI w' base v n f := k.own h
theorem FI.shape {w : World} {base : Nat} {v : Value} {n : Nat} {f : Nat → Int} (h : FI w base v n f) : ∃ a cap, v = .slice a n cap ∧ n ≤ cap ∧ cap ≤ 9223372036854775807 ∧ (0 < n → ∃ g, a = some ⟨g, 0, none⟩ ∧ base ≤ g) := by
  rcases h.2 with ⟨rfl, rfl⟩ | ⟨g, cap, cur, rfl, hb, hg, hn, hm, _⟩
  · exact ⟨none, 0, rfl, by omega, by omega, fun h => absurd h (by omega)⟩
  · unfold maxLen at hm
    exact ⟨_, cap, rfl, hn, by omega, fun _ => ⟨g, rfl, hb⟩⟩
theorem FI.at {w : World} {base g n cap : Nat} {f : Nat → Int} (h : FI w base (.slice (some ⟨g, 0, none⟩) n cap) n f) (j : Nat) (hj : j < n) : w.cell? ⟨g, j, none⟩ = some (.int .i64 (f j)) := by
  rw [World.ownsRow.cellAt h j (by omega)]
  simp [hj]
theorem FI.z {w : World} {base g n cap : Nat} {f : Nat → Int} (h : FI w base (.slice (some ⟨g, 0, none⟩) n cap) n f) (o : Nat) : w.frozen? ⟨g, o, none⟩ = false := World.ownsRow.frozenAt h o
theorem FI.set {w : World} {base g n cap : Nat} {f : Nat → Int} (h : FI w base (.slice (some ⟨g, 0, none⟩) n cap) n f) (j : Nat) (x : Int) : FI (w.setCell ⟨g, j, none⟩ (.int .i64 x)) base (.slice (some ⟨g, 0, none⟩) n cap) n (fun i => if i = j then x else f i) := by
  have h1 := (World.ownsRow.stored h j (.int .i64 x)).1
  have e : ((List.range n).map fun i => Value.int .i64 (if i = j then x else f i)) = ((List.range n).map fun i => Value.int .i64 (f i)).set j (.int .i64 x) := by
    apply List.ext_getElem?
    intro i
    rw [List.getElem?_set, List.getElem?_map, List.getElem?_map, List.length_map, List.length_range]
    by_cases hi : i < n
    · rw [List.getElem?_range hi]
      by_cases e : j = i
      · subst e; simp [hi]
      · have : ¬ i = j := fun h => e h.symm
        simp [e, this]
    · rw [List.getElem?_eq_none (by simpa using hi)]
      by_cases e : j = i
      · subst e; simp [hi]
      · simp [e]
  unfold FI
  rw [e]
  exact h1
theorem FI.congr {w : World} {base : Nat} {v : Value} {n : Nat} {f g : Nat → Int} (h : FI w base v n f) (e : ∀ j, f j = g j) : FI w base v n g := by
  rw [show g = f from funext fun j => (e j).symm]; exact h
theorem Kp.setB {a w : World} (h : Kp a w) {b o : Nat} (hb : a.heap.size ≤ b) (u : Value) : Kp a (w.setCell ⟨b, o, none⟩ u) := Below.setCell h (p := ⟨b, o, none⟩) hb u
/-- numbers in memory. -/
def InI (w : World) (v : Value) (l : List Int) : Prop := ∃ a g cap, v = .slice a l.length cap ∧ l.length ≤ cap ∧ cap ≤ 9223372036854775807 ∧ (0 < l.length → a = some ⟨g, 0, none⟩) ∧ ∀ j, j < l.length → w.cell? ⟨g, j, none⟩ = some (.int .i64 (l.getD j 0))
theorem OwnI.ints {w : World} {base : Nat} {v : Value} {l : List Int} (h : OwnI w base v l) : InI w v l := by
  have h1 := FI.of h
  obtain ⟨a, cap, rfl, hn, hc, hg⟩ := h1.shape
  by_cases h0 : 0 < l.length
  · obtain ⟨g, rfl, _⟩ := hg h0
    exact ⟨_, g, cap, rfl, hn, hc, fun _ => rfl, fun j hj => h1.at j hj⟩
  · exact ⟨a, 0, cap, rfl, hn, hc, fun h => absurd h h0, fun j hj => absurd hj (by omega)⟩
theorem InI.kept {w w' : World} {v : Value} {l : List Int} (h : InI w v l) (k : Kp w w') : InI w' v l := by
  obtain ⟨a, g, cap, rfl, h1, h2, h3, h4⟩ := h
  exact ⟨a, g, cap, rfl, h1, h2, h3, fun j hj => k.held (h4 j hj)⟩

end Go.Proofs.YtinpkfdmellleaaGreat

namespace Go.Proofs.YtinpkfdmellleaaGreat
open Go.RowKit Plain
set_option linter.unusedVariables false

def gV (n s : Int) : Value := .agg #[.int .i64 n, .int .i64 s]
set_option maxRecDepth 100000 in
theorem good_any (n s : Int) (w : World) : Calls Tryz.prog 86 #[gV n s] w fun e w' => e = .returned (.bool (gg n s)) ∧ Kp w w' := by
  unfold gV
  by_cases h1 : 4 ≤ n
  · by_cases h2 : n ≤ 32
    · by_cases h3 : 1 ≤ s
      · by_cases h4 : s ≤ 64
        · rw [show gg n s = true from (gg_iff _ _).2 ⟨h1, h2, h3, h4⟩]
          go_enter Tryz.func86, Tryz.ntmps86
          go_wp2
          go_ret
          exact ⟨rfl, (Kp.refl w).alloc _⟩
        · rw [show gg n s = false from by rw [Bool.eq_false_iff, ne_eq, gg_iff]; exact fun h => h4 h.2.2.2]
          go_enter Tryz.func86, Tryz.ntmps86
          go_wp2
          go_ret
          exact ⟨rfl, (Kp.refl w).alloc _⟩
      · rw [show gg n s = false from by rw [Bool.eq_false_iff, ne_eq, gg_iff]; exact fun h => h3 h.2.2.1]
        go_enter Tryz.func86, Tryz.ntmps86
        go_wp2
        go_ret
        exact ⟨rfl, (Kp.refl w).alloc _⟩
    · rw [show gg n s = false from by rw [Bool.eq_false_iff, ne_eq, gg_iff]; exact fun h => h2 h.2.1]
      go_enter Tryz.func86, Tryz.ntmps86
      go_wp2
      go_ret
      exact ⟨rfl, (Kp.refl w).alloc _⟩
  · rw [show gg n s = false from by rw [Bool.eq_false_iff, ne_eq, gg_iff]; exact fun h => h1 h.1]
    go_enter Tryz.func86, Tryz.ntmps86
    go_wp2
    go_ret
    exact ⟨rfl, (Kp.refl w).alloc _⟩
set_option maxRecDepth 100000 in
theorem rgood_any (n s : Int) (w : World) : Calls Tryz.prog 60 #[gV n s] w fun e w' => e = .returned (.bool (gg n s)) ∧ Kp w w' := by
  unfold gV
  by_cases h1 : 4 ≤ n
  · by_cases h2 : n ≤ 32
    · by_cases h3 : 1 ≤ s
      · by_cases h4 : s ≤ 64
        · rw [show gg n s = true from (gg_iff _ _).2 ⟨h1, h2, h3, h4⟩]
          go_enter Tryz.func60, Tryz.ntmps60
          go_wp2
          go_ret
          exact ⟨rfl, (Kp.refl w).alloc _⟩
        · rw [show gg n s = false from by rw [Bool.eq_false_iff, ne_eq, gg_iff]; exact fun h => h4 h.2.2.2]
          go_enter Tryz.func60, Tryz.ntmps60
          go_wp2
          go_ret
          exact ⟨rfl, (Kp.refl w).alloc _⟩
      · rw [show gg n s = false from by rw [Bool.eq_false_iff, ne_eq, gg_iff]; exact fun h => h3 h.2.2.1]
        go_enter Tryz.func60, Tryz.ntmps60
        go_wp2
        go_ret
        exact ⟨rfl, (Kp.refl w).alloc _⟩
    · rw [show gg n s = false from by rw [Bool.eq_false_iff, ne_eq, gg_iff]; exact fun h => h2 h.2.1]
      go_enter Tryz.func60, Tryz.ntmps60
      go_wp2
      go_ret
      exact ⟨rfl, (Kp.refl w).alloc _⟩
  · rw [show gg n s = false from by rw [Bool.eq_false_iff, ne_eq, gg_iff]; exact fun h => h1 h.1]
    go_enter Tryz.func60, Tryz.ntmps60
    go_wp2
    go_ret
    exact ⟨rfl, (Kp.refl w).alloc _⟩
set_option maxRecDepth 100000 in
theorem sectors_any (n s : Int) (w : World) : Calls Tryz.prog 107 #[gV n s] w fun e w' => e = .returned (.int .i64 (xI n s)) ∧ Kp w w' := by
  have hG := good_any n s
  cases e1 : gg n s with
  | true =>
    rw [show xI n s = 100 + s from if_pos e1]
    rw [e1] at hG
    obtain ⟨g1, g2, g3, g4⟩ := (gg_iff n s).1 e1
    clear e1
    unfold gV at hG ⊢
    go_enter Tryz.func107, Tryz.ntmps107
    go_wp2_with fail
    refine (hG _).mono ?_; rintro e w1 ⟨rfl, k1⟩
    have c0 : w1.cell? ⟨w.heap.size, 0, none⟩ = some (.int .i64 n) := k1.held (by simp)
    have c1 : w1.cell? ⟨w.heap.size, 1, none⟩ = some (.int .i64 s) := k1.held (by simp)
    have K : Kp w w1 := ((Kp.refl w).alloc _).trans k1
    clear hG k1
    go_wp2
    go_ret
    exact ⟨rfl, K⟩
  | false =>
    rw [show xI n s = 0 from if_neg (by simp [e1])]
    rw [e1] at hG
    clear e1
    unfold gV at hG ⊢
    go_enter Tryz.func107, Tryz.ntmps107
    go_wp2_with fail
    refine (hG _).mono ?_; rintro e w1 ⟨rfl, k1⟩
    have K : Kp w w1 := ((Kp.refl w).alloc _).trans k1
    clear hG k1
    go_wp2
    go_ret
    exact ⟨rfl, K⟩
theorem bI_mul (n s : Int) : dI n s * s = bI n s := by unfold dI bI; split <;> simp
theorem bI_bd (n s : Int) : 0 ≤ bI n s ∧ bI n s ≤ 1920 := by
  unfold bI
  split
  · rename_i h
    obtain ⟨g1, g2, g3, g4⟩ := (gg_iff n s).1 h
    have hm := mul_64 (a := s) (b := n - 2) (by omega) (by omega) (by omega) (by omega)
    rw [Int.mul_comm] at hm
    exact hm
  · omega
theorem dI_bd (n s : Int) : 0 ≤ dI n s ∧ dI n s ≤ 30 := by
  unfold dI
  split
  · rename_i h
    obtain ⟨g1, g2, g3, g4⟩ := (gg_iff n s).1 h
    omega
  · omega

end Go.Proofs.YtinpkfdmellleaaGreat

namespace Go.Proofs.YtinpkfdmellleaaGreat
open Go.RowKit Plain
set_option linter.unusedVariables false

theorem inR_step (l : List (Int × Int)) (k : Nat) (h : k < l.length) (hk : inR (l.take k) = true) : inR (l.take (k + 1)) = decide (0 ≤ (l.getD k (0, 0)).1 ∧ (l.getD k (0, 0)).1 < (l.getD k (0, 0)).2) := by
  unfold inR at hk ⊢
  rw [List.take_add_one, List.getElem?_eq_getElem h, List.getD_eq_getElem?_getD, List.getElem?_eq_getElem h, List.all_append, hk]
  simp
theorem inR_not (l : List (Int × Int)) (k : Nat) (h : inR (l.take k) = false) : inR l = false := by
  rw [Bool.eq_false_iff, ne_eq] at h ⊢
  intro hh
  apply h
  unfold inR at hh ⊢
  rw [List.all_eq_true] at hh ⊢
  exact fun p hp => hh p (List.mem_of_mem_take hp)
set_option maxRecDepth 100000 in
set_option maxHeartbeats 1000000 in
theorem refuse_at (n s : Int) (a : Option Addr) (b off cap : Nat) (l : List (Int × Int)) (w : World) (h : SpAt w a b off cap l) : Calls Tryz.prog 155 #[gV n s, .slice a l.length cap] w fun e w' => e = .returned (.int .i64 (rfE n s l)) ∧ Kp w w' := by
  have hG := good_any n s
  cases e1 : gg n s with
  | false =>
    rw [show rfE n s l = 4 from if_neg (by simp [e1])]
    rw [e1] at hG
    clear e1
    unfold gV at hG ⊢
    go_enter Tryz.func155, Tryz.ntmps155
    go_wp2_with fail
    refine (hG _).mono ?_; rintro e w1 ⟨rfl, k1⟩
    have K1 : Kp w w1 := ((Kp.refl w).alloc _).trans k1
    clear hG k1
    go_wp2
    go_ret
    exact ⟨rfl, K1⟩
  | true =>
    rw [show rfE n s l = (if inR l = true then 0 else 3) from if_pos e1]
    rw [e1] at hG
    clear e1
    unfold gV at hG ⊢
    obtain ⟨N, hN⟩ : ∃ N, N = l.length := ⟨_, rfl⟩
    have hm : N ≤ 9223372036854775807 := by have := h.le; have := h.mx; unfold maxLen at *; omega
    have HN : Hid (N = l.length) := hN
    have HA : Hid (SpAt w a b off cap l) := h
    have ha := h.ha
    rw [← hN] at ha ⊢
    clear h hN
    obtain ⟨R, hR⟩ : ∃ R : Int, R = (if inR l = true then 0 else 3) := ⟨_, rfl⟩
    rw [← hR]
    have HR : Hid (R = (if inR l = true then 0 else 3)) := hR
    clear hR
    go_enter Tryz.func155, Tryz.ntmps155
    go_wp2_with fail
    refine (hG _).mono ?_; rintro e w1 ⟨rfl, k1⟩
    have K1 : Kp w w1 := ((Kp.refl w).alloc _).trans k1
    clear hG k1
    go_wp2
    go_loopw [12] (fun i wr => ∃ k : Nat, k ≤ N ∧ i = .int .i64 k ∧ Hid (inR (l.take k) = true) ∧ Kp w wr) (fun i _ => N - (intOf i).toNat)
    case atStart => exact ⟨0, by omega, rfl, by show inR [] = true; rfl, K1⟩
    case round =>
      clear K1
      obtain ⟨k, hk, rfl, HG, hK⟩ := hrel
      by_cases hlt : k < N
      · obtain rfl := ha (by omega)
        have hlt2 : k < l.length := by rw [← HN.out]; exact hlt
        have c0 := hK.held (HA.out.c0 k hlt2)
        have c1 := hK.held (HA.out.c1 k hlt2)
        have HS : Hid (inR (l.take (k + 1)) = decide (0 ≤ (l.getD k (0, 0)).1 ∧ (l.getD k (0, 0)).1 < (l.getD k (0, 0)).2)) := inR_step l k hlt2 HG.out
        obtain ⟨p, hp⟩ : ∃ p, p = l.getD k (0, 0) := ⟨_, rfl⟩
        rw [← hp] at c0 c1 HS
        clear hp HG hlt2
        obtain ⟨x, y⟩ := p
        simp only at c0 c1
        by_cases h1 : 0 ≤ x
        · by_cases h2 : x < y
          · have HS2 : Hid (inR (l.take (k + 1)) = true) := by rw [HS.out]; exact decide_eq_true ⟨h1, h2⟩
            clear HS
            go_wp2
            go_roundw
            case rel => exact ⟨k + 1, by omega, by go_num, HS2, hK.alloc _⟩
            case measure => simp [intOf]; omega
          · have HF : Hid (R = 3) := by
              have hf : inR l = false := inR_not l (k + 1) (by rw [HS.out]; exact decide_eq_false (fun h => h2 h.2))
              rw [HR.out, hf]; rfl
            clear HS HR
            go_wp2
            go_ret
            exact ⟨by rw [HF.out]; rfl, hK.alloc _⟩
        · have HF : Hid (R = 3) := by
            have hf : inR l = false := inR_not l (k + 1) (by rw [HS.out]; exact decide_eq_false (fun h => h1 h.1))
            rw [HR.out, hf]; rfl
          clear HS HR
          go_wp2
          go_ret
          exact ⟨by rw [HF.out]; rfl, hK.alloc _⟩
      · obtain rfl : k = N := by omega
        have HF : Hid (R = 0) := by
          have hf : inR l = true := by have := HG.out; rwa [HN.out, List.take_length] at this
          rw [HR.out, hf]; rfl
        clear HG HR
        go_wp2
        go_ret
        exact ⟨by rw [HF.out]; rfl, hK⟩

end Go.Proofs.YtinpkfdmellleaaGreat

namespace Go.Proofs.YtinpkfdmellleaaGreat
open Go.RowKit Plain
set_option linter.unusedVariables false

theorem refuse1 (n s x y : Int) (w : World) (t : TypeId) : Calls Tryz.prog 155 #[.agg #[.int .i64 n, .int .i64 s], .slice (some ⟨w.heap.size, 0, none⟩) 1 1] (w.alloc (.cells #[.int .i64 x, .int .i64 y] t)) fun e w' => e = .returned (.int .i64 (rfE n s [(x, y)])) ∧ Kp w w' :=
  (refuse_at n s _ _ 0 1 [(x, y)] _ (SpAt.new1 w x y t)).mono fun _ _ ⟨h, k⟩ => ⟨h, ((Kp.refl w).alloc _).trans k⟩
theorem refuse2 (n s x y u v : Int) (w : World) (t : TypeId) : Calls Tryz.prog 155 #[.agg #[.int .i64 n, .int .i64 s], .slice (some ⟨w.heap.size, 0, none⟩) 2 2] (w.alloc (.cells #[.int .i64 x, .int .i64 y, .int .i64 u, .int .i64 v] t)) fun e w' => e = .returned (.int .i64 (rfE n s [(x, y), (u, v)])) ∧ Kp w w' :=
  (refuse_at n s _ _ 0 2 [(x, y), (u, v)] _ (SpAt.new2 w x y u v t)).mono fun _ _ ⟨h, k⟩ => ⟨h, ((Kp.refl w).alloc _).trans k⟩
theorem refuse1b (n s x y : Int) (w : World) (t : TypeId) (k : Nat) (hk : k = w.heap.size) : Calls Tryz.prog 155 #[.agg #[.int .i64 n, .int .i64 s], .slice (some ⟨k, 0, none⟩) 1 1] (w.alloc (.cells #[.int .i64 x, .int .i64 y] t)) fun e w' => e = .returned (.int .i64 (rfE n s [(x, y)])) ∧ Kp w w' := by
  rw [hk]; exact refuse1 n s x y w t
theorem refuse2b (n s x y u v : Int) (w : World) (t : TypeId) (k : Nat) (hk : k = w.heap.size) : Calls Tryz.prog 155 #[.agg #[.int .i64 n, .int .i64 s], .slice (some ⟨k, 0, none⟩) 2 2] (w.alloc (.cells #[.int .i64 x, .int .i64 y, .int .i64 u, .int .i64 v] t)) fun e w' => e = .returned (.int .i64 (rfE n s [(x, y), (u, v)])) ∧ Kp w w' := by
  rw [hk]; exact refuse2 n s x y u v w t
def fT (p : Int × Int × Int) : Value := .tuple #[.int .i64 p.1, .int .i64 p.2.1, .int .i64 p.2.2]
def pT (p : Int × Int) : Value := .tuple #[.int .i64 p.1, .int .i64 p.2]
theorem rf_not {n s : Int} {l : List (Int × Int)} (h : gg n s = false) : rfE n s l = 4 := if_neg (by simp [h])
theorem rf_out {n s : Int} {l : List (Int × Int)} (h : gg n s = true) (hl : ¬ inR l = true) : rfE n s l = 3 := (if_pos h).trans (if_neg hl)
theorem rf_in {n s : Int} {l : List (Int × Int)} (h : gg n s = true) (hl : inR l = true) : rfE n s l = 0 := (if_pos h).trans (if_pos hl)
set_option maxRecDepth 100000 in
set_option maxHeartbeats 2000000 in
theorem sector_any (n s t : Int) (w : World) : Calls Tryz.prog 137 #[gV n s, .int .i64 t] w fun e w' => e = .returned (pT (sec n s t)) ∧ Kp w w' := by
  obtain ⟨X, eX⟩ : ∃ X, X = sec n s t := ⟨_, rfl⟩
  rw [← eX]
  have HX : Hid (X = sec n s t) := eX
  clear eX
  unfold gV
  obtain ⟨R, eR⟩ : ∃ R, R = rfE n s [(t, s)] := ⟨_, rfl⟩
  have ER : Hid (R = rfE n s [(t, s)]) := eR
  clear eR
  go_enter Tryz.func137, Tryz.ntmps137
  go_wp2_with fail
  refine (refuse1b n s t s (w.alloc _) _ (w.heap.size + 1) (by simp)).mono ?_; rintro e w1 ⟨rfl, k1⟩
  rw [← ER.out]
  have c0 : w1.cell? ⟨w.heap.size, 0, none⟩ = some (.int .i64 n) := k1.held (by simp)
  have c1 : w1.cell? ⟨w.heap.size, 1, none⟩ = some (.int .i64 s) := k1.held (by simp)
  have KH : Hid (Kp w w1) := ((Kp.refl w).alloc _).trans k1
  clear k1
  cases e1 : gg n s with
  | false =>
    have HF : Hid (X = (0, 4)) := HX.out.trans (if_neg (by simp [e1]))
    have hR : R = 4 := ER.out.trans (rf_not e1)
    subst hR
    clear e1 ER HX
    go_wp2
    go_ret2
    exact ⟨by rw [HF.out]; rfl, KH.out⟩
  | true =>
    obtain ⟨g1, g2, g3, g4⟩ := (gg_iff n s).1 e1
    by_cases hb : 0 ≤ t ∧ t < s
    · have HF : Hid (X = (100 + t, 0)) := HX.out.trans ((if_pos e1).trans (if_pos hb))
      have hR : R = 0 := ER.out.trans (rf_in e1 ((inR_one _ _).2 hb))
      subst hR
      clear HX ER
      obtain ⟨hb1, hb2⟩ := hb
      clear e1
      go_wp2
      go_ret2
      exact ⟨by rw [HF.out]; rfl, KH.out⟩
    · have HF : Hid (X = (0, 3)) := HX.out.trans ((if_pos e1).trans (if_neg hb))
      have hR : R = 3 := ER.out.trans (rf_out e1 (by rw [(inR_one _ _)]; exact hb))
      subst hR
      clear e1 ER HX hb
      go_wp2
      go_ret2
      exact ⟨by rw [HF.out]; rfl, KH.out⟩
end Go.Proofs.YtinpkfdmellleaaGreat

namespace Go.Proofs.YtinpkfdmellleaaGreat
open Go.RowKit Plain
set_option linter.unusedVariables false

structure LB where
  n : Int
  s : Int
  ep : Int
  sts : List Int
  mks : List Int
def noL : LB := ⟨0, 0, 0, [], []⟩
/-- may a member of that state have that mark? -/
def mh (st mk s : Int) : Bool := if st = 0 ∨ st = 1 then decide (mk = 0) else if st = 2 then decide (0 ≤ mk ∧ mk < s) else false
/-- are the members good up to the k-th? -/
def mg (L : LB) (k : Nat) : Bool := decide (∀ i, i < k → mh (L.sts.getD i 0) (L.mks.getD i 0) L.s = true)
theorem mg_iff (L : LB) (k : Nat) : mg L k = true ↔ ∀ i, i < k → mh (L.sts.getD i 0) (L.mks.getD i 0) L.s = true := by simp [mg]
theorem mg_zero (L : LB) : mg L 0 = true := (mg_iff L 0).2 (fun i hi => absurd hi (by omega))
theorem mg_step (L : LB) (k : Nat) (h : mg L k = true) : mg L (k + 1) = mh (L.sts.getD k 0) (L.mks.getD k 0) L.s := by
  cases e : mh (L.sts.getD k 0) (L.mks.getD k 0) L.s with
  | true =>
    rw [mg_iff] at h ⊢
    intro i hi
    by_cases hk : i = k
    · rw [hk]; exact e
    · exact h i (by omega)
  | false =>
    rw [Bool.eq_false_iff, ne_eq, mg_iff]
    intro hh
    rw [hh k (by omega)] at e
    cases e
theorem mg_not (L : LB) (k m : Nat) (h : mg L k = false) (hk : k ≤ m) : mg L m = false := by
  rw [Bool.eq_false_iff, ne_eq, mg_iff] at h ⊢
  exact fun hh => h (fun i hi => hh i (by omega))
def lg (L : LB) : Bool := gg L.n L.s && decide (1 ≤ L.ep) && decide (L.ep ≤ 9007199254740992) && decide ((L.sts.length : Int) = L.n) && decide ((L.mks.length : Int) = L.n) && mg L L.sts.length
theorem lg_iff (L : LB) : lg L = true ↔ gg L.n L.s = true ∧ 1 ≤ L.ep ∧ L.ep ≤ 9007199254740992 ∧ (L.sts.length : Int) = L.n ∧ (L.mks.length : Int) = L.n ∧ mg L L.sts.length = true := by
  unfold lg
  simp only [Bool.and_eq_true, decide_eq_true_eq]
  constructor
  · rintro ⟨⟨⟨⟨⟨a, b⟩, c⟩, d⟩, e⟩, f⟩
    exact ⟨a, b, c, d, e, f⟩
  · rintro ⟨a, b, c, d, e, f⟩
    exact ⟨⟨⟨⟨⟨a, b⟩, c⟩, d⟩, e⟩, f⟩
theorem mh_bd {st mk s : Int} (h : mh st mk s = true) (hs : 1 ≤ s) : 0 ≤ st ∧ st ≤ 2 ∧ 0 ≤ mk ∧ mk < s ∧ (0 < mk → st = 2) := by
  unfold mh at h
  split at h
  · rename_i h1
    have h2 := of_decide_eq_true h
    omega
  · split at h
    · have h2 := of_decide_eq_true h
      omega
    · cases h
theorem mh_of {st mk s : Int} (h1 : 0 ≤ st) (h2 : st ≤ 2) (h3 : 0 ≤ mk) (h4 : mk < s) (h5 : 0 < mk → st = 2) : mh st mk s = true := by
  unfold mh
  split
  · exact decide_eq_true (by omega)
  · rw [if_pos (by omega)]; exact decide_eq_true ⟨h3, h4⟩

/-! ### the sector -/
def tr (i : Nat) : Nat := [84, 82, 85, 78].getD i 0
theorem tr_lt (i : Nat) : tr i < 256 := by
  by_cases h : i < 4
  · have h : i = 0 ∨ i = 1 ∨ i = 2 ∨ i = 3 := by omega
    rcases h with rfl | rfl | rfl | rfl <;> decide
  · unfold tr
    rw [List.getD_eq_getElem?_getD, List.getElem?_eq_none (by simp; omega)]
    decide
/-- the byte at i of a number in m bytes, the highest first. -/
def be (x m i : Nat) : Nat := x / 256 ^ (m - 1 - i) % 256
theorem be_lt (x m i : Nat) : be x m i < 256 := Nat.mod_lt _ (by omega)
def mb (L : LB) (i : Nat) : Nat := (L.sts.getD i 0 * 64 + L.mks.getD i 0).toNat
def pb (L : LB) (i : Nat) : Nat := if i < 4 then tr i else if i < 12 then be L.ep.toNat 8 (i - 4) else if i = 12 then L.n.toNat else if i = 13 then L.s.toNat else if i < 14 + L.sts.length then mb L (i - 14) else 0
def sb (L : LB) (i : Nat) : Nat := if i < 46 then pb L i else if i < 50 then be (smN (pb L) 46) 4 (i - 46) else 0
def ptS (L : LB) : ByteArray := bs 64 (sb L)
def puS (L : LB) : ByteArray := if lg L = true then ptS L else noS
def puE (L : LB) : Int := if lg L = true then 0 else 4
structure GL (L : LB) : Prop where
  n1 : 4 ≤ L.n
  n2 : L.n ≤ 32
  s1 : 1 ≤ L.s
  s2 : L.s ≤ 64
  e1 : 1 ≤ L.ep
  e2 : L.ep ≤ 9007199254740992
  l1 : (L.sts.length : Int) = L.n
  l2 : (L.mks.length : Int) = L.n
  m : ∀ i, i < L.sts.length → 0 ≤ L.sts.getD i 0 ∧ L.sts.getD i 0 ≤ 2 ∧ 0 ≤ L.mks.getD i 0 ∧ L.mks.getD i 0 < 64
theorem lg_gl {L : LB} (h : lg L = true) : GL L := by
  obtain ⟨a, b, c, d, e, f⟩ := (lg_iff L).1 h
  obtain ⟨g1, g2, g3, g4⟩ := (gg_iff _ _).1 a
  refine ⟨g1, g2, g3, g4, b, c, d, e, fun i hi => ?_⟩
  have := mh_bd ((mg_iff L _).1 f i hi) g3
  omega
theorem mb_lt {L : LB} (h : GL L) (i : Nat) (hi : i < L.sts.length) : mb L i < 256 := by
  have := h.m i hi
  unfold mb; omega
theorem pb_lt {L : LB} (h : GL L) (i : Nat) : pb L i < 256 := by
  have h1 := h.n2
  have h2 := h.s2
  unfold pb
  split
  · exact tr_lt i
  · split
    · exact be_lt _ _ _
    · split
      · omega
      · split
        · omega
        · split
          · exact mb_lt h _ (by omega)
          · omega
theorem sb_lt {L : LB} (h : GL L) (i : Nat) : sb L i < 256 := by
  unfold sb
  split
  · exact pb_lt h i
  · split
    · exact be_lt _ _ _
    · omega
theorem ptS_size (L : LB) : (ptS L).size = 64 := bs_size _ _
theorem ptS_at {L : LB} (h : GL L) (i : Nat) (hi : i < 64) : bf (ptS L) i = sb L i := bAt_bs 64 _ i hi (sb_lt h i)
theorem sm_pt {L : LB} (h : GL L) : smN (bf (ptS L)) 46 = smN (pb L) 46 := by
  unfold smN mrN
  rw [rgS_congr (g := pb L) _ _ (fun i hi => by rw [ptS_at h i (by omega)]; unfold sb; rw [if_pos hi])]

/-! ### numbers out of bytes -/
def nmN (f : Nat → Nat) : Nat → Nat
  | 0 => 0
  | k + 1 => 256 * nmN f k + f k
theorem nmN_lt (f : Nat → Nat) (hf : ∀ i, f i < 256) : ∀ k, nmN f k < 256 ^ k
  | 0 => by simp [nmN]
  | k + 1 => by
    have h1 := nmN_lt f hf k
    have h2 := hf k
    simp only [nmN]
    rw [Nat.pow_succ]; omega
theorem nmN_congr {f g : Nat → Nat} : ∀ k, (∀ i, i < k → f i = g i) → nmN f k = nmN g k
  | 0, _ => rfl
  | k + 1, h => by simp only [nmN]; rw [nmN_congr k (fun i hi => h i (by omega)), h k (by omega)]
theorem nmN_be (x m : Nat) : ∀ k, k ≤ m → nmN (be x m) k = x % 256 ^ m / 256 ^ (m - k)
  | 0, _ => by
    simp only [nmN, Nat.sub_zero]
    exact (Nat.div_eq_of_lt (Nat.mod_lt _ (Nat.pow_pos (by omega)))).symm
  | k + 1, hk => by
    have ih := nmN_be x m k (by omega)
    simp only [nmN]
    rw [ih]
    unfold be
    have e1 : m - 1 - k = m - (k + 1) := by omega
    have e2 : (256 : Nat) ^ (m - k) = 256 ^ (m - (k + 1)) * 256 := by rw [← Nat.pow_succ]; congr 1; omega
    have e3 : (256 : Nat) ^ m = 256 ^ (m - (k + 1)) * 256 ^ (k + 1) := by rw [← Nat.pow_add]; congr 1; omega
    rw [e1, e2, ← Nat.div_div_eq_div_mul]
    have e4 : x / 256 ^ (m - (k + 1)) % 256 = x % 256 ^ m / 256 ^ (m - (k + 1)) % 256 := by
      rw [e3, Nat.mod_mul_right_div_self, Nat.pow_succ, Nat.mul_comm (256 ^ k), Nat.mod_mul_right_mod]
    rw [e4]
    omega
theorem nmN_be_all (x m : Nat) (h : x < 256 ^ m) : nmN (be x m) m = x := by
  rw [nmN_be x m m (Nat.le_refl _), Nat.sub_self, Nat.pow_zero, Nat.div_one, Nat.mod_eq_of_lt h]

/-! ### what a sector says -/
def pfx : ByteArray := ⟨#[84, 82, 85, 78]⟩
def stL2 (s : ByteArray) (m : Nat) : List Int := (List.range m).map fun i => ((bf s (14 + i) / 64 : Nat) : Int)
def mkL2 (s : ByteArray) (m : Nat) : List Int := (List.range m).map fun i => ((bf s (14 + i) % 64 : Nat) : Int)
def epN (s : ByteArray) : Int := IntKind.i64.wrap ((nmN (fun i => bf s (4 + i)) 8 : Nat) : Int)
def prs (s : ByteArray) : LB := ⟨(bf s 12 : Nat), (bf s 13 : Nat), epN s, stL2 s (bf s 12), mkL2 s (bf s 12)⟩
def smE (s : ByteArray) : Prop := nmN (fun i => bf s (46 + i)) 4 = smN (bf s) 46
def okS (s : ByteArray) : Prop := lg (prs s) = true ∧ ptS (prs s) = s
open Classical in
noncomputable def gtE (s : ByteArray) : Int := if s.size = 64 ∧ s.extract 0 4 = pfx then (if smE s then (if okS s then 0 else 4) else 6) else 4
open Classical in
noncomputable def gtL (s : ByteArray) : LB := if gtE s = 0 then prs s else noL
theorem gtE_form {s : ByteArray} (h : ¬ (s.size = 64 ∧ s.extract 0 4 = pfx)) : gtE s = 4 := by unfold gtE; rw [if_neg h]
theorem gtE_sum {s : ByteArray} (h1 : s.size = 64) (h2 : s.extract 0 4 = pfx) (h : ¬ smE s) : gtE s = 6 := by unfold gtE; rw [if_pos ⟨h1, h2⟩, if_neg h]
theorem gtE_not {s : ByteArray} (h1 : s.size = 64) (h2 : s.extract 0 4 = pfx) (h3 : smE s) (h : ¬ okS s) : gtE s = 4 := by unfold gtE; rw [if_pos ⟨h1, h2⟩, if_pos h3, if_neg h]
theorem gtE_ok {s : ByteArray} (h1 : s.size = 64) (h2 : s.extract 0 4 = pfx) (h3 : smE s) (h : okS s) : gtE s = 0 := by unfold gtE; rw [if_pos ⟨h1, h2⟩, if_pos h3, if_pos h]
theorem gtL_ok {s : ByteArray} (h : gtE s = 0) : gtL s = prs s := by unfold gtL; rw [if_pos h]
theorem gtL_no {s : ByteArray} (h : gtE s ≠ 0) : gtL s = noL := by unfold gtL; rw [if_neg h]
theorem gtE_is {s : ByteArray} (h : gtE s = 0) : s.size = 64 ∧ okS s := by
  unfold gtE at h
  split at h
  · rename_i h1
    split at h
    · split at h
      · rename_i h3
        exact ⟨h1.1, h3⟩
      · cases h
    · cases h
  · cases h
theorem gtL_ep {s : ByteArray} (h : gtE s = 0) : 1 ≤ (gtL s).ep := by
  rw [gtL_ok h]
  exact (lg_gl (gtE_is h).2.1).e1

/-! ### there and back -/
theorem list_of (l : List Int) (m : Nat) (g : Nat → Int) (hl : l.length = m) (h : ∀ i, i < m → g i = l.getD i 0) : (List.range m).map g = l := by
  apply List.ext_getElem?
  intro i
  rw [List.getElem?_map]
  by_cases hi : i < m
  · rw [List.getElem?_range hi, List.getElem?_eq_getElem (by omega)]
    have := h i hi
    rw [List.getD_eq_getElem?_getD, List.getElem?_eq_getElem (by omega)] at this
    simpa using this
  · rw [List.getElem?_eq_none (by simpa using hi), List.getElem?_eq_none (by omega)]; rfl
theorem prs_pt {L : LB} (h : GL L) : prs (ptS L) = L := by
  obtain ⟨n1, n2, s1, s2, e1, e2, l1, l2, m⟩ := h
  have h : GL L := ⟨n1, n2, s1, s2, e1, e2, l1, l2, m⟩
  have b12 : bf (ptS L) 12 = L.n.toNat := by rw [ptS_at h 12 (by omega)]; rfl
  have b13 : bf (ptS L) 13 = L.s.toNat := by rw [ptS_at h 13 (by omega)]; rfl
  have bm : ∀ i, i < L.sts.length → bf (ptS L) (14 + i) = mb L i := fun i hi => by
    rw [ptS_at h _ (by omega)]
    unfold sb pb
    rw [if_pos (by omega), if_neg (by omega), if_neg (by omega), if_neg (by omega), if_neg (by omega), if_pos (by omega)]
    congr 1; omega
  have hep : epN (ptS L) = L.ep := by
    unfold epN
    rw [nmN_congr (g := be L.ep.toNat 8) 8 (fun i hi => by
      rw [ptS_at h _ (by omega)]
      unfold sb pb
      rw [if_pos (by omega), if_neg (by omega), if_pos (by omega)]
      congr 1; omega), nmN_be_all _ _ (by
        have : (256 : Nat) ^ 8 = 18446744073709551616 := by decide +kernel
        omega), IntKind.wrap_i64]
    omega
  have q1 : stL2 (ptS L) (bf (ptS L) 12) = L.sts := by
    rw [b12]
    refine list_of _ _ _ (by omega) (fun i hi => ?_)
    rw [bm i (by omega)]
    have := m i (by omega)
    unfold mb; omega
  have q2 : mkL2 (ptS L) (bf (ptS L) 12) = L.mks := by
    rw [b12]
    refine list_of _ _ _ (by omega) (fun i hi => ?_)
    rw [bm i (by omega)]
    have := m i (by omega)
    unfold mb; omega
  unfold prs
  rw [hep, q1, q2, b12, b13]
  cases L
  simp only [LB.mk.injEq, and_true]
  simp only at n1 s1
  omega
theorem pt_pfx {L : LB} (h : GL L) : (ptS L).extract 0 4 = pfx := by
  apply bs_ext
  · rw [extract_size _ _ _ (by rw [ptS_size]; omega)]; rfl
  · intro i hi
    rw [extract_size _ _ _ (by rw [ptS_size]; omega)] at hi
    rw [bAt_extract _ _ _ _ (by rw [ptS_size]; omega) (by omega)]
    have := ptS_at h (0 + i) (by omega)
    unfold bf at this
    rw [this]
    have hh : i = 0 ∨ i = 1 ∨ i = 2 ∨ i = 3 := by omega
    rcases hh with rfl | rfl | rfl | rfl <;> rfl
theorem pt_sum {L : LB} (h : GL L) : smE (ptS L) := by
  unfold smE
  rw [sm_pt h, nmN_congr (g := be (smN (pb L) 46) 4) 4 (fun i hi => by
    rw [ptS_at h _ (by omega)]
    unfold sb
    rw [if_neg (by omega), if_pos (by omega)]
    congr 1; omega), nmN_be_all _ _ (by
      have h1 := smN_lt (pb L) (pb_lt h) 46
      have : (256 : Nat) ^ 4 = 4294967296 := by decide +kernel
      omega)]
theorem gt_pt {L : LB} (h : lg L = true) : gtE (ptS L) = 0 ∧ gtL (ptS L) = L := by
  have hg := lg_gl h
  have h1 : gtE (ptS L) = 0 := gtE_ok (ptS_size L) (pt_pfx hg) (pt_sum hg) ⟨by rw [prs_pt hg]; exact h, by rw [prs_pt hg]⟩
  exact ⟨h1, by rw [gtL_ok h1, prs_pt hg]⟩

/-! ### a byte that is another one -/
def on1 (j y i : Nat) : Nat := if i = j then y else 0
theorem rg_on1 (j y : Nat) : ∀ n, rgS (on1 j y) 0 n = if j < n then tI y (8 * (n - j)) else 0
  | 0 => by simp [rgS]
  | n + 1 => by
    simp only [rgS]
    rw [rg_on1 j y n]
    by_cases h1 : j < n
    · have h0 : on1 j y n = 0 := by unfold on1; rw [if_neg (by omega)]
      rw [if_pos h1, if_pos (by omega), h0, Nat.xor_zero, ← tI_add]
      congr 1; omega
    · rw [if_neg h1, Nat.zero_xor]
      by_cases h2 : j = n
      · have h0 : on1 j y n = y := by unfold on1; rw [if_pos h2.symm]
        rw [if_pos (by omega), h0]
        congr 1; omega
      · have h0 : on1 j y n = 0 := by unfold on1; rw [if_neg (by omega)]
        rw [if_neg (by omega), h0]
        exact tI_nought 8
theorem sm_on1 (f g : Nat → Nat) (j n : Nat) (hj : j < n) (hf : f j < 256) (hg : g j < 256) (h : ∀ i, i < n → i ≠ j → f i = g i) (he : smN f n = smN g n) : f j = g j := by
  have hy : f j ^^^ g j < 4294967296 := xor32 _ _ (by omega) (by omega)
  have h1 : rgS f (nt 0) n = rgS g (nt 0) n ^^^ tI (f j ^^^ g j) (8 * (n - j)) := by
    have := rgS_lin g (on1 j (f j ^^^ g j)) (nt 0) 0 n
    rw [rg_on1, if_pos hj, Nat.xor_zero] at this
    rw [← this]
    refine rgS_congr _ _ (fun i hi => ?_)
    unfold on1
    by_cases hij : i = j
    · rw [if_pos hij, hij, Nat.xor_comm (f j), xor_back]
    · rw [if_neg hij, Nat.xor_zero]; exact h i hi hij
  have h2 : rgS f (nt 0) n = rgS g (nt 0) n := nt_inj he
  rw [h2] at h1
  have h3 := congrArg (fun z => rgS g (nt 0) n ^^^ z) h1
  simp only [← Nat.xor_assoc, Nat.xor_self, Nat.zero_xor] at h3
  have h4 := tI_none _ hy _ h3.symm
  have h5 := congrArg (fun z => f j ^^^ z) h4
  simp only [xor_back, Nat.xor_zero] at h5
  exact h5.symm
theorem be_inj {x y m : Nat} (hx : x < 256 ^ m) (hy : y < 256 ^ m) (h : ∀ i, i < m → be x m i = be y m i) : x = y := by
  rw [← nmN_be_all x m hx, ← nmN_be_all y m hy]
  exact nmN_congr m h
/-- two sectors of good labels that part in one byte at most are one. -/
theorem pt_one {L M : LB} (hL : GL L) (hM : GL M) (j : Nat) (hj : j < 64) (h : ∀ i, i < 64 → i ≠ j → sb L i = sb M i) : sb L j = sb M j := by
  have e4 : (256 : Nat) ^ 4 = 4294967296 := by decide +kernel
  have sl := smN_lt (pb L) (pb_lt hL) 46
  have sm := smN_lt (pb M) (pb_lt hM) 46
  by_cases h1 : j < 46
  · have hs : smN (pb L) 46 = smN (pb M) 46 := be_inj (m := 4) (by omega) (by omega) (fun i hi => by
      have := h (46 + i) (by omega) (by omega)
      unfold sb at this
      rw [if_neg (by omega), if_pos (by omega), if_neg (by omega), if_pos (by omega)] at this
      rw [show 46 + i - 46 = i by omega] at this
      exact this)
    have := sm_on1 (pb L) (pb M) j 46 h1 (pb_lt hL j) (pb_lt hM j) (fun i hi hne => by
      have := h i (by omega) hne
      unfold sb at this
      rw [if_pos hi, if_pos hi] at this
      exact this) hs
    unfold sb
    rw [if_pos h1, if_pos h1, this]
  · have hs : smN (pb L) 46 = smN (pb M) 46 := by
      unfold smN mrN
      rw [rgS_congr (g := pb M) _ _ (fun i hi => by
        have := h i (by omega) (by omega)
        unfold sb at this
        rw [if_pos hi, if_pos hi] at this
        exact this)]
    unfold sb
    rw [if_neg h1, if_neg h1, hs]
/-- a sector with one byte another one is none. -/
theorem gt_turned {L : LB} (h : lg L = true) (j x : Nat) (hj : j < 64) (hx : x < 256) : gtE (bs 64 (fun i => if i = j then x else sb L i)) = 0 ↔ x = sb L j := by
  have hg := lg_gl h
  constructor
  · intro h0
    obtain ⟨_, h1, h2⟩ := gtE_is h0
    have hg2 := lg_gl h1
    have hb : ∀ i, i < 64 → sb (prs (bs 64 (fun i => if i = j then x else sb L i))) i = if i = j then x else sb L i := fun i hi => by
      rw [← ptS_at hg2 i hi, h2]
      exact bAt_bs 64 _ i hi (by
        show (if i = j then x else sb L i) < 256
        split
        · exact hx
        · exact sb_lt hg i)
    have := pt_one hg2 hg j hj (fun i hi hne => by rw [hb i hi, if_neg hne])
    rw [hb j hj, if_pos rfl] at this
    exact this
  · intro hx2
    have : bs 64 (fun i => if i = j then x else sb L i) = ptS L := bs_congr fun i hi => by
      show (if i = j then x else sb L i) = sb L i
      split
      · rename_i e; rw [hx2, e]
      · rfl
    rw [this]
    exact (gt_pt h).1

/-! ### what is asked of a label -/
def wh (L : LB) (m t : Int) : Bool := lg L && decide (0 ≤ m ∧ m < L.n) && decide (0 ≤ t ∧ t < L.s) && (decide (L.sts.getD m.toNat 0 = 0) || (decide (L.sts.getD m.toNat 0 = 2) && decide (t < L.mks.getD m.toNat 0)))
def mcL9 (l : List Int) : Nat := (l.filter (fun x => decide (x ≠ 0))).length
theorem mc_step (l : List Int) (k : Nat) (h : k < l.length) : mcL9 (l.take (k + 1)) = mcL9 (l.take k) + (if l.getD k 0 = 0 then 0 else 1) := by
  unfold mcL9
  rw [List.take_add_one, List.getElem?_eq_getElem h, List.filter_append, List.length_append, List.getD_eq_getElem?_getD, List.getElem?_eq_getElem h]
  by_cases h0 : l[k] = 0
  · simp [h0]
  · simp [h0]
theorem mc_le (l : List Int) : mcL9 l ≤ l.length := List.length_filter_le _ _
def ms (L : LB) : Nat := if lg L = true then mcL9 L.sts else 0
open Classical in
/-- the newest label of the first k sectors. -/
noncomputable def nwL (l : List ByteArray) : Nat → LB
  | 0 => noL
  | k + 1 => if gtE (l.getD k noS) = 0 ∧ (nwL l k).ep < (gtL (l.getD k noS)).ep then gtL (l.getD k noS) else nwL l k
open Classical in
noncomputable def nwF (l : List ByteArray) : Nat → Bool
  | 0 => false
  | k + 1 => if gtE (l.getD k noS) = 0 ∧ (nwL l k).ep < (gtL (l.getD k noS)).ep then true else nwF l k
theorem nw_none (l : List ByteArray) : ∀ k, nwF l k = false → nwL l k = noL
  | 0, _ => rfl
  | k + 1, h => by
    simp only [nwF] at h
    simp only [nwL]
    split at h
    · cases h
    · rename_i h1
      rw [if_neg h1]
      exact nw_none l k h
theorem nw_no {l : List ByteArray} {k : Nat} (h : ¬ (gtE (l.getD k noS) = 0 ∧ (nwL l k).ep < (gtL (l.getD k noS)).ep)) : nwL l (k + 1) = nwL l k ∧ nwF l (k + 1) = nwF l k := by
  simp only [nwL, nwF]
  rw [if_neg h, if_neg h]; exact ⟨rfl, rfl⟩
theorem nw_yes {l : List ByteArray} {k : Nat} (h : gtE (l.getD k noS) = 0 ∧ (nwL l k).ep < (gtL (l.getD k noS)).ep) : nwL l (k + 1) = gtL (l.getD k noS) ∧ nwF l (k + 1) = true := by
  simp only [nwL, nwF]
  rw [if_pos h, if_pos h]; exact ⟨rfl, rfl⟩

end Go.Proofs.YtinpkfdmellleaaGreat

namespace Go.Proofs.YtinpkfdmellleaaGreat
open Go.RowKit Plain
set_option linter.unusedVariables false

/-- numbers in memory. -/
structure Na (w : World) (a : Option Addr) (g off cap : Nat) (l : List Int) : Prop where
  le : l.length ≤ cap
  mx : cap ≤ 9223372036854775807
  ha : 0 < l.length → a = some ⟨g, off, none⟩
  c : ∀ j, j < l.length → w.cell? ⟨g, off + j, none⟩ = some (.int .i64 (l.getD j 0))
def Nl (w : World) (v : Value) (l : List Int) : Prop := ∃ a g off cap, v = .slice a l.length cap ∧ Na w a g off cap l
theorem Na.kept {w w' : World} {a : Option Addr} {g off cap : Nat} {l : List Int} (h : Na w a g off cap l) (k : Kp w w') : Na w' a g off cap l := ⟨h.le, h.mx, h.ha, fun j hj => k.held (h.c j hj)⟩
theorem Nl.kept {w w' : World} {v : Value} {l : List Int} (h : Nl w v l) (k : Kp w w') : Nl w' v l := by
  obtain ⟨a, g, off, cap, rfl, h⟩ := h
  exact ⟨a, g, off, cap, rfl, h.kept k⟩
theorem Nl.nil (w : World) : Nl w (.slice none 0 0) [] := ⟨none, 0, 0, 0, rfl, ⟨by simp, by omega, fun h => absurd h (by simp), fun j hj => absurd hj (by simp)⟩⟩
theorem Nl.of {w : World} {v : Value} {l : List Int} (h : InI w v l) : Nl w v l := by
  obtain ⟨a, g, cap, rfl, h1, h2, h3, h4⟩ := h
  exact ⟨a, g, 0, cap, rfl, ⟨h1, h2, h3, fun j hj => by rw [Nat.zero_add]; exact h4 j hj⟩⟩
/-- a row of numbers of the call's own, whatever the type of its elements. -/
def Fe (e : TypeId) (w : World) (base : Nat) (v : Value) (n : Nat) (f : Nat → Int) : Prop := w.ownsRow base e 1 v n ((List.range n).map fun i => Value.int .i64 (f i))
theorem Fe.kept {e : TypeId} {w w' : World} {base : Nat} {v : Value} {n : Nat} {f : Nat → Int} (h : Fe e w base v n f) (k : Kp w w') : Fe e w' base v n f := k.own h
theorem Fe.shape {e : TypeId} {w : World} {base : Nat} {v : Value} {n : Nat} {f : Nat → Int} (h : Fe e w base v n f) : ∃ a cap, v = .slice a n cap ∧ n ≤ cap ∧ cap ≤ 9223372036854775807 ∧ (0 < n → ∃ g, a = some ⟨g, 0, none⟩ ∧ base ≤ g ∧ g < w.heap.size) := by
  rcases h.2 with ⟨rfl, rfl⟩ | ⟨g, cap, cur, rfl, hb, hg, hn, hm, _⟩
  · exact ⟨none, 0, rfl, by omega, by omega, fun h => absurd h (by omega)⟩
  · unfold maxLen at hm
    exact ⟨_, cap, rfl, hn, by omega, fun _ => ⟨g, rfl, hb, (Array.getElem?_eq_some_iff.1 hg).1⟩⟩
theorem Fe.at {e : TypeId} {w : World} {base g n cap : Nat} {f : Nat → Int} (h : Fe e w base (.slice (some ⟨g, 0, none⟩) n cap) n f) (j : Nat) (hj : j < n) : w.cell? ⟨g, j, none⟩ = some (.int .i64 (f j)) := by
  rw [World.ownsRow.cellAt h j (by omega)]
  simp [hj]
theorem Fe.z {e : TypeId} {w : World} {base g n cap : Nat} {f : Nat → Int} (h : Fe e w base (.slice (some ⟨g, 0, none⟩) n cap) n f) (o : Nat) : w.frozen? ⟨g, o, none⟩ = false := World.ownsRow.frozenAt h o
theorem Fe.set {e : TypeId} {w : World} {base g n cap : Nat} {f : Nat → Int} (h : Fe e w base (.slice (some ⟨g, 0, none⟩) n cap) n f) (j : Nat) (x : Int) : Fe e (w.setCell ⟨g, j, none⟩ (.int .i64 x)) base (.slice (some ⟨g, 0, none⟩) n cap) n (fun i => if i = j then x else f i) := by
  have h1 := (World.ownsRow.stored h j (.int .i64 x)).1
  have e : ((List.range n).map fun i => Value.int .i64 (if i = j then x else f i)) = ((List.range n).map fun i => Value.int .i64 (f i)).set j (.int .i64 x) := by
    apply List.ext_getElem?
    intro i
    rw [List.getElem?_set, List.getElem?_map, List.getElem?_map, List.length_map, List.length_range]
    by_cases hi : i < n
    · rw [List.getElem?_range hi]
      by_cases e : j = i
      · subst e; simp [hi]
      · have : ¬ i = j := fun h => e h.symm
        simp [e, this]
    · rw [List.getElem?_eq_none (by simpa using hi)]
      by_cases e : j = i
      · subst e; simp [hi]
      · simp [e]
  unfold Fe
  rw [e]
  exact h1
theorem Fe.congr {e : TypeId} {w : World} {base : Nat} {v : Value} {n : Nat} {f g : Nat → Int} (h : Fe e w base v n f) (he : ∀ j, j < n → f j = g j) : Fe e w base v n g := by
  have : ((List.range n).map fun i => Value.int .i64 (g i)) = (List.range n).map fun i => Value.int .i64 (f i) := List.map_congr_left fun i hi => by rw [he i (by simpa using hi)]
  unfold Fe
  rw [this]
  exact h
theorem Fe.made (e : TypeId) (w : World) (n : Nat) (hn : n ≤ 1000) : Fe e (w.alloc (.cells (madeCells #[.int .i64 0] n) e)) w.heap.size (.slice (some ⟨w.heap.size, 0, none⟩) n n) n (fun _ => 0) := by
  refine ⟨by simp, .inr ⟨w.heap.size, n, _, rfl, Nat.le_refl _, heap_alloc_new w _, Nat.le_refl _, by unfold maxLen; omega, by rw [size_madeCells]; simp, ?_⟩⟩
  apply List.ext_getElem?
  intro i
  by_cases hi : i < n
  · simp [madeCells, hi, Nat.mod_one]
  · simp [madeCells, hi, Nat.mod_one]
theorem Fe.nums {e : TypeId} {w : World} {base : Nat} {v : Value} {n : Nat} {f : Nat → Int} (h : Fe e w base v n f) : Nl w v ((List.range n).map f) := by
  obtain ⟨a, cap, rfl, h1, h2, h3⟩ := h.shape
  by_cases h0 : 0 < n
  · obtain ⟨g, rfl, _⟩ := h3 h0
    exact ⟨_, g, 0, cap, by simp, ⟨by simpa using h1, h2, fun _ => rfl, fun j hj => by
      have hj2 : j < n := by simpa using hj
      rw [Nat.zero_add, h.at j hj2]; simp [List.getD_eq_getElem?_getD, hj2]⟩⟩
  · obtain rfl : n = 0 := by omega
    exact ⟨a, 0, 0, cap, rfl, ⟨by simp, h2, fun h => absurd h (by simp), fun j hj => absurd hj (by simp)⟩⟩
theorem Fe.mono {e : TypeId} {w : World} {base b2 : Nat} {v : Value} {n : Nat} {f : Nat → Int} (h : Fe e w base v n f) (hb : b2 ≤ base) : Fe e w b2 v n f := by
  refine ⟨h.1, ?_⟩
  rcases h.2 with h' | ⟨g, cap, cur, h', hb', hr⟩
  · exact .inl h'
  · exact .inr ⟨g, cap, cur, h', by omega, hr⟩

/-! ### labels -/
def lV (n s ep : Int) (sv mv : Value) : Value := .agg #[.int .i64 n, .int .i64 s, .int .i64 ep, sv, mv]
/-- the five cells at block b. -/
structure Lc (w : World) (b : Nat) (n s ep : Int) (sv mv : Value) : Prop where
  c0 : w.cell? ⟨b, 0, none⟩ = some (.int .i64 n)
  c1 : w.cell? ⟨b, 1, none⟩ = some (.int .i64 s)
  c2 : w.cell? ⟨b, 2, none⟩ = some (.int .i64 ep)
  c3 : w.cell? ⟨b, 3, none⟩ = some sv
  c4 : w.cell? ⟨b, 4, none⟩ = some mv
theorem Lc.kept {w w' : World} {b : Nat} {n s ep : Int} {sv mv : Value} (h : Lc w b n s ep sv mv) (k : Kp w w') : Lc w' b n s ep sv mv := ⟨k.held h.c0, k.held h.c1, k.held h.c2, k.held h.c3, k.held h.c4⟩
theorem Lc.new (w : World) (n s ep : Int) (sv mv : Value) (t : TypeId) : Lc (w.alloc (.cells #[.int .i64 n, .int .i64 s, .int .i64 ep, sv, mv] t)) w.heap.size n s ep sv mv := by
  refine ⟨?_, ?_, ?_, ?_, ?_⟩ <;> (rw [World.cell?_alloc_at _ _ _ _ rfl]; rfl)
theorem load_cells {P : Program} {w : World} {b : Nat} (l : List Value) (h : ∀ j v, l[j]? = some v → w.cell? ⟨b, j, none⟩ = some v) (ty : TypeId) (fs : Array Field) (hu : P.underlying ty = some (.struct fs)) (hi : (P.info? ty).map (·.size) = some l.length) :
    (loadVar ty ⟨b, 0, none⟩).run P w = .ok (.agg l.toArray) w := by
  have hl : (loadCells ⟨b, 0, none⟩ l.length).run P w = .ok l.toArray w :=
    run_loadCells_list (P := P) w ⟨b, 0, none⟩ l (fun j x hx => by
      have hadd : (⟨b, 0, none⟩ : Addr).add j = ⟨b, j, none⟩ := by unfold Addr.add; split <;> simp_all
      rw [hadd]
      exact h j x hx)
  cases hq : P.info? ty with
  | none => simp [hq] at hi
  | some i =>
    have hs : i.size = l.length := by simpa [hq] using hi
    have hagg : (isAgg ty).run P w = .ok true w := by
      unfold isAgg
      rw [Sem.run_bind, run_underlying hu w]
      rfl
    simp [loadVar, Sem.run_bind, hagg, sizeOf, typeInfo, hq, hs, hl]
theorem size_lb : (Tryz.prog.info? 63).map (·.size) = some 5 := by kernel_rfl
theorem size_rl : (Tryz.prog.info? 66).map (·.size) = some 5 := by kernel_rfl
theorem Lc.at {w : World} {b : Nat} {n s ep : Int} {sv mv : Value} (h : Lc w b n s ep sv mv) (j : Nat) (v : Value) (hv : [Value.int .i64 n, .int .i64 s, .int .i64 ep, sv, mv][j]? = some v) : w.cell? ⟨b, j, none⟩ = some v := by
  match j, hv with
  | 0, hv => simp at hv; rw [← hv]; exact h.c0
  | 1, hv => simp at hv; rw [← hv]; exact h.c1
  | 2, hv => simp at hv; rw [← hv]; exact h.c2
  | 3, hv => simp at hv; rw [← hv]; exact h.c3
  | 4, hv => simp at hv; rw [← hv]; exact h.c4
theorem Lc.load {w : World} {b : Nat} {n s ep : Int} {sv mv : Value} (h : Lc w b n s ep sv mv) : (loadVar 63 ⟨b, 0, none⟩).run Tryz.prog w = .ok (lV n s ep sv mv) w :=
  load_cells [.int .i64 n, .int .i64 s, .int .i64 ep, sv, mv] h.at 63 _ Tryz.underlying63 size_lb
theorem Lc.rload {w : World} {b : Nat} {n s ep : Int} {sv mv : Value} (h : Lc w b n s ep sv mv) : (loadVar 66 ⟨b, 0, none⟩).run Tryz.prog w = .ok (lV n s ep sv mv) w :=
  load_cells [.int .i64 n, .int .i64 s, .int .i64 ep, sv, mv] h.at 66 _ Tryz.underlying66 size_rl
theorem results_lb {fn : Func} {t : Tmp} (h : fn.results = #[.cell t 63]) (tmps : Array Value) (w : World) (b : Nat) {n s ep : Int} {sv mv : Value} (hp : tmps.getD t undef = .pointer (some ⟨b, 0, none⟩)) (h0 : Lc w b n s ep sv mv) :
    (results fn tmps).run Tryz.prog w = .ok (lV n s ep sv mv) w := by
  have hp' : tmps[t]?.getD undef = .pointer (some ⟨b, 0, none⟩) := by simpa using hp
  simp [results, h, hp', asAddr, h0.load]
theorem results_lb2 {fn : Func} {t u : Tmp} (h : fn.results = #[.cell t 63, .tmp u]) (tmps : Array Value) (w : World) (b : Nat) {n s ep : Int} {sv mv x : Value} (hp : tmps.getD t undef = .pointer (some ⟨b, 0, none⟩)) (hx : tmps.getD u undef = x) (h0 : Lc w b n s ep sv mv) :
    (results fn tmps).run Tryz.prog w = .ok (.tuple #[lV n s ep sv mv, x]) w := by
  rw [results_cell_tmp h]
  rw [hp, hx]
  simp [asAddr, h0.load]
theorem results_rl2 {fn : Func} {t u : Tmp} (h : fn.results = #[.cell t 66, .tmp u]) (tmps : Array Value) (w : World) (b : Nat) {n s ep : Int} {sv mv x : Value} (hp : tmps.getD t undef = .pointer (some ⟨b, 0, none⟩)) (hx : tmps.getD u undef = x) (h0 : Lc w b n s ep sv mv) :
    (results fn tmps).run Tryz.prog w = .ok (.tuple #[lV n s ep sv mv, x]) w := by
  rw [results_cell_tmp h]
  rw [hp, hx]
  simp [asAddr, h0.rload]
theorem results_both {fn : Func} {t u : Tmp} (h : fn.results = #[.cell t 63, .cell u 66]) (tmps : Array Value) (w : World) (b c : Nat) {n s ep n2 s2 ep2 : Int} {sv mv sv2 mv2 : Value} (hp : tmps.getD t undef = .pointer (some ⟨b, 0, none⟩)) (hx : tmps.getD u undef = .pointer (some ⟨c, 0, none⟩)) (h0 : Lc w b n s ep sv mv) (h1 : Lc w c n2 s2 ep2 sv2 mv2) :
    (results fn tmps).run Tryz.prog w = .ok (.tuple #[lV n s ep sv mv, lV n2 s2 ep2 sv2 mv2]) w := by
  have hp' : tmps[t]?.getD undef = .pointer (some ⟨b, 0, none⟩) := by simpa using hp
  have hx' : tmps[u]?.getD undef = .pointer (some ⟨c, 0, none⟩) := by simpa using hx
  simp [results, h, hp', hx', asAddr, h0.load, h1.rload]

end Go.Proofs.YtinpkfdmellleaaGreat

namespace Go.Proofs.YtinpkfdmellleaaGreat
open Go.RowKit Plain
set_option linter.unusedVariables false

set_option maxRecDepth 100000 in
theorem mayHave_any (st mk s : Int) (w : World) : Calls Tryz.prog 87 #[.int .i64 st, .int .i64 mk, .int .i64 s] w fun e w' => e = .returned (.bool (mh st mk s)) ∧ w' = w := by
  by_cases h0 : st = 0
  · have HM : Hid (mh st mk s = (mk == 0)) := by show mh st mk s = _; unfold mh; rw [if_pos (Or.inl h0)]; by_cases h : mk = 0 <;> simp [h]
    have e0 : (st == 0) = true := beq_iff_eq.2 h0
    clear h0
    go_enter Tryz.func87, Tryz.ntmps87
    go_wp2
    go_ret
    exact ⟨by rw [HM.out]; rfl, rfl⟩
  · have e0 : (st == 0) = false := beq_eq_false_iff_ne.2 h0
    by_cases h1 : st = 1
    · have HM : Hid (mh st mk s = (mk == 0)) := by show mh st mk s = _; unfold mh; rw [if_pos (Or.inr h1)]; by_cases h : mk = 0 <;> simp [h]
      have e1 : (st == 1) = true := beq_iff_eq.2 h1
      clear h0 h1
      go_enter Tryz.func87, Tryz.ntmps87
      go_wp2
      go_ret
      exact ⟨by rw [HM.out]; rfl, rfl⟩
    · have e1 : (st == 1) = false := beq_eq_false_iff_ne.2 h1
      by_cases h2 : st = 2
      · have e2 : (st == 2) = true := beq_iff_eq.2 h2
        by_cases h3 : 0 ≤ mk
        · by_cases h4 : mk < s
          · have HM : Hid (mh st mk s = true) := by show mh st mk s = _; unfold mh; rw [if_neg (by omega), if_pos h2]; exact decide_eq_true ⟨h3, h4⟩
            clear h0 h1 h2
            go_enter Tryz.func87, Tryz.ntmps87
            go_wp2
            go_ret
            exact ⟨by rw [HM.out]; rfl, rfl⟩
          · have HM : Hid (mh st mk s = false) := by show mh st mk s = _; unfold mh; rw [if_neg (by omega), if_pos h2]; exact decide_eq_false (fun h => h4 h.2)
            clear h0 h1 h2
            go_enter Tryz.func87, Tryz.ntmps87
            go_wp2
            go_ret
            exact ⟨by rw [HM.out]; rfl, rfl⟩
        · have HM : Hid (mh st mk s = false) := by show mh st mk s = _; unfold mh; rw [if_neg (by omega), if_pos h2]; exact decide_eq_false (fun h => h3 h.1)
          clear h0 h1 h2
          go_enter Tryz.func87, Tryz.ntmps87
          go_wp2
          go_ret
          exact ⟨by rw [HM.out]; rfl, rfl⟩
      · have e2 : (st == 2) = false := beq_eq_false_iff_ne.2 h2
        have HM : Hid (mh st mk s = false) := by show mh st mk s = _; unfold mh; rw [if_neg (by omega), if_neg h2]
        clear h0 h1 h2
        go_enter Tryz.func87, Tryz.ntmps87
        go_wp2
        go_ret
        exact ⟨by rw [HM.out]; rfl, rfl⟩
set_option maxRecDepth 100000 in
set_option maxHeartbeats 2000000 in
theorem lgood_any (L : LB) (sv mv : Value) (w : World) (h1 : Nl w sv L.sts) (h2 : Nl w mv L.mks) : Calls Tryz.prog 37 #[lV L.n L.s L.ep sv mv] w fun e w' => e = .returned (.bool (lg L)) ∧ Kp w w' := by
  have hG := good_any L.n L.s
  obtain ⟨X, eX⟩ : ∃ X, X = lg L := ⟨_, rfl⟩
  rw [← eX]
  have HX : Hid (X = lg L) := eX
  have HI := lg_iff L
  have HS : Hid (∀ k, mg L k = true → mg L (k + 1) = mh (L.sts.getD k 0) (L.mks.getD k 0) L.s) := mg_step L
  have HN : Hid (∀ k m, mg L k = false → k ≤ m → mg L m = false) := mg_not L
  have HZ : Hid (mg L 0 = true) := mg_zero L
  obtain ⟨a1, g1, o1, p1, rfl, A1⟩ := h1
  obtain ⟨a2, g2, o2, p2, rfl, A2⟩ := h2
  obtain ⟨n, s, ep, sts, mks⟩ := L
  simp only at *
  obtain ⟨N1, hN1⟩ : ∃ N, N = sts.length := ⟨_, rfl⟩
  obtain ⟨N2, hN2⟩ : ∃ N, N = mks.length := ⟨_, rfl⟩
  have i1 := A1.ha
  have i2 := A2.ha
  have m1 : N1 ≤ 9223372036854775807 := by have := A1.le; have := A1.mx; omega
  have m2 : N2 ≤ 9223372036854775807 := by have := A2.le; have := A2.mx; omega
  rw [← hN1] at HI i1 ⊢
  rw [← hN2] at HI i2 ⊢
  have HA1 : Hid (Na w a1 g1 o1 p1 sts) := A1
  have HA2 : Hid (Na w a2 g2 o2 p2 mks) := A2
  have HN1 : Hid (N1 = sts.length) := hN1
  have HN2 : Hid (N2 = mks.length) := hN2
  have HI2 : Hid (lg ⟨n, s, ep, sts, mks⟩ = true ↔ gg n s = true ∧ 1 ≤ ep ∧ ep ≤ 9007199254740992 ∧ (N1 : Int) = n ∧ (N2 : Int) = n ∧ mg ⟨n, s, ep, sts, mks⟩ N1 = true) := HI
  clear eX HI A1 A2 hN1 hN2
  unfold lV
  cases e1 : gg n s with
  | false =>
    have HF : Hid (X = false) := by rw [HX.out, Bool.eq_false_iff, ne_eq, HI2.out]; exact fun h => (by rw [e1] at h; exact absurd h.1 (by simp))
    rw [e1] at hG
    clear e1
    unfold gV at hG
    go_enter Tryz.func37, Tryz.ntmps37
    go_wp2_with fail
    refine (hG _).mono ?_; rintro e w1 ⟨rfl, k1⟩
    have K1 : Kp w w1 := ((Kp.refl w).alloc _).trans k1
    clear hG k1
    go_wp2
    go_ret
    exact ⟨by rw [HF.out]; rfl, K1⟩
  | true =>
  rw [e1] at hG
  have HG : Hid (gg n s = true) := e1
  clear e1
  unfold gV at hG
  by_cases he1 : 1 ≤ ep
  case neg =>
    have HF : Hid (X = false) := by rw [HX.out, Bool.eq_false_iff, ne_eq, HI2.out]; exact fun h => he1 h.2.1
    go_enter Tryz.func37, Tryz.ntmps37
    go_wp2_with fail
    refine (hG _).mono ?_; rintro e w1 ⟨rfl, k1⟩
    have c0 : w1.cell? ⟨w.heap.size, 0, none⟩ = some (.int .i64 n) := k1.held (by simp)
    have c1 : w1.cell? ⟨w.heap.size, 1, none⟩ = some (.int .i64 s) := k1.held (by simp)
    have c2 : w1.cell? ⟨w.heap.size, 2, none⟩ = some (.int .i64 ep) := k1.held (by simp)
    have c3 : w1.cell? ⟨w.heap.size, 3, none⟩ = some (.slice a1 N1 p1) := k1.held (by simp)
    have c4 : w1.cell? ⟨w.heap.size, 4, none⟩ = some (.slice a2 N2 p2) := k1.held (by simp)
    have K1 : Kp w w1 := ((Kp.refl w).alloc _).trans k1
    clear hG k1
    go_wp2
    go_ret
    exact ⟨by rw [HF.out]; rfl, K1⟩
  by_cases he2 : ep ≤ 9007199254740992
  case neg =>
    have HF : Hid (X = false) := by rw [HX.out, Bool.eq_false_iff, ne_eq, HI2.out]; exact fun h => he2 h.2.2.1
    go_enter Tryz.func37, Tryz.ntmps37
    go_wp2_with fail
    refine (hG _).mono ?_; rintro e w1 ⟨rfl, k1⟩
    have c0 : w1.cell? ⟨w.heap.size, 0, none⟩ = some (.int .i64 n) := k1.held (by simp)
    have c1 : w1.cell? ⟨w.heap.size, 1, none⟩ = some (.int .i64 s) := k1.held (by simp)
    have c2 : w1.cell? ⟨w.heap.size, 2, none⟩ = some (.int .i64 ep) := k1.held (by simp)
    have c3 : w1.cell? ⟨w.heap.size, 3, none⟩ = some (.slice a1 N1 p1) := k1.held (by simp)
    have c4 : w1.cell? ⟨w.heap.size, 4, none⟩ = some (.slice a2 N2 p2) := k1.held (by simp)
    have K1 : Kp w w1 := ((Kp.refl w).alloc _).trans k1
    clear hG k1
    go_wp2
    go_ret
    exact ⟨by rw [HF.out]; rfl, K1⟩
  by_cases hl1 : (N1 : Int) = n
  case neg =>
    have HF : Hid (X = false) := by rw [HX.out, Bool.eq_false_iff, ne_eq, HI2.out]; exact fun h => hl1 h.2.2.2.1
    have hb1 : ((N1 : Int) != n) = true := by simpa using hl1
    clear hl1
    go_enter Tryz.func37, Tryz.ntmps37
    go_wp2_with fail
    refine (hG _).mono ?_; rintro e w1 ⟨rfl, k1⟩
    have c0 : w1.cell? ⟨w.heap.size, 0, none⟩ = some (.int .i64 n) := k1.held (by simp)
    have c1 : w1.cell? ⟨w.heap.size, 1, none⟩ = some (.int .i64 s) := k1.held (by simp)
    have c2 : w1.cell? ⟨w.heap.size, 2, none⟩ = some (.int .i64 ep) := k1.held (by simp)
    have c3 : w1.cell? ⟨w.heap.size, 3, none⟩ = some (.slice a1 N1 p1) := k1.held (by simp)
    have c4 : w1.cell? ⟨w.heap.size, 4, none⟩ = some (.slice a2 N2 p2) := k1.held (by simp)
    have K1 : Kp w w1 := ((Kp.refl w).alloc _).trans k1
    clear hG k1
    go_wp2
    go_ret
    exact ⟨by rw [HF.out]; rfl, K1⟩
  have hb1 : ((N1 : Int) != n) = false := by simpa using hl1
  have HL1 : Hid ((N1 : Int) = n) := hl1
  clear hl1
  by_cases hl2 : (N2 : Int) = n
  case neg =>
    have HF : Hid (X = false) := by rw [HX.out, Bool.eq_false_iff, ne_eq, HI2.out]; exact fun h => hl2 h.2.2.2.2.1
    have hb2 : ((N2 : Int) != n) = true := by simpa using hl2
    clear hl2
    go_enter Tryz.func37, Tryz.ntmps37
    go_wp2_with fail
    refine (hG _).mono ?_; rintro e w1 ⟨rfl, k1⟩
    have c0 : w1.cell? ⟨w.heap.size, 0, none⟩ = some (.int .i64 n) := k1.held (by simp)
    have c1 : w1.cell? ⟨w.heap.size, 1, none⟩ = some (.int .i64 s) := k1.held (by simp)
    have c2 : w1.cell? ⟨w.heap.size, 2, none⟩ = some (.int .i64 ep) := k1.held (by simp)
    have c3 : w1.cell? ⟨w.heap.size, 3, none⟩ = some (.slice a1 N1 p1) := k1.held (by simp)
    have c4 : w1.cell? ⟨w.heap.size, 4, none⟩ = some (.slice a2 N2 p2) := k1.held (by simp)
    have K1 : Kp w w1 := ((Kp.refl w).alloc _).trans k1
    clear hG k1
    go_wp2
    go_ret
    exact ⟨by rw [HF.out]; rfl, K1⟩
  have hb2 : ((N2 : Int) != n) = false := by simpa using hl2
  have HL2 : Hid ((N2 : Int) = n) := hl2
  have h12 : N2 = N1 := by have := HL1.out; omega
  have HM : Hid (X = mg ⟨n, s, ep, sts, mks⟩ N1) := by
    show X = _
    rw [HX.out]
    cases e : mg ⟨n, s, ep, sts, mks⟩ N1 with
    | true => exact HI2.out.2 ⟨HG.out, he1, he2, HL1.out, hl2, e⟩
    | false => rw [Bool.eq_false_iff, ne_eq, HI2.out]; exact fun h => (by rw [e] at h; exact absurd h.2.2.2.2.2 (by simp))
  rw [h12] at hb2 i2 ⊢
  have g3 : 1 ≤ s := ((gg_iff _ _).1 HG.out).2.2.1
  have HN2b : Hid (N1 = mks.length) := by rw [← h12]; exact HN2.out
  clear hl2 HX HI2 HG HL2 HL1 h12 HN2
  go_enter Tryz.func37, Tryz.ntmps37
  go_wp2_with fail
  refine (hG _).mono ?_; rintro e w1 ⟨rfl, k1⟩
  have c0 : w1.cell? ⟨w.heap.size, 0, none⟩ = some (.int .i64 n) := k1.held (by simp)
  have c1 : w1.cell? ⟨w.heap.size, 1, none⟩ = some (.int .i64 s) := k1.held (by simp)
  have c2 : w1.cell? ⟨w.heap.size, 2, none⟩ = some (.int .i64 ep) := k1.held (by simp)
  have c3 : w1.cell? ⟨w.heap.size, 3, none⟩ = some (.slice a1 N1 p1) := k1.held (by simp)
  have c4 : w1.cell? ⟨w.heap.size, 4, none⟩ = some (.slice a2 N1 p2) := k1.held (by simp)
  have K1 : Kp w w1 := ((Kp.refl w).alloc _).trans k1
  clear hG k1
  have hLc : Lc w1 w.heap.size n s ep (.slice a1 N1 p1) (.slice a2 N1 p2) := ⟨c0, c1, c2, c3, c4⟩
  have HLc : Hid (Lc w1 w.heap.size n s ep (.slice a1 N1 p1) (.slice a2 N1 p2)) := hLc
  have hbw : w.heap.size < w1.heap.size := World.block_lt_of_cell? _ _ c0
  clear hLc
  go_wp2
  clear c0 c1 c2 c3 c4
  go_loopw [38] (fun i wr => ∃ k : Nat, k ≤ N1 ∧ i = .int .i64 k ∧ Hid (mg ⟨n, s, ep, sts, mks⟩ k = true) ∧ Kp w1 wr) (fun i _ => N1 - (intOf i).toNat)
  case atStart => exact ⟨0, Nat.zero_le _, rfl, HZ.out, Kp.refl w1⟩
  case round =>
    obtain ⟨k, hk, rfl, HK, hK⟩ := hrel
    by_cases hlt : k < N1
    · obtain rfl := i1 (by omega)
      obtain rfl := i2 (by omega)
      have d1 := (K1.trans hK).held (HA1.out.c k (by rw [← HN1.out]; exact hlt))
      have d2 := (K1.trans hK).held (HA2.out.c k (by rw [← HN2b.out]; omega))
      have hS := HS.out k HK.out
      obtain ⟨x, hx⟩ : ∃ x, x = sts.getD k 0 := ⟨_, rfl⟩
      obtain ⟨y, hy⟩ : ∃ y, y = mks.getD k 0 := ⟨_, rfl⟩
      rw [← hx] at d1 hS
      rw [← hy] at d2 hS
      have l := HLc.out.kept hK
      have hM := mayHave_any x y s
      clear hx hy
      obtain ⟨B, hB⟩ : ∃ B, B = mh x y s := ⟨_, rfl⟩
      rw [← hB] at hS hM
      have HS2 : Hid (mg ⟨n, s, ep, sts, mks⟩ (k + 1) = B) := hS
      clear hB hS
      have l0 := kpw_cell l.c0
      have l1 := kpw_cell l.c1
      have l2 := kpw_cell l.c2
      have l3 := kpw_cell l.c3
      have l4 := kpw_cell l.c4
      have f2 := kpw_cell d2
      clear l HK
      go_wp2_with fail
      refine wp_region_kp (by kernel_rfl) (by kernel_rfl) ?_
      repeat (first
        | go_big_quiet_skip
        | (go_big_quiet_want; go_big_quiet_op; go_big_quiet_on)
        | (go_big_quiet_want; go_big_quiet_op; apply Exists.intro; refine ⟨fun p => ?_, ?_⟩; (focus
            first
            | (go_at_call 87; exact kp_same (hM _))); go_big_quiet_on))
      refine wpQuiet_nil ?_
      rintro w2 ⟨p, rfl⟩
      have K2 := hK.trans (kpw_kp wr p)
      clear l0 l1 l2 l3 l4 f2 d1 d2 hM
      cases B with
      | true =>
        go_wp2
        go_roundw
        case rel => exact ⟨k + 1, by omega, by go_num, HS2, K2⟩
        case measure => simp [intOf]; omega
      | false =>
        have HF : Hid (X = false) := by rw [HM.out]; exact HN.out (k + 1) N1 HS2.out (by omega)
        go_wp2
        go_ret
        exact ⟨by rw [HF.out]; rfl, K1.trans K2⟩
    · obtain rfl : k = N1 := by omega
      have HF : Hid (X = true) := by rw [HM.out]; exact HK.out
      go_wp2
      go_ret
      exact ⟨by rw [HF.out]; rfl, K1.trans hK⟩
set_option maxRecDepth 100000 in
set_option maxHeartbeats 2000000 in
theorem rlgood_any (L : LB) (sv mv : Value) (w : World) (h1 : Nl w sv L.sts) (h2 : Nl w mv L.mks) : Calls Tryz.prog 112 #[lV L.n L.s L.ep sv mv] w fun e w' => e = .returned (.bool (lg L)) ∧ Kp w w' := by
  have hG := rgood_any L.n L.s
  obtain ⟨X, eX⟩ : ∃ X, X = lg L := ⟨_, rfl⟩
  rw [← eX]
  have HX : Hid (X = lg L) := eX
  have HI := lg_iff L
  have HS : Hid (∀ k, mg L k = true → mg L (k + 1) = mh (L.sts.getD k 0) (L.mks.getD k 0) L.s) := mg_step L
  have HN : Hid (∀ k m, mg L k = false → k ≤ m → mg L m = false) := mg_not L
  have HZ : Hid (mg L 0 = true) := mg_zero L
  obtain ⟨a1, g1, o1, p1, rfl, A1⟩ := h1
  obtain ⟨a2, g2, o2, p2, rfl, A2⟩ := h2
  obtain ⟨n, s, ep, sts, mks⟩ := L
  simp only at *
  obtain ⟨N1, hN1⟩ : ∃ N, N = sts.length := ⟨_, rfl⟩
  obtain ⟨N2, hN2⟩ : ∃ N, N = mks.length := ⟨_, rfl⟩
  have i1 := A1.ha
  have i2 := A2.ha
  have m1 : N1 ≤ 9223372036854775807 := by have := A1.le; have := A1.mx; omega
  have m2 : N2 ≤ 9223372036854775807 := by have := A2.le; have := A2.mx; omega
  rw [← hN1] at HI i1 ⊢
  rw [← hN2] at HI i2 ⊢
  have HA1 : Hid (Na w a1 g1 o1 p1 sts) := A1
  have HA2 : Hid (Na w a2 g2 o2 p2 mks) := A2
  have HN1 : Hid (N1 = sts.length) := hN1
  have HN2 : Hid (N2 = mks.length) := hN2
  have HI2 : Hid (lg ⟨n, s, ep, sts, mks⟩ = true ↔ gg n s = true ∧ 1 ≤ ep ∧ ep ≤ 9007199254740992 ∧ (N1 : Int) = n ∧ (N2 : Int) = n ∧ mg ⟨n, s, ep, sts, mks⟩ N1 = true) := HI
  clear eX HI A1 A2 hN1 hN2
  unfold lV
  cases e1 : gg n s with
  | false =>
    have HF : Hid (X = false) := by rw [HX.out, Bool.eq_false_iff, ne_eq, HI2.out]; exact fun h => (by rw [e1] at h; exact absurd h.1 (by simp))
    rw [e1] at hG
    clear e1
    unfold gV at hG
    go_enter Tryz.func112, Tryz.ntmps112
    go_wp2_with fail
    refine (hG _).mono ?_; rintro e w1 ⟨rfl, k1⟩
    have K1 : Kp w w1 := ((Kp.refl w).alloc _).trans k1
    clear hG k1
    go_wp2
    go_ret
    exact ⟨by rw [HF.out]; rfl, K1⟩
  | true =>
  rw [e1] at hG
  have HG : Hid (gg n s = true) := e1
  clear e1
  unfold gV at hG
  by_cases he1 : 1 ≤ ep
  case neg =>
    have HF : Hid (X = false) := by rw [HX.out, Bool.eq_false_iff, ne_eq, HI2.out]; exact fun h => he1 h.2.1
    go_enter Tryz.func112, Tryz.ntmps112
    go_wp2_with fail
    refine (hG _).mono ?_; rintro e w1 ⟨rfl, k1⟩
    have c0 : w1.cell? ⟨w.heap.size, 0, none⟩ = some (.int .i64 n) := k1.held (by simp)
    have c1 : w1.cell? ⟨w.heap.size, 1, none⟩ = some (.int .i64 s) := k1.held (by simp)
    have c2 : w1.cell? ⟨w.heap.size, 2, none⟩ = some (.int .i64 ep) := k1.held (by simp)
    have c3 : w1.cell? ⟨w.heap.size, 3, none⟩ = some (.slice a1 N1 p1) := k1.held (by simp)
    have c4 : w1.cell? ⟨w.heap.size, 4, none⟩ = some (.slice a2 N2 p2) := k1.held (by simp)
    have K1 : Kp w w1 := ((Kp.refl w).alloc _).trans k1
    clear hG k1
    go_wp2
    go_ret
    exact ⟨by rw [HF.out]; rfl, K1⟩
  by_cases he2 : ep ≤ 9007199254740992
  case neg =>
    have HF : Hid (X = false) := by rw [HX.out, Bool.eq_false_iff, ne_eq, HI2.out]; exact fun h => he2 h.2.2.1
    go_enter Tryz.func112, Tryz.ntmps112
    go_wp2_with fail
    refine (hG _).mono ?_; rintro e w1 ⟨rfl, k1⟩
    have c0 : w1.cell? ⟨w.heap.size, 0, none⟩ = some (.int .i64 n) := k1.held (by simp)
    have c1 : w1.cell? ⟨w.heap.size, 1, none⟩ = some (.int .i64 s) := k1.held (by simp)
    have c2 : w1.cell? ⟨w.heap.size, 2, none⟩ = some (.int .i64 ep) := k1.held (by simp)
    have c3 : w1.cell? ⟨w.heap.size, 3, none⟩ = some (.slice a1 N1 p1) := k1.held (by simp)
    have c4 : w1.cell? ⟨w.heap.size, 4, none⟩ = some (.slice a2 N2 p2) := k1.held (by simp)
    have K1 : Kp w w1 := ((Kp.refl w).alloc _).trans k1
    clear hG k1
    go_wp2
    go_ret
    exact ⟨by rw [HF.out]; rfl, K1⟩
  by_cases hl1 : (N1 : Int) = n
  case neg =>
    have HF : Hid (X = false) := by rw [HX.out, Bool.eq_false_iff, ne_eq, HI2.out]; exact fun h => hl1 h.2.2.2.1
    have hb1 : ((N1 : Int) != n) = true := by simpa using hl1
    clear hl1
    go_enter Tryz.func112, Tryz.ntmps112
    go_wp2_with fail
    refine (hG _).mono ?_; rintro e w1 ⟨rfl, k1⟩
    have c0 : w1.cell? ⟨w.heap.size, 0, none⟩ = some (.int .i64 n) := k1.held (by simp)
    have c1 : w1.cell? ⟨w.heap.size, 1, none⟩ = some (.int .i64 s) := k1.held (by simp)
    have c2 : w1.cell? ⟨w.heap.size, 2, none⟩ = some (.int .i64 ep) := k1.held (by simp)
    have c3 : w1.cell? ⟨w.heap.size, 3, none⟩ = some (.slice a1 N1 p1) := k1.held (by simp)
    have c4 : w1.cell? ⟨w.heap.size, 4, none⟩ = some (.slice a2 N2 p2) := k1.held (by simp)
    have K1 : Kp w w1 := ((Kp.refl w).alloc _).trans k1
    clear hG k1
    go_wp2
    go_ret
    exact ⟨by rw [HF.out]; rfl, K1⟩
  have hb1 : ((N1 : Int) != n) = false := by simpa using hl1
  have HL1 : Hid ((N1 : Int) = n) := hl1
  clear hl1
  by_cases hl2 : (N2 : Int) = n
  case neg =>
    have HF : Hid (X = false) := by rw [HX.out, Bool.eq_false_iff, ne_eq, HI2.out]; exact fun h => hl2 h.2.2.2.2.1
    have hb2 : ((N2 : Int) != n) = true := by simpa using hl2
    clear hl2
    go_enter Tryz.func112, Tryz.ntmps112
    go_wp2_with fail
    refine (hG _).mono ?_; rintro e w1 ⟨rfl, k1⟩
    have c0 : w1.cell? ⟨w.heap.size, 0, none⟩ = some (.int .i64 n) := k1.held (by simp)
    have c1 : w1.cell? ⟨w.heap.size, 1, none⟩ = some (.int .i64 s) := k1.held (by simp)
    have c2 : w1.cell? ⟨w.heap.size, 2, none⟩ = some (.int .i64 ep) := k1.held (by simp)
    have c3 : w1.cell? ⟨w.heap.size, 3, none⟩ = some (.slice a1 N1 p1) := k1.held (by simp)
    have c4 : w1.cell? ⟨w.heap.size, 4, none⟩ = some (.slice a2 N2 p2) := k1.held (by simp)
    have K1 : Kp w w1 := ((Kp.refl w).alloc _).trans k1
    clear hG k1
    go_wp2
    go_ret
    exact ⟨by rw [HF.out]; rfl, K1⟩
  have hb2 : ((N2 : Int) != n) = false := by simpa using hl2
  have HL2 : Hid ((N2 : Int) = n) := hl2
  have h12 : N2 = N1 := by have := HL1.out; omega
  have HM : Hid (X = mg ⟨n, s, ep, sts, mks⟩ N1) := by
    show X = _
    rw [HX.out]
    cases e : mg ⟨n, s, ep, sts, mks⟩ N1 with
    | true => exact HI2.out.2 ⟨HG.out, he1, he2, HL1.out, hl2, e⟩
    | false => rw [Bool.eq_false_iff, ne_eq, HI2.out]; exact fun h => (by rw [e] at h; exact absurd h.2.2.2.2.2 (by simp))
  rw [h12] at hb2 i2 ⊢
  have g3 : 1 ≤ s := ((gg_iff _ _).1 HG.out).2.2.1
  have HN2b : Hid (N1 = mks.length) := by rw [← h12]; exact HN2.out
  clear hl2 HX HI2 HG HL2 HL1 h12 HN2
  go_enter Tryz.func112, Tryz.ntmps112
  go_wp2_with fail
  refine (hG _).mono ?_; rintro e w1 ⟨rfl, k1⟩
  have c0 : w1.cell? ⟨w.heap.size, 0, none⟩ = some (.int .i64 n) := k1.held (by simp)
  have c1 : w1.cell? ⟨w.heap.size, 1, none⟩ = some (.int .i64 s) := k1.held (by simp)
  have c2 : w1.cell? ⟨w.heap.size, 2, none⟩ = some (.int .i64 ep) := k1.held (by simp)
  have c3 : w1.cell? ⟨w.heap.size, 3, none⟩ = some (.slice a1 N1 p1) := k1.held (by simp)
  have c4 : w1.cell? ⟨w.heap.size, 4, none⟩ = some (.slice a2 N1 p2) := k1.held (by simp)
  have K1 : Kp w w1 := ((Kp.refl w).alloc _).trans k1
  clear hG k1
  have hLc : Lc w1 w.heap.size n s ep (.slice a1 N1 p1) (.slice a2 N1 p2) := ⟨c0, c1, c2, c3, c4⟩
  have HLc : Hid (Lc w1 w.heap.size n s ep (.slice a1 N1 p1) (.slice a2 N1 p2)) := hLc
  have hbw : w.heap.size < w1.heap.size := World.block_lt_of_cell? _ _ c0
  clear hLc
  go_wp2
  clear c0 c1 c2 c3 c4
  go_loopw [4] (fun i wr => ∃ k : Nat, k ≤ N1 ∧ i = .int .i64 k ∧ Hid (mg ⟨n, s, ep, sts, mks⟩ k = true) ∧ Kp w1 wr) (fun i _ => N1 - (intOf i).toNat)
  case atStart => exact ⟨0, Nat.zero_le _, rfl, HZ.out, Kp.refl w1⟩
  case round =>
    obtain ⟨k, hk, rfl, HK, hK⟩ := hrel
    obtain ⟨c0, c1, c2, c3, c4⟩ := HLc.out.kept hK
    by_cases hlt : k < N1
    · obtain rfl := i1 (by omega)
      obtain rfl := i2 (by omega)
      have d1 := (K1.trans hK).held (HA1.out.c k (by rw [← HN1.out]; exact hlt))
      have d2 := (K1.trans hK).held (HA2.out.c k (by rw [← HN2b.out]; omega))
      have hS := HS.out k HK.out
      obtain ⟨x, hx⟩ : ∃ x, x = sts.getD k 0 := ⟨_, rfl⟩
      obtain ⟨y, hy⟩ : ∃ y, y = mks.getD k 0 := ⟨_, rfl⟩
      rw [← hx] at d1 hS
      rw [← hy] at d2 hS
      have HSk : Hid (mg ⟨n, s, ep, sts, mks⟩ (k + 1) = mh x y s) := hS
      clear hx hy hS HK
      by_cases q1 : 0 ≤ x
      case neg =>
        have HF : Hid (X = false) := by
          rw [HM.out]
          refine HN.out (k + 1) N1 ?_ (by omega)
          rw [HSk.out, Bool.eq_false_iff, ne_eq]
          intro hm
          have hbd := mh_bd hm g3
          omega
        have r1 : decide (x < 0) = true := decide_eq_true (by omega)
        clear q1
        go_wp2_with fail
        go_quiet (fail)
        go_wp2
        go_ret
        exact ⟨by rw [HF.out]; rfl, K1.trans (hK.drewN _)⟩
      have r1 : decide (x < 0) = false := decide_eq_false (by omega)
      by_cases q2 : x ≤ 2
      case neg =>
        have HF : Hid (X = false) := by
          rw [HM.out]
          refine HN.out (k + 1) N1 ?_ (by omega)
          rw [HSk.out, Bool.eq_false_iff, ne_eq]
          intro hm
          have hbd := mh_bd hm g3
          omega
        have r2 : decide (2 < x) = true := decide_eq_true (by omega)
        clear q2
        go_wp2_with fail
        go_quiet (fail)
        go_wp2
        go_ret
        exact ⟨by rw [HF.out]; rfl, K1.trans (hK.drewN _)⟩
      have r2 : decide (2 < x) = false := decide_eq_false (by omega)
      by_cases q3 : 0 ≤ y
      case neg =>
        have HF : Hid (X = false) := by
          rw [HM.out]
          refine HN.out (k + 1) N1 ?_ (by omega)
          rw [HSk.out, Bool.eq_false_iff, ne_eq]
          intro hm
          have hbd := mh_bd hm g3
          omega
        have r3 : decide (y < 0) = true := decide_eq_true (by omega)
        clear q3
        go_wp2_with fail
        go_quiet (fail)
        go_wp2
        go_ret
        exact ⟨by rw [HF.out]; rfl, K1.trans (hK.drewN _)⟩
      have r3 : decide (y < 0) = false := decide_eq_false (by omega)
      by_cases q4 : y < s
      case neg =>
        have HF : Hid (X = false) := by
          rw [HM.out]
          refine HN.out (k + 1) N1 ?_ (by omega)
          rw [HSk.out, Bool.eq_false_iff, ne_eq]
          intro hm
          have hbd := mh_bd hm g3
          omega
        have r4 : decide (s ≤ y) = true := decide_eq_true (by omega)
        clear q4
        go_wp2_with fail
        go_quiet (fail)
        go_wp2
        go_ret
        exact ⟨by rw [HF.out]; rfl, K1.trans (hK.drewN _)⟩
      have r4 : decide (s ≤ y) = false := decide_eq_false (by omega)
      by_cases q5 : 0 < y
      · have r5 : decide (0 < y) = true := decide_eq_true q5
        by_cases q6 : x = 2
        · have r6 : (x != 2) = false := by simpa using q6
          have HS2 : Hid (mg ⟨n, s, ep, sts, mks⟩ (k + 1) = true) := by
            show mg _ _ = _
            rw [HSk.out]
            exact mh_of (by omega) (by omega) (by omega) (by omega) (by omega)
          clear q6 q1 q2 q3 q4 q5
          go_wp2_with fail
          go_quiet (fail)
          go_wp2
          go_roundw
          case rel => exact ⟨k + 1, by omega, by go_num, HS2, hK.drewN _⟩
          case measure => simp [intOf]; omega
        · have r6 : (x != 2) = true := by simpa using q6
          have HF : Hid (X = false) := by
            rw [HM.out]
            refine HN.out (k + 1) N1 ?_ (by omega)
            rw [HSk.out, Bool.eq_false_iff, ne_eq]
            intro hm
            have hbd := mh_bd hm g3
            omega
          clear q6 q1 q2 q3 q4 q5
          go_wp2_with fail
          go_quiet (fail)
          go_wp2
          go_ret
          exact ⟨by rw [HF.out]; rfl, K1.trans (hK.drewN _)⟩
      · have r5 : decide (0 < y) = false := decide_eq_false q5
        have HS2 : Hid (mg ⟨n, s, ep, sts, mks⟩ (k + 1) = true) := by
          show mg _ _ = _
          rw [HSk.out]
          exact mh_of (by omega) (by omega) (by omega) (by omega) (by omega)
        clear q1 q2 q3 q4 q5
        go_wp2_with fail
        go_quiet (fail)
        go_wp2
        go_roundw
        case rel => exact ⟨k + 1, by omega, by go_num, HS2, hK.drewN _⟩
        case measure => simp [intOf]; omega
    · obtain rfl : k = N1 := by omega
      have HF : Hid (X = true) := by rw [HM.out]; exact HK.out
      go_wp2
      go_ret
      exact ⟨by rw [HF.out]; rfl, K1.trans hK⟩

end Go.Proofs.YtinpkfdmellleaaGreat

namespace Go.Proofs.YtinpkfdmellleaaGreat
open Go.RowKit Plain
set_option linter.unusedVariables false

/-- block B holds n bytes, none of them frozen. -/
structure Byt (W : World) (B n : Nat) (f : Nat → Nat) : Prop where
  cell : ∀ i, i < n → W.cell? ⟨B, i, none⟩ = some (.int .u8 ((f i : Nat) : Int))
  free : ∀ i, i < n → W.frozen? ⟨B, i, none⟩ = false
theorem Byt.kept {W W' : World} {B n : Nat} {f : Nat → Nat} (h : Byt W B n f) (k : Kp W W') (hB : B < W.heap.size) : Byt W' B n f :=
  ⟨fun i hi => k.held (h.cell i hi), fun i hi => (Below.frozen (p := ⟨B, i, none⟩) k hB).trans (h.free i hi)⟩
theorem Byt.set {W : World} {B n : Nat} {f : Nat → Nat} (h : Byt W B n f) (j x : Nat) : Byt (W.setCell ⟨B, j, none⟩ (.int .u8 (x : Int))) B n (fun i => if i = j then x else f i) :=
  ⟨fun i hi => by
    by_cases hj : i = j
    · subst hj
      show _ = some (Value.int .u8 (((if i = i then x else f i : Nat) : Nat) : Int))
      rw [if_pos rfl]
      exact World.cell?_setCell_same' _ _ _ (by rw [h.cell i hi]; rfl)
    · show _ = some (Value.int .u8 (((if i = j then x else f i : Nat) : Nat) : Int))
      rw [if_neg hj]
      exact (World.cell?_setCell_other _ _ _ _ (by intro e; cases e; exact hj rfl)).trans (h.cell i hi), fun i hi => by rw [World.frozen?_setCell]; exact h.free i hi⟩
theorem Byt.congr {W : World} {B n : Nat} {f g : Nat → Nat} (h : Byt W B n f) (he : ∀ i, i < n → f i = g i) : Byt W B n g :=
  ⟨fun i hi => by rw [← he i hi]; exact h.cell i hi, h.free⟩
theorem Byt.text {W : World} {B n : Nat} {f : Nat → Nat} (h : Byt W B n f) (m c : Nat) (hm : m ≤ n) : (convert 37 9 (.slice (some ⟨B, 0, none⟩) m c)).run Tryz.prog W = .ok (.string (bs m f)) W := by
  refine run_convert_bytes_arg (P := Tryz.prog) W 37 5 Tryz.underlying37 Tryz.underlying5 B 0 m c ((List.range m).map fun i => ((f i : Nat) : Int)) (by simp) (fun i hi => ?_) 9 Tryz.underlying9
  rw [Nat.zero_add, h.cell i (by have : i < m := by simpa using hi
                                 omega)]
  simp only [List.getD_eq_getElem?_getD, List.getElem?_map]
  rw [List.getElem?_range (by simpa using hi)]
  rfl
theorem Byt.lt {W : World} {B n : Nat} {f : Nat → Nat} (h : Byt W B n f) (h0 : 0 < n) : B < W.heap.size := World.block_lt_of_cell? _ _ (h.cell 0 h0)
/-- w' is w with draws, and stores into block b alone. -/
structure Trd (b : Nat) (w w' : World) : Prop where
  block : ∀ k, k ≠ b → w'.heap[k]? = w.heap[k]?
  size : w.heap.size = w'.heap.size
  kp : ∀ W, Kp W w → W.heap.size ≤ b → Kp W w'
theorem Trd.refl (b : Nat) (w : World) : Trd b w w := ⟨fun _ _ => rfl, rfl, fun _ h _ => h⟩
theorem Trd.trans {b : Nat} {w1 w2 w3 : World} (h : Trd b w1 w2) (k : Trd b w2 w3) : Trd b w1 w3 :=
  ⟨fun i hb => (k.block i hb).trans (h.block i hb), h.size.trans k.size, fun W hg hs => k.kp W (h.kp W hg hs) hs⟩
theorem Trd.setCell {b : Nat} {w1 w2 : World} (h : Trd b w1 w2) (o : Nat) (v : Value) : Trd b w1 (w2.setCell ⟨b, o, none⟩ v) :=
  h.trans ⟨fun k hb => Below.heap_setCell _ _ _ _ hb, by simp [World.setCell], fun _ hg hs => Below.setCell hg (p := ⟨b, o, none⟩) hs v⟩
theorem Trd.drew {b : Nat} {w1 w2 : World} (h : Trd b w1 w2) : Trd b w1 w2.drew :=
  h.trans ⟨fun _ _ => rfl, rfl, fun _ hg _ => hg.drew⟩
theorem Trd.held {b : Nat} {w w' : World} (h : Trd b w w') {c o : Nat} {v : Value} (hc : c ≠ b) (hv : w.cell? ⟨c, o, none⟩ = some v) : w'.cell? ⟨c, o, none⟩ = some v := (World.cell?_of_block (w := w) (a := ⟨c, o, none⟩) (h.block c hc)).trans hv
theorem Trd.lc {b c : Nat} {w w' : World} (h : Trd b w w') (hc : c ≠ b) {n s ep : Int} {sv mv : Value} (k : Lc w c n s ep sv mv) : Lc w' c n s ep sv mv := ⟨h.held hc k.c0, h.held hc k.c1, h.held hc k.c2, h.held hc k.c3, h.held hc k.c4⟩
theorem asz (w : World) (o : Obj) : (w.alloc o).heap.size = w.heap.size + 1 := by simp
/-- a label stored at block b. -/
def over (w : World) (b : Nat) (n s ep : Int) (sv mv : Value) : World := ((((w.setCell ⟨b, 0, none⟩ (.int .i64 n)).setCell ⟨b, 1, none⟩ (.int .i64 s)).setCell ⟨b, 2, none⟩ (.int .i64 ep)).setCell ⟨b, 3, none⟩ sv).setCell ⟨b, 4, none⟩ mv
theorem Trd.over {b : Nat} {w1 w : World} (h : Trd b w1 w) (n s ep : Int) (sv mv : Value) : Trd b w1 (over w b n s ep sv mv) := ((((h.setCell 0 _).setCell 1 _).setCell 2 _).setCell 3 _).setCell 4 _
theorem set_other (w : World) (b o o' : Nat) (v : Value) (h : o' ≠ o) : (w.setCell ⟨b, o, none⟩ v).cell? ⟨b, o', none⟩ = w.cell? ⟨b, o', none⟩ :=
  World.cell?_setCell_other w ⟨b, o, none⟩ ⟨b, o', none⟩ v (fun hh => h (by have := congrArg Addr.off hh; simp at this; omega))
theorem set_same {w : World} {b o : Nat} {u : Value} (v : Value) (h : w.cell? ⟨b, o, none⟩ = some u) : (w.setCell ⟨b, o, none⟩ v).cell? ⟨b, o, none⟩ = some v := World.cell?_setCell_same' _ _ _ (by rw [h]; rfl)
theorem Lc.set0 {w : World} {b : Nat} {n s ep : Int} {sv mv : Value} (h : Lc w b n s ep sv mv) (x : Int) : Lc (w.setCell ⟨b, 0, none⟩ (.int .i64 x)) b x s ep sv mv :=
  ⟨set_same _ h.c0, (set_other _ _ _ _ _ (by omega)).trans h.c1, (set_other _ _ _ _ _ (by omega)).trans h.c2, (set_other _ _ _ _ _ (by omega)).trans h.c3, (set_other _ _ _ _ _ (by omega)).trans h.c4⟩
theorem Lc.set1 {w : World} {b : Nat} {n s ep : Int} {sv mv : Value} (h : Lc w b n s ep sv mv) (x : Int) : Lc (w.setCell ⟨b, 1, none⟩ (.int .i64 x)) b n x ep sv mv :=
  ⟨(set_other _ _ _ _ _ (by omega)).trans h.c0, set_same _ h.c1, (set_other _ _ _ _ _ (by omega)).trans h.c2, (set_other _ _ _ _ _ (by omega)).trans h.c3, (set_other _ _ _ _ _ (by omega)).trans h.c4⟩
theorem Lc.set2 {w : World} {b : Nat} {n s ep : Int} {sv mv : Value} (h : Lc w b n s ep sv mv) (x : Int) : Lc (w.setCell ⟨b, 2, none⟩ (.int .i64 x)) b n s x sv mv :=
  ⟨(set_other _ _ _ _ _ (by omega)).trans h.c0, (set_other _ _ _ _ _ (by omega)).trans h.c1, set_same _ h.c2, (set_other _ _ _ _ _ (by omega)).trans h.c3, (set_other _ _ _ _ _ (by omega)).trans h.c4⟩
theorem Lc.set3 {w : World} {b : Nat} {n s ep : Int} {sv mv : Value} (h : Lc w b n s ep sv mv) (x : Value) : Lc (w.setCell ⟨b, 3, none⟩ x) b n s ep x mv :=
  ⟨(set_other _ _ _ _ _ (by omega)).trans h.c0, (set_other _ _ _ _ _ (by omega)).trans h.c1, (set_other _ _ _ _ _ (by omega)).trans h.c2, set_same _ h.c3, (set_other _ _ _ _ _ (by omega)).trans h.c4⟩
theorem Lc.set4 {w : World} {b : Nat} {n s ep : Int} {sv mv : Value} (h : Lc w b n s ep sv mv) (x : Value) : Lc (w.setCell ⟨b, 4, none⟩ x) b n s ep sv x :=
  ⟨(set_other _ _ _ _ _ (by omega)).trans h.c0, (set_other _ _ _ _ _ (by omega)).trans h.c1, (set_other _ _ _ _ _ (by omega)).trans h.c2, (set_other _ _ _ _ _ (by omega)).trans h.c3, set_same _ h.c4⟩
theorem Lc.over {w : World} {b : Nat} {n s ep n2 s2 ep2 : Int} {sv mv sv2 mv2 : Value} (h : Lc w b n s ep sv mv) : Lc (over w b n2 s2 ep2 sv2 mv2) b n2 s2 ep2 sv2 mv2 := ((((h.set0 n2).set1 s2).set2 ep2).set3 sv2).set4 mv2
theorem Trd.fe {b : Nat} {w w' : World} (h : Trd b w w') {e : TypeId} {base : Nat} {v : Value} {n : Nat} {f : Nat → Int} (k : Fe e w base v n f) (hb : v.ownBlock ≠ some b) : Fe e w' base v n f := by
  rcases k.2 with ⟨h', h0⟩ | ⟨g, cap, cur, h', hb', hg, hr⟩
  · exact ⟨k.1, .inl ⟨h', h0⟩⟩
  · subst h'
    exact ⟨k.1, .inr ⟨g, cap, cur, rfl, hb', (h.block g (fun e => hb (by rw [e]; rfl))).trans hg, hr⟩⟩
/-- m bytes of a number laid from off on, the highest first. -/
def laid (f : Nat → Nat) (off m x i : Nat) : Nat := if off ≤ i ∧ i < off + m then be x m (i - off) else f i
def lay1 (f : Nat → Nat) (off m x j i : Nat) : Nat := if off + m - j ≤ i ∧ i < off + m then be x m (i - off) else f i
theorem lay1_zero (f : Nat → Nat) (off m x i : Nat) : lay1 f off m x 0 i = f i := by unfold lay1; rw [if_neg (by omega)]
theorem lay1_all (f : Nat → Nat) (off m x i : Nat) : lay1 f off m x m i = laid f off m x i := by
  unfold lay1 laid
  by_cases h : off ≤ i ∧ i < off + m
  · rw [if_pos h, if_pos (by omega)]
  · rw [if_neg h, if_neg (by omega)]
theorem lay1_step (f : Nat → Nat) (off m x j i : Nat) (hj : j < m) : (if i = off + (m - 1 - j) then x / 256 ^ j % 256 else lay1 f off m x j i) = lay1 f off m x (j + 1) i := by
  unfold lay1
  by_cases h : i = off + (m - 1 - j)
  · rw [if_pos h, if_pos (by omega)]
    unfold be
    rw [h, show m - 1 - (off + (m - 1 - j) - off) = j by omega]
  · rw [if_neg h]
    by_cases h2 : off + m - j ≤ i ∧ i < off + m
    · rw [if_pos h2, if_pos (by omega)]
    · rw [if_neg h2, if_neg (by omega)]
theorem div_step (x j : Nat) : x / 256 ^ j / 256 = x / 256 ^ (j + 1) := by rw [Nat.pow_succ, Nat.div_div_eq_div_mul]
set_option maxRecDepth 100000 in
set_option maxHeartbeats 1000000 in
theorem store_any (B n off m cap x : Nat) (f : Nat → Nat) (w : World) (hx : x < 18446744073709551616) (hm : off + m ≤ n) (hn : n ≤ 100) (h : Byt w B n f) : Calls Tryz.prog 156 #[.slice (some ⟨B, off, none⟩) m cap, .int .u64 (x : Nat)] w fun e w' => e = .returned (.tuple #[]) ∧ Byt w' B n (laid f off m x) ∧ Trd B w w' := by
  have HB : Hid (Byt w B n f) := h
  clear h
  go_enter Tryz.func156, Tryz.ntmps156
  go_wp2
  go_loopw [1, 4] (fun X i wr => ∃ j q : Nat, j ≤ m ∧ i = .int .i64 ((m : Int) - 1 - j) ∧ X = .int .u64 (q : Nat) ∧ Hid (q = x / 256 ^ j) ∧ Hid (Byt wr B n (lay1 f off m x j)) ∧ Trd B w wr) (fun _ i _ => (intOf i + 1).toNat)
  case atStart => exact ⟨0, x, Nat.zero_le _, by simp, rfl, by show x = _; simp, HB.out.congr (fun i _ => (lay1_zero f off m x i).symm), Trd.refl B w⟩
  case round =>
    obtain ⟨j, q, hj, rfl, rfl, HQ, HL, hT⟩ := hrel
    have hq : q < 18446744073709551616 := by have := HQ.out; rw [this]; exact Nat.lt_of_le_of_lt (Nat.div_le_self _ _) hx
    by_cases hlt : j < m
    · obtain ⟨r, hr⟩ : ∃ r : Nat, (m : Int) - 1 - j = r := ⟨m - 1 - j, by omega⟩
      have hrm : r < m := by omega
      have c0 := HL.out.cell (off + r) (by omega)
      have z0 := HL.out.free (off + r) (by omega)
      have HR : Hid ((m : Int) - 1 - j = r) := hr
      have HR2 : Hid (off + r = off + (m - 1 - j)) := by show off + r = _; omega
      rw [hr]
      clear hr
      go_wp2
      go_roundw
      case rel =>
        refine ⟨j + 1, q / 256, by omega, ?_, ?_, ?_, ?_, hT.setCell _ _⟩
        · have := HR.out
          congr 1
          omega
        · rfl
        · show q / 256 = _; rw [HQ.out, div_step]
        · refine (HL.out.set (off + r) (q % 256)).congr (fun i _ => ?_)
          rw [← lay1_step f off m x j i hlt, HR2.out, HQ.out]
      case measure => have := HR.out; simp [intOf]
    · obtain rfl : j = m := by omega
      have HL2 : Hid (Byt wr B n (laid f off j x)) := HL.out.congr (fun i _ => lay1_all f off j x i)
      have hneg : decide ((j : Int) - 1 - j ≥ 0) = false := decide_eq_false (by omega)
      clear HL
      go_wp2
      refine bodyPost_end (results_none rfl _ _ _) rfl ?_
      exact ⟨rfl, HL2.out, hT⟩
theorem or_byte (n b : Nat) (hn : n < 72057594037927936) (hb : b < 256) : bits .or .u64 ((n * 256 : Nat) : Int) ((b : Nat) : Int) = ((256 * n + b : Nat) : Int) := by
  rw [u64_or_nat _ _ (by omega) (by omega), Nat.mul_comm]
  congr 1
  have := nat_join 8 (256 * n) b (by omega) (by omega)
  omega
set_option maxRecDepth 100000 in
set_option maxHeartbeats 1000000 in
theorem load8_any (s : ByteArray) (hs : s.size ≤ 8) (w : World) : Calls Tryz.prog 144 #[.string s] w fun e w' => e = .returned (.int .u64 (nmN (bf s) s.size : Nat)) ∧ w' = w := by
  go_enter Tryz.func144, Tryz.ntmps144
  go_wp2
  go_loop [3, 7] (fun X i => ∃ k q : Nat, k ≤ s.size ∧ i = .int .i64 k ∧ X = .int .u64 (q : Nat) ∧ Hid (q = nmN (bf s) k)) (fun _ i => s.size - (intOf i).toNat)
  case atStart => exact ⟨0, 0, by omega, rfl, rfl, rfl⟩
  case round =>
    obtain ⟨k, q, hk, rfl, rfl, HQ⟩ := hrel
    by_cases hlt : k < s.size
    · have hb := bf_lt s k
      have HB : Hid ((s[k]'hlt).toNat = bf s k) := bf_at s k hlt
      have hq : q < 72057594037927936 := by
        have h1 := nmN_lt (bf s) (bf_lt s) k
        have h2 : (256 : Nat) ^ k ≤ 256 ^ 7 := Nat.pow_le_pow_right (by omega) (by omega)
        have h3 : (256 : Nat) ^ 7 = 72057594037927936 := by decide +kernel
        have := HQ.out
        omega
      have e1 : (q : Int) * 256 % 18446744073709551616 = ((q * 256 : Nat) : Int) := by omega
      have e2 : (bf s k : Int) % 18446744073709551616 = (bf s k : Int) := by omega
      have HS : Hid (256 * q + bf s k = nmN (bf s) (k + 1)) := by show _ = 256 * nmN (bf s) k + bf s k; rw [HQ.out]
      have HO := or_byte q (bf s k) hq hb
      generalize bf s k = b at *
      go_wp2
      go_round
      case rel =>
        refine ⟨k + 1, 256 * q + b, by omega, by go_num, ?_, HS⟩
        rw [HB.out]
        rw [IntKind.wrap_u64, e2, show (q : Int) * 256 = ((q * 256 : Nat) : Int) by omega, HO]
      case measure => simp [intOf]; omega
    · obtain rfl : k = s.size := by omega
      go_wp2
      go_ret
      exact ⟨ret_int (by rw [HQ.out]), rfl⟩
set_option maxRecDepth 100000 in
set_option maxHeartbeats 1000000 in
theorem number_any (s : ByteArray) (hs : s.size ≤ 8) (w : World) : Calls Tryz.prog 147 #[.string s] w fun e w' => e = .returned (.int .u64 (nmN (bf s) s.size : Nat)) ∧ w' = w := by
  go_enter Tryz.func147, Tryz.ntmps147
  go_wp2
  go_loop [3, 4] (fun X i => ∃ k q : Nat, k ≤ s.size ∧ i = .int .i64 k ∧ X = .int .u64 (q : Nat) ∧ Hid (q = nmN (bf s) k)) (fun _ i => s.size - (intOf i).toNat)
  case atStart => exact ⟨0, 0, by omega, rfl, rfl, rfl⟩
  case round =>
    obtain ⟨k, q, hk, rfl, rfl, HQ⟩ := hrel
    by_cases hlt : k < s.size
    · have hb := bf_lt s k
      have HB : Hid ((s[k]'hlt).toNat = bf s k) := bf_at s k hlt
      have hq : q < 72057594037927936 := by
        have h1 := nmN_lt (bf s) (bf_lt s) k
        have h2 : (256 : Nat) ^ k ≤ 256 ^ 7 := Nat.pow_le_pow_right (by omega) (by omega)
        have h3 : (256 : Nat) ^ 7 = 72057594037927936 := by decide +kernel
        have := HQ.out
        omega
      have HS : Hid (256 * q + bf s k = nmN (bf s) (k + 1)) := by show _ = 256 * nmN (bf s) k + bf s k; rw [HQ.out]
      go_wp2
      go_round
      case rel =>
        refine ⟨k + 1, 256 * q + bf s k, by omega, by go_num, ?_, HS⟩
        rw [HB.out, IntKind.wrap_u64, IntKind.wrap_u64]
        congr 1
        omega
      case measure => simp [intOf]; omega
    · obtain rfl : k = s.size := by omega
      go_wp2
      go_ret
      exact ⟨ret_int (by rw [HQ.out]), rfl⟩

/-- a row of bytes of the call's own. -/
def Fb (w : World) (base : Nat) (v : Value) (n : Nat) (f : Nat → Nat) : Prop := w.ownsRow base 5 1 v n ((List.range n).map fun i => Value.int .u8 ((f i : Nat) : Int))
theorem Fb.kept {w w' : World} {base : Nat} {v : Value} {n : Nat} {f : Nat → Nat} (h : Fb w base v n f) (k : Kp w w') : Fb w' base v n f := k.own h
theorem Fb.congr {w : World} {base : Nat} {v : Value} {n : Nat} {f g : Nat → Nat} (h : Fb w base v n f) (he : ∀ j, j < n → f j = g j) : Fb w base v n g := by
  have : ((List.range n).map fun i => Value.int .u8 ((g i : Nat) : Int)) = (List.range n).map fun i => Value.int .u8 ((f i : Nat) : Int) := List.map_congr_left fun i hi => by rw [he i (by simpa using hi)]
  unfold Fb
  rw [this]
  exact h
theorem Fb.shape {w : World} {base : Nat} {v : Value} {n : Nat} {f : Nat → Nat} (h : Fb w base v n f) (h0 : 0 < n) : ∃ g cap, v = .slice (some ⟨g, 0, none⟩) n cap ∧ n ≤ cap ∧ cap ≤ 9223372036854775807 ∧ base ≤ g ∧ g < w.heap.size := by
  rcases h.2 with ⟨rfl, rfl⟩ | ⟨g, cap, cur, rfl, hb, hg, hn, hm, _⟩
  · omega
  · unfold maxLen at hm
    exact ⟨g, cap, rfl, hn, by omega, hb, (Array.getElem?_eq_some_iff.1 hg).1⟩
theorem Fb.at {w : World} {base g n cap : Nat} {f : Nat → Nat} (h : Fb w base (.slice (some ⟨g, 0, none⟩) n cap) n f) (j : Nat) (hj : j < n) : w.cell? ⟨g, j, none⟩ = some (.int .u8 ((f j : Nat) : Int)) := by
  rw [World.ownsRow.cellAt h j (by omega)]
  simp [hj]
theorem Fb.byt {w : World} {base g n cap : Nat} {f : Nat → Nat} (h : Fb w base (.slice (some ⟨g, 0, none⟩) n cap) n f) : Byt w g n f := ⟨fun i hi => h.at i hi, fun i _ => World.ownsRow.frozenAt h i⟩
theorem Fb.made (w : World) (n : Nat) (hn : n ≤ 1000) : Fb (w.alloc (.cells (madeCells #[.int .u8 0] n) 5)) w.heap.size (.slice (some ⟨w.heap.size, 0, none⟩) n n) n (fun _ => 0) := by
  refine ⟨by simp, .inr ⟨w.heap.size, n, _, rfl, Nat.le_refl _, heap_alloc_new w _, Nat.le_refl _, by unfold maxLen; omega, by rw [size_madeCells]; simp, ?_⟩⟩
  apply List.ext_getElem?
  intro i
  by_cases hi : i < n
  · simp [madeCells, hi, Nat.mod_one]
  · simp [madeCells, hi, Nat.mod_one]
theorem Fb.snoc_list (n : Nat) (f : Nat → Nat) (x : Nat) : ((List.range n).map fun i => Value.int .u8 ((f i : Nat) : Int)) ++ [Value.int .u8 (x : Int)] = (List.range (n + 1)).map fun i => Value.int .u8 (((if i = n then x else f i : Nat) : Nat) : Int) := by
  rw [List.range_succ, List.map_append]
  congr 1
  · apply List.map_congr_left
    intro i hi
    have : i ≠ n := by have := List.mem_range.1 hi; omega
    rw [if_neg this]
  · simp
/-- one byte appended. -/
theorem wpList_append_u8 {w : World} {ops : Array Oper} {rest : List Oper} {o : Oper} {a : Act} {Q : Exit → Act → World → Prop} (hgd : o.guard = none) (s x : Operand)
    (ho : o.op = .call { callee := .builtin .append, args := #[s, x], argTypes := #[37, 37] })
    (base : Nat) (v : Value) (n : Nat) (f : Nat → Nat) (hs : a.eval s = v) (hown : Fb w base v n f) (p k : Nat) (hx : a.eval x = .slice (some ⟨k, 0, none⟩) 1 1) (hc : w.cell? ⟨k, 0, none⟩ = some (.int .u8 (p : Int)))
    (hlen : n ≤ 1000) (hbase : base ≤ w.heap.size)
    (h : ∀ v' w', Fb w' base v' (n + 1) (fun i => if i = n then p else f i) → w.grownBy w' v.ownBlock → wpList Tryz.prog ops Q rest (a.put o.dst v') w') : wpList Tryz.prog ops Q (o :: rest) a w := by
  obtain ⟨i0, hi, hz0, hz1, hz2⟩ := info_parts info_u8
  refine wpList_append_own_at w hgd s x 37 ho base 5 i0 (.int .u8 0) 1 1 Tryz.underlying37 hi hz0 hz1 hz2 rfl (by decide) v n _ hs hown ⟨k, 0, none⟩ 1 1 [.int .u8 (p : Int)] hx rfl ?_ (by simp [Value.oneCell']) (by unfold maxLen; omega) (by omega) hbase (fun v' w' h1 h2 _ _ => h v' w' ?_ h2)
  · intro j u hj
    match j, hj with
    | 0, hj => simp at hj; subst hj; simpa [Addr.add] using hc
  · unfold Fb
    rw [← Fb.snoc_list]
    exact h1
set_option maxRecDepth 100000 in
set_option maxHeartbeats 1000000 in
theorem big_any (m x : Nat) (w : World) (hx : x < 18446744073709551616) (hm : m ≤ 8) : Calls Tryz.prog 113 #[.int .u64 (x : Nat), .int .i64 (m : Nat)] w fun e w' => e = .returned (.slice (some ⟨w.heap.size, 0, none⟩) m m) ∧ Byt w' w.heap.size m (be x m) ∧ Kp w w' := by
  have hmk : (Instr.makeSlice 37 (.int .i64 (m : Int)) (.int .i64 (m : Int))).run Tryz.prog w = .ok (.slice (some ⟨w.heap.size, 0, none⟩) m m) (w.alloc (.cells (madeCells #[.int .u8 0] m) 5)) := run_make_row' (P := Tryz.prog) 37 5 (.int .u8 0) 1 Tryz.underlying37 info_u8 rfl .i64 .i64 m (by omega) (by omega) w
  have HB : Hid (Byt (w.alloc (.cells (madeCells #[.int .u8 0] m) 5)) w.heap.size m (fun _ => 0)) := (Fb.made w m (by omega)).byt
  have K1 : Kp w (w.alloc (.cells (madeCells #[.int .u8 0] m) 5)) := (Kp.refl w).alloc _
  obtain ⟨W, hW⟩ : ∃ W, W = w.alloc (.cells (madeCells #[.int .u8 0] m) 5) := ⟨_, rfl⟩
  rw [← hW] at hmk HB K1
  obtain ⟨B, hB⟩ : ∃ B, B = w.heap.size := ⟨_, rfl⟩
  rw [← hB] at hmk HB ⊢
  have HBW : Hid (B = w.heap.size) := hB
  clear hW hB
  go_enter Tryz.func113, Tryz.ntmps113
  go_wp2
  clear hmk
  go_loopw [0, 6] (fun X i wr => ∃ j q : Nat, j ≤ m ∧ i = .int .i64 ((m : Int) - 1 - j) ∧ X = .int .u64 (q : Nat) ∧ Hid (q = x / 256 ^ j) ∧ Hid (Byt wr B m (lay1 (fun _ => 0) 0 m x j)) ∧ Trd B W wr) (fun _ i _ => (intOf i + 1).toNat)
  case atStart => exact ⟨0, x, Nat.zero_le _, by simp, rfl, by show x = _; simp, HB.out.congr (fun i _ => (lay1_zero (fun _ => 0) 0 m x i).symm), Trd.refl B W⟩
  case round =>
    obtain ⟨j, q, hj, rfl, rfl, HQ, HL, hT⟩ := hrel
    have hq : q < 18446744073709551616 := by have := HQ.out; rw [this]; exact Nat.lt_of_le_of_lt (Nat.div_le_self _ _) hx
    by_cases hlt : j < m
    · obtain ⟨r, hr⟩ : ∃ r : Nat, (m : Int) - 1 - j = r := ⟨m - 1 - j, by omega⟩
      have hrm : r < m := by omega
      have c0 := HL.out.cell r (by omega)
      have z0 := HL.out.free r (by omega)
      have HR : Hid ((m : Int) - 1 - j = r) := hr
      have HR2 : Hid (r = 0 + (m - 1 - j)) := by show r = _; omega
      rw [hr]
      clear hr
      go_wp2
      go_roundw
      case rel =>
        refine ⟨j + 1, q / 256, by omega, ?_, ?_, ?_, ?_, hT.setCell _ _⟩
        · have := HR.out
          congr 1
          omega
        · rfl
        · show q / 256 = _; rw [HQ.out, div_step]
        · have h1 := (HL.out.set r (q % 256)).congr (g := lay1 (fun _ => 0) 0 m x (j + 1)) (fun i _ => by
            rw [← lay1_step _ 0 m x j i hlt, HR2.out, HQ.out])
          have e : ((q % 256 % 256 : Nat) : Int) = ((q % 256 : Nat) : Int) := by omega
          first | exact h1 | simpa using h1
      case measure => have := HR.out; simp [intOf]
    · obtain rfl : j = m := by omega
      have HL2 : Hid (Byt wr B j (be x j)) := HL.out.congr (fun i hi => by rw [lay1_all]; unfold laid; rw [if_pos (by omega)]; rfl)
      have hneg : decide ((j : Int) - 1 - j ≥ 0) = false := decide_eq_false (by omega)
      have KW : Hid (Kp w wr) := hT.kp w K1 (by rw [HBW.out]; exact Nat.le_refl _)
      clear HL
      go_wp2
      go_ret
      exact ⟨rfl, HL2.out, KW.out⟩

end Go.Proofs.YtinpkfdmellleaaGreat

namespace Go.Proofs.YtinpkfdmellleaaGreat
open Go.RowKit Plain
set_option linter.unusedVariables false

/-- the sector behind the bytes of the first k members. -/
def stg (L : LB) (k i : Nat) : Nat := if i < 14 then pb L i else if i < 14 + k then mb L (i - 14) else 0
theorem stg_step (L : LB) (k i : Nat) : (if i = 14 + k then mb L k else stg L k i) = stg L (k + 1) i := by
  unfold stg
  by_cases h : i = 14 + k
  · rw [if_pos h, if_neg (by omega), if_pos (by omega), h, show 14 + k - 14 = k by omega]
  · rw [if_neg h]
    by_cases h1 : i < 14
    · rw [if_pos h1, if_pos h1]
    · rw [if_neg h1, if_neg h1]
      by_cases h2 : i < 14 + k
      · rw [if_pos h2, if_pos (by omega)]
      · rw [if_neg h2, if_neg (by omega)]
theorem stg_all (L : LB) (i : Nat) (h : i < 46) : stg L L.sts.length i = pb L i := by
  unfold stg
  by_cases h1 : i < 14
  · rw [if_pos h1]
  · rw [if_neg h1]
    unfold pb
    rw [if_neg (show ¬ i < 4 by omega), if_neg (show ¬ i < 12 by omega), if_neg (show ¬ i = 12 by omega), if_neg (show ¬ i = 13 by omega)]
theorem stg_past (L : LB) (hl : L.sts.length ≤ 32) (i : Nat) (h : 46 ≤ i) : stg L L.sts.length i = 0 := by
  unfold stg
  rw [if_neg (by omega), if_neg (by omega)]
theorem stg_zero (L : LB) (i : Nat) : stg L 0 i = (if i = 13 then L.s.toNat else if i = 12 then L.n.toNat else laid (fun i => if i < 4 then tr i else 0) 4 8 L.ep.toNat i) := by
  unfold stg laid pb
  by_cases h1 : i < 4
  · rw [if_pos (by omega), if_pos h1, if_neg (by omega), if_neg (by omega), if_neg (by omega)]; exact (if_pos h1).symm
  · by_cases h2 : i < 12
    · rw [if_pos (by omega), if_neg h1, if_pos h2, if_neg (by omega), if_neg (by omega), if_pos (by omega)]
    · by_cases h3 : i = 12
      · rw [if_pos (by omega), if_neg h1, if_neg h2, if_pos h3, if_neg (by omega), if_pos h3]
      · by_cases h4 : i = 13
        · rw [if_pos (by omega), if_neg h1, if_neg h2, if_neg h3, if_pos h4, if_pos h4]
        · rw [if_neg (by omega), if_neg (by omega), if_neg h4, if_neg h3, if_neg (by omega)]; exact (if_neg h1).symm
theorem put_last (L : LB) (hl : L.sts.length ≤ 32) (i : Nat) (hi : i < 64) : laid (stg L L.sts.length) 46 4 (smN (pb L) 46) i = sb L i := by
  unfold laid sb
  by_cases h1 : i < 46
  · rw [if_neg (by omega), if_pos h1, stg_all L i h1]
  · by_cases h2 : i < 50
    · rw [if_pos (by omega), if_neg h1, if_pos h2]
    · rw [if_neg (by omega), if_neg h1, if_neg h2, stg_past L hl i (by omega)]
theorem sm_bs (m : Nat) (g : Nat → Nat) (hg : ∀ i, i < m → g i < 256) : smN (bf (bs m g)) (bs m g).size = smN g m := by
  rw [bs_size]
  unfold smN mrN
  rw [rgS_congr (g := g) _ _ (fun i hi => show bf (bs m g) i = g i from bAt_bs m g i hi (hg i hi))]
theorem copy_pfx (w : World) (B : Nat) (h : Byt w B 64 (fun _ => 0)) : ∃ w', (∀ ty, (Builtin.copy_ #[37, 9] ty #[.slice (some ⟨B, 0, none⟩) 64 64, .string ⟨#[84, 82, 85, 78]⟩]).run Tryz.prog w = .ok (.int .i64 4) w') ∧ Byt w' B 64 (fun i => if i < 4 then tr i else 0) ∧ Trd B w w' := by
  refine ⟨_, fun ty => run_copy_string (P := Tryz.prog) w 37 9 ty 5 B 0 64 64 ⟨#[84, 82, 85, 78]⟩ Tryz.underlying37 (fun w => by
      obtain ⟨i0, hi, hz0, hz1, hz2⟩ := info_parts info_u8
      simp [sizeOf, typeInfo, hi, hz1]) (by decide) (fun j hj => by
        have hj4 : j < 4 := hj
        rw [Nat.zero_add, h.cell j (by omega)]; rfl) (fun j hj => by
        have hj4 : j < 4 := hj
        rw [Nat.zero_add]; exact h.free j (by omega)), ?_, ?_⟩
  · show Byt ((((w.setCell ⟨B, 0, none⟩ (.int .u8 ((84 : Nat) : Int))).setCell ⟨B, 1, none⟩ (.int .u8 ((82 : Nat) : Int))).setCell ⟨B, 2, none⟩ (.int .u8 ((85 : Nat) : Int))).setCell ⟨B, 3, none⟩ (.int .u8 ((78 : Nat) : Int))) B 64 _
    refine ((((h.set 0 84).set 1 82).set 2 85).set 3 78).congr (fun i hi => ?_)
    by_cases h4 : i < 4
    · have hh : i = 0 ∨ i = 1 ∨ i = 2 ∨ i = 3 := by omega
      rcases hh with rfl | rfl | rfl | rfl <;> rfl
    · show (if i = 3 then 78 else if i = 2 then 85 else if i = 1 then 82 else if i = 0 then 84 else 0) = _
      rw [if_neg (by omega), if_neg (by omega), if_neg (by omega), if_neg (by omega), if_neg h4]
  · show Trd B w ((((w.setCell ⟨B, 0, none⟩ (.int .u8 ((84 : Nat) : Int))).setCell ⟨B, 1, none⟩ (.int .u8 ((82 : Nat) : Int))).setCell ⟨B, 2, none⟩ (.int .u8 ((85 : Nat) : Int))).setCell ⟨B, 3, none⟩ (.int .u8 ((78 : Nat) : Int)))
    exact ((((Trd.refl B w).setCell 0 _).setCell 1 _).setCell 2 _).setCell 3 _
set_option maxRecDepth 100000 in
set_option maxHeartbeats 4000000 in
theorem put_anyL9 (L : LB) (sv mv : Value) (w : World) (h1 : Nl w sv L.sts) (h2 : Nl w mv L.mks) : Calls Tryz.prog 138 #[lV L.n L.s L.ep sv mv] w fun e w' => e = .returned (.tuple #[.string (puS L), .int .i64 (puE L)]) ∧ Kp w w' := by
  have hG := fun w' (k : Kp w w') => lgood_any L sv mv w' (h1.kept k) (h2.kept k)
  cases e1 : lg L with
  | false =>
    rw [show puS L = noS from if_neg (by simp [e1]), show puE L = 4 from if_neg (by simp [e1])]
    rw [e1] at hG
    unfold lV noS at *
    go_enter Tryz.func138, Tryz.ntmps138
    go_wp2_with fail
    refine (hG _ ((Kp.refl w).alloc _)).mono ?_; rintro e w1 ⟨rfl, k1⟩
    have K1 : Kp w w1 := ((Kp.refl w).alloc _).trans k1
    clear hG k1
    go_wp2
    go_ret2
    exact ⟨rfl, K1⟩
  | true =>
    rw [show puS L = ptS L from if_pos e1, show puE L = 0 from if_pos e1]
    rw [e1] at hG
    have GG := lg_gl e1
    have HGL : Hid (GL L) := GG
    have HSM := smN_lt (pb L) (pb_lt GG) 46
    have HPT : Hid (ptS L = bs 64 (sb L)) := rfl
    have HLL : Hid (L.sts.length ≤ 32) := by have := GG.l1; have := GG.n2; show L.sts.length ≤ 32; omega
    obtain ⟨P, hP⟩ : ∃ P, P = ptS L := ⟨_, rfl⟩
    rw [← hP] at HPT ⊢
    obtain ⟨SM, hSM⟩ : ∃ S, S = smN (pb L) 46 := ⟨_, rfl⟩
    rw [← hSM] at HSM
    have HM : Hid (SM = smN (pb L) 46) := hSM
    have H0 : Hid (∀ i, stg L 0 i = (if i = 13 then L.s.toNat else if i = 12 then L.n.toNat else laid (fun i => if i < 4 then tr i else 0) 4 8 L.ep.toNat i)) := stg_zero L
    have HST : Hid (∀ k i, (if i = 14 + k then mb L k else stg L k i) = stg L (k + 1) i) := stg_step L
    have HMB : Hid (∀ i, mb L i = (L.sts.getD i 0 * 64 + L.mks.getD i 0).toNat) := fun i => rfl
    clear hP hSM e1
    obtain ⟨a1, g1, o1, p1, rfl, A1⟩ := h1
    obtain ⟨a2, g2, o2, p2, rfl, A2⟩ := h2
    obtain ⟨n1, n2, s1, s2, ep1, ep2, l1, l2, mm⟩ := GG
    obtain ⟨E, hE⟩ : ∃ E : Nat, L.ep = E := ⟨L.ep.toNat, by omega⟩
    obtain ⟨S, hS⟩ : ∃ S : Nat, L.s = S := ⟨L.s.toNat, by omega⟩
    obtain ⟨N, hN⟩ : ∃ N : Nat, L.n = N := ⟨L.n.toNat, by omega⟩
    have hl1 : L.sts.length = N := by omega
    have hl2 : L.mks.length = N := by omega
    rw [hE] at ep1 ep2 H0 hG ⊢
    rw [hS] at s1 s2 H0 hG ⊢
    rw [hN] at n1 n2 H0 hG ⊢
    have i1 := A1.ha
    have i2 := A2.ha
    have HA1 : Hid (∀ j, j < N → w.cell? ⟨g1, o1 + j, none⟩ = some (.int .i64 (L.sts.getD j 0))) := fun j hj => A1.c j (by omega)
    have HA2 : Hid (∀ j, j < N → w.cell? ⟨g2, o2 + j, none⟩ = some (.int .i64 (L.mks.getD j 0))) := fun j hj => A2.c j (by omega)
    have HMM : Hid (∀ j, j < N → 0 ≤ L.sts.getD j 0 ∧ L.sts.getD j 0 ≤ 2 ∧ 0 ≤ L.mks.getD j 0 ∧ L.mks.getD j 0 < 64) := fun j hj => mm j (by omega)
    have HL1 : Hid (L.sts.length = N) := hl1
    rw [hl1] at i1 hG ⊢
    rw [hl2] at i2 hG ⊢
    clear A1 A2 l1 l2 mm hE hS hN hl1 hl2
    simp only [Int.toNat_natCast] at H0
    unfold lV at hG ⊢
    go_enter Tryz.func138, Tryz.ntmps138
    go_wp2_with fail
    refine (hG _ ((Kp.refl w).alloc _)).mono ?_; rintro e w1 ⟨rfl, k1⟩
    have hLc : Lc w1 w.heap.size N S E (.slice a1 N p1) (.slice a2 N p2) := (Lc.new w _ _ _ _ _ _).kept k1
    have K1 : Kp w w1 := ((Kp.refl w).alloc _).trans k1
    clear hG k1
    have hmk : (Instr.makeSlice 37 (.int .i64 64) (.int .i64 64)).run Tryz.prog w1 = .ok (.slice (some ⟨w1.heap.size, 0, none⟩) 64 64) (w1.alloc (.cells (madeCells #[.int .u8 0] 64) 5)) := run_make_row' (P := Tryz.prog) 37 5 (.int .u8 0) 1 Tryz.underlying37 info_u8 rfl .i64 .i64 64 (by omega) (by omega) w1
    have hB0 : Byt (w1.alloc (.cells (madeCells #[.int .u8 0] 64) 5)) w1.heap.size 64 (fun _ => 0) := (Fb.made w1 64 (by omega)).byt
    have K2 : Kp w1 (w1.alloc (.cells (madeCells #[.int .u8 0] 64) 5)) := (Kp.refl w1).alloc _
    obtain ⟨W, hW⟩ : ∃ W, W = w1.alloc (.cells (madeCells #[.int .u8 0] 64) 5) := ⟨_, rfl⟩
    obtain ⟨B, hB⟩ : ∃ B, B = w1.heap.size := ⟨_, rfl⟩
    rw [← hW] at hmk hB0 K2
    rw [← hB] at hmk hB0
    obtain ⟨W3, hcp, hB3, T3⟩ := copy_pfx W B hB0
    have hbw : w.heap.size < B := by rw [hB]; exact World.block_lt_of_cell? _ _ hLc.c0
    have hne : w.heap.size ≠ B := by omega
    have L3 := T3.lc hne (hLc.kept K2)
    have K3 : Kp w1 W3 := T3.kp w1 K2 (by rw [hB]; exact Nat.le_refl _)
    have HBW : Hid (w1.heap.size ≤ B) := by rw [hB]; exact Nat.le_refl _
    have HB3 : Hid (Byt W3 B 64 (fun i => if i < 4 then tr i else 0)) := hB3
    have HL3 : Hid (Lc W3 w.heap.size N S E (.slice a1 N p1) (.slice a2 N p2)) := L3
    have K0 : Hid (Kp w W3) := K1.trans K3
    have HW : Hid (w.heap.size ≤ B) := Nat.le_of_lt hbw
    obtain ⟨c0, c1, c2, c3, c4⟩ := L3
    clear hW hB hB0 hB3 T3 hLc K2 K1 K3
    have hE : IntKind.u64.wrap (E : Int) = (E : Int) := by rw [IntKind.wrap_u64]; omega
    have HBd : Hid (Byt W3.drew B 64 (fun i => if i < 4 then tr i else 0)) := HB3.out.kept (Kp.refl W3).drew (HB3.out.lt (by omega))
    have HSt := fun w' (h : Byt w' B 64 (fun i => if i < 4 then tr i else 0)) => store_any B 64 4 8 60 E (fun i => if i < 4 then tr i else 0) w' (by omega) (by omega) (by omega) h
    go_wp2_with fail
    clear hmk hcp
    go_cut [4] (fun p wx => p = .slice (some ⟨B, 0, none⟩) 64 64 ∧ Byt wx B 64 (laid (fun i => if i < 4 then tr i else 0) 4 8 E) ∧ Trd B W3 wx)
    case first =>
      go_region_with (go_at_call 156; refine (HSt _ (by exact HBd.out)).mono ?_; rintro e wx ⟨rfl, bx, tx⟩)
      all_goals (go_wp2_with fail; go_meet; exact ⟨rfl, bx, (Trd.refl B W3).drew.trans tx⟩)
    clear HSt HBd
    obtain ⟨rfl, bx, tx⟩ := hcut
    obtain ⟨w4, hw4⟩ : ∃ w4, w4 = wc := ⟨_, rfl⟩
    rw [← hw4] at bx tx ⊢
    have K4 : Hid (Kp w w4) := tx.kp w K0.out HW.out
    obtain ⟨c0, c1, c2, c3, c4⟩ := tx.lc hne HL3.out
    have b12 := bx.cell 12 (by omega)
    have z12 := bx.free 12 (by omega)
    have b13 := ((bx.set 12 N).cell 13 (by omega))
    have z13 := ((bx.set 12 N).free 13 (by omega))
    have HB5 : Hid (Byt ((w4.setCell ⟨B, 12, none⟩ (.int .u8 (N : Int))).setCell ⟨B, 13, none⟩ (.int .u8 (S : Int))) B 64 (stg L 0)) := ((bx.set 12 N).set 13 S).congr (fun i _ => by rw [H0.out])
    have T5 : Hid (Trd B W3 ((w4.setCell ⟨B, 12, none⟩ (.int .u8 (N : Int))).setCell ⟨B, 13, none⟩ (.int .u8 (S : Int)))) := (tx.setCell 12 _).setCell 13 _
    clear hw4 bx tx
    have eN : (N : Int) % 256 = N := by omega
    have eS : (S : Int) % 256 = S := by omega
    go_wp2
    clear c0 c1 c2 c3 c4 b12 z12 b13 z13 eN eS hE
    go_loopw [35] (fun i wr => ∃ k : Nat, k ≤ N ∧ i = .int .i64 k ∧ Hid (Byt wr B 64 (stg L k)) ∧ Hid (Trd B W3 wr)) (fun i _ => N - (intOf i).toNat)
    case atStart => exact ⟨0, Nat.zero_le _, rfl, HB5, T5⟩
    case round =>
      obtain ⟨k, hk, rfl, HK, HT⟩ := hrel
      obtain ⟨c0, c1, c2, c3, c4⟩ := HT.out.lc hne HL3.out
      have KR : Hid (Kp w wr) := HT.out.kp w K0.out HW.out
      by_cases hlt : k < N
      · obtain rfl := i1 (by omega)
        obtain rfl := i2 (by omega)
        have d1 := KR.out.held (HA1.out k hlt)
        have d2 := KR.out.held (HA2.out k hlt)
        have hmm := HMM.out k hlt
        have hmb := HMB.out k
        obtain ⟨x, hx⟩ : ∃ x, x = L.sts.getD k 0 := ⟨_, rfl⟩
        obtain ⟨y, hy⟩ : ∃ y, y = L.mks.getD k 0 := ⟨_, rfl⟩
        rw [← hx] at d1 hmm hmb
        rw [← hy] at d2 hmm hmb
        obtain ⟨m1, m2, m3, m4⟩ := hmm
        obtain ⟨z, hz⟩ : ∃ z : Nat, x * 64 + y = z := ⟨(x * 64 + y).toNat, by omega⟩
        have HZ : Hid (mb L k = z) := by show mb L k = z; rw [hmb, hz]; rfl
        have hz8 : IntKind.u8.wrap (x * 64 + y) = (z : Int) := by rw [IntKind.wrap_u8, hz]; omega
        have hz9 : (x * 64 + y) % 256 = (z : Int) := by rw [hz]; omega
        have f0 := HK.out.cell (14 + k) (by omega)
        have f1 := HK.out.free (14 + k) (by omega)
        clear hx hy hmb hz
        go_wp2
        go_roundw
        case rel => exact ⟨k + 1, by omega, by go_num, (HK.out.set (14 + k) z).congr (fun i _ => by rw [← HST.out, HZ.out]), HT.out.setCell _ _⟩
        case measure => simp [intOf]; omega
      · obtain rfl : k = N := by omega
        have hcv := HK.out.text 46 64 (by omega)
        have hsl := slow_any (bs 46 (stg L k)) (by rw [bs_size]; omega) wr
        have HKB : Hid (Byt wr B 64 (stg L k)) := HK
        have hsm : smN (bf (bs 46 (stg L k))) (bs 46 (stg L k)).size = SM := by
          rw [sm_bs 46 _ (fun i hi => by rw [← HL1.out, stg_all L i hi]; exact pb_lt HGL.out i), HM.out]
          unfold smN mrN
          rw [rgS_congr (g := pb L) _ _ (fun i hi => by rw [← HL1.out, stg_all L i hi])]
        rw [hsm] at hsl
        clear hsm HK
        obtain ⟨ST, hST⟩ : ∃ ST, ST = bs 46 (stg L k) := ⟨_, rfl⟩
        rw [← hST] at hcv hsl
        clear hST
        go_wp2_with fail
        refine hsl.mono ?_; rintro e w5 ⟨rfl, rfl⟩
        clear hsl hcv
        have hst := store_any B 64 46 4 18 SM (stg L k) w5 (by omega) (by omega) (by omega) HKB.out
        go_wp2_with fail
        refine hst.mono ?_; rintro e w6 ⟨rfl, b6, t6⟩
        have hcv := b6.text 64 64 (by omega)
        have HFin : Hid (bs 64 (laid (stg L k) 46 4 SM) = P) := by
          show _ = P
          rw [HPT.out]
          exact bs_congr (fun i hi => by rw [HM.out, ← HL1.out]; exact put_last L HLL.out i hi)
        rw [HFin.out] at hcv
        have KF : Hid (Kp w w6) := t6.kp w KR.out HW.out
        clear hst b6 t6 HFin
        go_wp2
        go_ret2
        exact ⟨rfl, KF.out⟩

end Go.Proofs.YtinpkfdmellleaaGreat

namespace Go.Proofs.YtinpkfdmellleaaGreat
open Go.RowKit Plain
set_option linter.unusedVariables false

/-- w' is w behind an append to the row v, which is v' now. -/
structure Ap (w w' : World) (v v' : Value) : Prop where
  g : w.grownBy w' v.ownBlock
  own : v'.ownBlock = v.ownBlock ∨ v'.ownBlock = some w.heap.size
theorem Ap.kp {w w' W : World} {v v' : Value} (h : Ap w w' v v') (k : Kp W w) (hb : ∀ b, v.ownBlock = some b → W.heap.size ≤ b) : Kp W w' := k.grown h.g hb
theorem Ap.cell {w w' : World} {v v' : Value} (h : Ap w w' v v') {b o : Nat} {u : Value} (hb : v.ownBlock ≠ some b) (hc : w.cell? ⟨b, o, none⟩ = some u) : w'.cell? ⟨b, o, none⟩ = some u :=
  h.g.cell (a := ⟨b, o, none⟩) hc (fun e => hb e.symm)
theorem Ap.ne {w w' : World} {v v' : Value} (h : Ap w w' v v') {b : Nat} (hb : b < w.heap.size) (hv : v.ownBlock ≠ some b) : v'.ownBlock ≠ some b := by
  rcases h.own with e | e
  · rw [e]; exact hv
  · rw [e]; intro e2; have := Option.some.inj e2; omega
theorem Ap.size {w w' : World} {v v' : Value} (h : Ap w w' v v') : w.heap.size ≤ w'.heap.size := h.g.size
theorem Fb.app {w : World} {base : Nat} {v : Value} {n : Nat} {f : Nat → Nat} (hown : Fb w base v n f) (p k : Nat) (hc : w.cell? ⟨k, 0, none⟩ = some (.int .u8 (p : Int))) (hlen : n ≤ 1000) (hbase : base ≤ w.heap.size) (ty : TypeId) :
    ∃ v' w', (Builtin.append_ #[37, 37] ty #[v, .slice (some ⟨k, 0, none⟩) 1 1]).run Tryz.prog w = .ok v' w' ∧ Fb w' base v' (n + 1) (fun i => if i = n then p else f i) ∧ Ap w w' v v' := by
  obtain ⟨i0, hi, hz0, hz1, hz2⟩ := info_parts info_u8
  obtain ⟨v', w', hr, h2, h3, h4, h5⟩ := run_append_own_at (P := Tryz.prog) w base 37 ty 5 i0 (.int .u8 0) 1 1 Tryz.underlying37 hi hz0 hz1 hz2 rfl (by decide) v n _ hown ⟨k, 0, none⟩ 1 1 [.int .u8 (p : Int)] rfl (fun j u hj => by
    match j, hj with
    | 0, hj => simp at hj; subst hj; simpa [Addr.add] using hc) (by simp [Value.oneCell']) (by unfold maxLen; omega) (by omega) hbase
  refine ⟨v', w', hr, ?_, ⟨h3, h5⟩⟩
  unfold Fb
  rw [← Fb.snoc_list]
  exact h2
/-- a row of bytes that grows: the call's own, or one that is full. -/
def Fr (w : World) (base : Nat) (v : Value) (n : Nat) (f : Nat → Nat) : Prop := Fb w base v n f ∨ ∃ g, v = .slice (some ⟨g, 0, none⟩) n n ∧ base ≤ g ∧ g < w.heap.size ∧ ∀ j, j < n → w.cell? ⟨g, j, none⟩ = some (.int .u8 ((f j : Nat) : Int))
theorem Fr.kept {w w' : World} {base : Nat} {v : Value} {n : Nat} {f : Nat → Nat} (h : Fr w base v n f) (k : Kp w w') : Fr w' base v n f := by
  rcases h with h | ⟨g, h1, h2, h3, h4⟩
  · exact .inl (h.kept k)
  · exact .inr ⟨g, h1, h2, Nat.lt_of_lt_of_le h3 k.size, fun j hj => k.held (h4 j hj)⟩
theorem Fr.low {w : World} {base : Nat} {v : Value} {n : Nat} {f : Nat → Nat} (h : Fr w base v n f) : ∀ k, v.ownBlock = some k → base ≤ k ∧ k < w.heap.size := by
  rcases h with h | ⟨g, rfl, h2, h3, h4⟩
  · exact fun k hk => World.ownsRow.lt h k hk
  · intro k hk
    obtain rfl : g = k := Option.some.inj hk
    exact ⟨h2, h3⟩
theorem Fr.congr {w : World} {base : Nat} {v : Value} {n : Nat} {f g : Nat → Nat} (h : Fr w base v n f) (he : ∀ j, j < n → f j = g j) : Fr w base v n g := by
  rcases h with h | ⟨b, h1, h2, h3, h4⟩
  · exact .inl (h.congr he)
  · exact .inr ⟨b, h1, h2, h3, fun j hj => by rw [← he j hj]; exact h4 j hj⟩
theorem Fr.text {w : World} {base : Nat} {v : Value} {n : Nat} {f : Nat → Nat} (h : Fr w base v n f) (h0 : 0 < n) : (convert 37 9 v).run Tryz.prog w = .ok (.string (bs n f)) w := by
  rcases h with h | ⟨b, rfl, h2, h3, h4⟩
  · obtain ⟨g, cap, rfl, _⟩ := h.shape h0
    exact h.byt.text n cap (Nat.le_refl _)
  · refine run_convert_bytes_arg (P := Tryz.prog) w 37 5 Tryz.underlying37 Tryz.underlying5 b 0 n n ((List.range n).map fun i => ((f i : Nat) : Int)) (by simp) (fun i hi => ?_) 9 Tryz.underlying9
    rw [Nat.zero_add, h4 i (by simpa using hi)]
    simp only [List.getD_eq_getElem?_getD, List.getElem?_map]
    rw [List.getElem?_range (by simpa using hi)]
    rfl
theorem Fr.len {w : World} {base : Nat} {v : Value} {n : Nat} {f : Nat → Nat} (h : Fr w base v n f) (h0 : 0 < n) : ∃ g cap, v = .slice (some ⟨g, 0, none⟩) n cap := by
  rcases h with h | ⟨b, rfl, h2, h3, h4⟩
  · obtain ⟨g, cap, rfl, _⟩ := h.shape h0
    exact ⟨g, cap, rfl⟩
  · exact ⟨b, n, rfl⟩
theorem Fr.app {w : World} {base : Nat} {v : Value} {n : Nat} {f : Nat → Nat} (hown : Fr w base v n f) (p k : Nat) (hc : w.cell? ⟨k, 0, none⟩ = some (.int .u8 (p : Int))) (hlen : n ≤ 1000) (hbase : base ≤ w.heap.size) (ty : TypeId) :
    ∃ v' w', (Builtin.append_ #[37, 37] ty #[v, .slice (some ⟨k, 0, none⟩) 1 1]).run Tryz.prog w = .ok v' w' ∧ Fr w' base v' (n + 1) (fun i => if i = n then p else f i) ∧ Ap w w' v v' := by
  rcases hown with h | ⟨g, rfl, h2, h3, h4⟩
  · obtain ⟨v', w', hr, h5, h6⟩ := h.app p k hc hlen hbase ty
    exact ⟨v', w', hr, .inl h5, h6⟩
  · obtain ⟨i0, hi, hz0, hz1, hz2⟩ := info_parts info_u8
    have hxl : ((List.range n).map fun i => Value.int .u8 ((f i : Nat) : Int)).length = n * i0.size := by rw [hz1]; simp
    have hr := run_append_grow (P := Tryz.prog) w 37 ty 5 i0 (.int .u8 0) Tryz.underlying37 hi hz0 ⟨g, 0, none⟩ n n ((List.range n).map fun i => Value.int .u8 ((f i : Nat) : Int)) hxl (fun j u hj => by
        have hjn : j < n := by have := (List.getElem?_eq_some_iff.1 hj).1; simpa using this
        have hadd : (⟨g, 0, none⟩ : Addr).add j = ⟨g, j, none⟩ := by unfold Addr.add; split <;> simp_all
        rw [hadd, h4 j hjn]
        simp [hjn] at hj
        rw [hj]) ⟨k, 0, none⟩ 1 1 [.int .u8 (p : Int)] (by rw [hz1]; rfl) (fun j u hj => by
        match j, hj with
        | 0, hj => simp at hj; subst hj; simpa [Addr.add] using hc) (by omega) (by omega) (growslice_fits (by omega) (by rw [hz2]; omega))
    refine ⟨_, _, hr, .inl ?_, ⟨⟨rfl, rfl, rfl, by simp, fun j hj _ => heap_alloc_old w.drew _ hj⟩, .inr rfl⟩⟩
    unfold Fb
    rw [← Fb.snoc_list]
    have hge := grownCap_ge w (n + 1) n 5
    have hcm : grownCap w (n + 1) n 5 ≤ maxLen := grownCap_le_maxLen w (n + 1) n 5 (by unfold maxLen; omega)
    refine ⟨by simp, .inr ⟨w.heap.size, _, _, rfl, hbase, heap_alloc_new w.drew _, hge, hcm, ?_, ?_⟩⟩
    · simp only [Array.size_append, List.size_toArray, size_zeroCells]
      simp [Value.cells]
      omega
    · simp only [Array.toList_append, List.append_assoc]
      rw [← List.append_assoc]
      have e : (n + 1) * 1 = (((List.range n).map fun i => Value.int .u8 ((f i : Nat) : Int)) ++ [Value.int .u8 (p : Int)]).length := by simp
      rw [e]
      exact List.take_left
theorem Fr.next {w : World} {base : Nat} {v : Value} {n : Nat} {f g : Nat → Nat} {x : Nat} (h : Fr w base v (n + 1) (fun i => if i = n then x else f i)) (h1 : ∀ i, i < n → f i = g i) (h2 : x = g n) : Fr w base v (n + 1) g :=
  h.congr (fun i hi => by
    by_cases e : i = n
    · rw [if_pos e, e, h2]
    · rw [if_neg e]; exact h1 i (by omega))
theorem wpList_app_u8 {w : World} {ops : Array Oper} {rest : List Oper} {o : Oper} {a : Act} {Q : Exit → Act → World → Prop} (hgd : o.guard = none) (s x : Operand)
    (ho : o.op = .call { callee := .builtin .append, args := #[s, x], argTypes := #[37, 37] })
    (base : Nat) (v : Value) (n : Nat) (f : Nat → Nat) (hs : a.eval s = v) (hown : Fr w base v n f) (p k : Nat) (hx : a.eval x = .slice (some ⟨k, 0, none⟩) 1 1) (hc : w.cell? ⟨k, 0, none⟩ = some (.int .u8 (p : Int)))
    (hlen : n ≤ 1000) (hbase : base ≤ w.heap.size)
    (h : ∀ v' w', Fr w' base v' (n + 1) (fun i => if i = n then p else f i) → Ap w w' v v' → wpList Tryz.prog ops Q rest (a.put o.dst v') w') : wpList Tryz.prog ops Q (o :: rest) a w := by
  refine wpList_plain hgd fun K hK => ?_
  obtain ⟨v', w', hr, h2, h3⟩ := hown.app p k hc hlen hbase o.type
  unfold Oper.wp execOp
  simp only [ho, resolve, invoke, builtin, Sem.run_bind, Sem.run_pure, Result.andThen_ok, List.map_toArray, List.map_cons, List.map_nil, hs, hx, hr]
  exact hK _ _ (h v' w' h2 h3)
theorem step_app_u8 {w : World} {ops : Array Oper} {o : Oper} {a : Act} {K : Act → World → Prop} {Q : Exit → Act → World → Prop} {E : Prop} (hgd : o.guard = none) (s x : Operand)
    (ho : o.op = .call { callee := .builtin .append, args := #[s, x], argTypes := #[37, 37] })
    (base : Nat) (v : Value) (n : Nat) (f : Nat → Nat) (hs : a.eval s = v) (hown : Fr w base v n f) (p k : Nat) (hx : a.eval x = .slice (some ⟨k, 0, none⟩) 1 1) (hc : w.cell? ⟨k, 0, none⟩ = some (.int .u8 (p : Int)))
    (hlen : n ≤ 1000) (hbase : base ≤ w.heap.size)
    (cont : ∀ v' w', Fr w' base v' (n + 1) (fun i => if i = n then p else f i) → Ap w w' v v' → K (a.put o.dst v') w') : if Region.wanted o (yielded ops a.tmps) = true then Oper.wp Tryz.prog o a w K Q else E := by
  have hw : Region.wanted o (yielded ops a.tmps) = true := by simp [Region.wanted, hgd]
  rw [if_pos hw]
  obtain ⟨v', w', hrun, h1, h2⟩ := hown.app p k hc hlen hbase o.type
  unfold Oper.wp
  simp [execOp, ho, resolve, invoke, builtin, hs, hx, hrun, Result.andThen]
  exact cont v' w' h1 h2

/-! ### numbers: lists of whole numbers, lists of states -/
structure Ei (t e : TypeId) : Prop where
  u : Tryz.prog.underlying t = some (.slice e)
  i : (Tryz.prog.info? e).map (fun i => (i.zero, i.size, i.bytes)) = some (some (.int .i64 0), 1, 8)
theorem eiI : Ei 61 3 := ⟨Tryz.underlying61, by kernel_rfl⟩
theorem eiS : Ei 60 89 := ⟨Tryz.underlying60, by kernel_rfl⟩
def Oi (e : TypeId) (w : World) (base : Nat) (v : Value) (l : List Int) : Prop := w.ownsRow base e 1 v l.length (l.map (Value.int .i64))
theorem Oi.kept {e : TypeId} {w w' : World} {base : Nat} {v : Value} {l : List Int} (h : Oi e w base v l) (k : Kp w w') : Oi e w' base v l := k.own h
theorem Oi.nil (e : TypeId) (w : World) (base : Nat) : Oi e w base (.slice none 0 0) [] := World.ownsRow_nil _ _ _ _
theorem Oi.fe {e : TypeId} {w : World} {base : Nat} {v : Value} {l : List Int} (h : Oi e w base v l) : Fe e w base v l.length (fun i => l.getD i 0) := by
  have e : ((List.range l.length).map fun i => Value.int .i64 (l.getD i 0)) = l.map (Value.int .i64) := by
    apply List.ext_getElem?
    intro i
    rw [List.getElem?_map, List.getElem?_map]
    by_cases hi : i < l.length
    · rw [List.getElem?_range hi, List.getElem?_eq_getElem hi]
      simp [List.getD_eq_getElem?_getD, hi]
    · rw [List.getElem?_eq_none (by simpa using hi), List.getElem?_eq_none (by omega)]; rfl
  unfold Fe
  rw [e]
  exact h
theorem Oi.nums {e : TypeId} {w : World} {base : Nat} {v : Value} {l : List Int} (h : Oi e w base v l) : Nl w v l := by
  have h1 := h.fe.nums
  rwa [list_of l l.length (fun i => l.getD i 0) rfl (fun i _ => rfl)] at h1
theorem Oi.low {e : TypeId} {w : World} {base : Nat} {v : Value} {l : List Int} (h : Oi e w base v l) : ∀ k, v.ownBlock = some k → base ≤ k ∧ k < w.heap.size := fun k hk => World.ownsRow.lt h k hk
theorem Oi.app {t e : TypeId} (he : Ei t e) {w : World} {base : Nat} {v : Value} {l : List Int} (hown : Oi e w base v l) (p : Int) (k : Nat) (hc : w.cell? ⟨k, 0, none⟩ = some (.int .i64 p)) (hlen : l.length ≤ 1000) (hbase : base ≤ w.heap.size) (ty : TypeId) :
    ∃ v' w', (Builtin.append_ #[t, t] ty #[v, .slice (some ⟨k, 0, none⟩) 1 1]).run Tryz.prog w = .ok v' w' ∧ Oi e w' base v' (l ++ [p]) ∧ Ap w w' v v' := by
  obtain ⟨i0, hi, hz0, hz1, hz2⟩ := info_parts he.i
  obtain ⟨v', w', hr, h2, h3, h4, h5⟩ := run_append_own_at (P := Tryz.prog) w base t ty e i0 (.int .i64 0) 1 8 he.u hi hz0 hz1 hz2 rfl (by decide) v l.length _ hown ⟨k, 0, none⟩ 1 1 [.int .i64 p] rfl (fun j u hj => by
    match j, hj with
    | 0, hj => simp at hj; subst hj; simpa [Addr.add] using hc) (by simp [Value.oneCell']) (by unfold maxLen; omega) (by omega) hbase
  refine ⟨v', w', hr, ?_, ⟨h3, h5⟩⟩
  unfold Oi
  rw [List.length_append, List.map_append]
  exact h2
theorem step_app_i {t e : TypeId} (he : Ei t e) {w : World} {ops : Array Oper} {o : Oper} {a : Act} {K : Act → World → Prop} {Q : Exit → Act → World → Prop} {E : Prop} (hgd : o.guard = none) (s x : Operand)
    (ho : o.op = .call { callee := .builtin .append, args := #[s, x], argTypes := #[t, t] })
    (base : Nat) (v : Value) (l : List Int) (hs : a.eval s = v) (hown : Oi e w base v l) (p : Int) (k : Nat) (hx : a.eval x = .slice (some ⟨k, 0, none⟩) 1 1) (hc : w.cell? ⟨k, 0, none⟩ = some (.int .i64 p))
    (hlen : l.length ≤ 1000) (hbase : base ≤ w.heap.size)
    (cont : ∀ v' w', Oi e w' base v' (l ++ [p]) → Ap w w' v v' → K (a.put o.dst v') w') : if Region.wanted o (yielded ops a.tmps) = true then Oper.wp Tryz.prog o a w K Q else E := by
  have hw : Region.wanted o (yielded ops a.tmps) = true := by simp [Region.wanted, hgd]
  rw [if_pos hw]
  obtain ⟨v', w', hrun, h1, h2⟩ := hown.app he p k hc hlen hbase o.type
  unfold Oper.wp
  simp [execOp, ho, resolve, invoke, builtin, hs, hx, hrun, Result.andThen]
  exact cont v' w' h1 h2
/-- a row of a literal's. -/
theorem Fb.lit {w : World} (base : Nat) (hb : base ≤ w.heap.size) (cs : Array Value) (n : Nat) (hn : n = cs.size) (hm : n ≤ 1000) (f : Nat → Nat) (hc : cs.toList = (List.range n).map fun i => Value.int .u8 ((f i : Nat) : Int)) : Fb (w.alloc (.cells cs 5)) base (.slice (some ⟨w.heap.size, 0, none⟩) n n) n f := by
  refine ⟨by simp, .inr ⟨w.heap.size, n, cs, rfl, hb, heap_alloc_new w _, Nat.le_refl _, by unfold maxLen; omega, by omega, ?_⟩⟩
  rw [← hc, hn, Nat.mul_one, ← Array.length_toList, List.take_length]
theorem Fb.low {w : World} {base : Nat} {v : Value} {n : Nat} {f : Nat → Nat} (h : Fb w base v n f) : ∀ k, v.ownBlock = some k → base ≤ k ∧ k < w.heap.size := fun k hk => World.ownsRow.lt h k hk

end Go.Proofs.YtinpkfdmellleaaGreat

namespace Go.Proofs.YtinpkfdmellleaaGreat
open Go.RowKit Plain
set_option linter.unusedVariables false

theorem pb_ep (L : LB) (k : Nat) (h : k < 8) : be L.ep.toNat 8 k = pb L (4 + k) := by
  unfold pb
  rw [if_neg (by omega), if_pos (by omega)]
  congr 1; omega
theorem pb_mb (L : LB) (k : Nat) (h : k < L.sts.length) : mb L k = pb L (14 + k) := by
  unfold pb
  rw [if_neg (by omega), if_neg (by omega), if_neg (by omega), if_neg (by omega), if_pos (by omega)]
  congr 1; omega
theorem pb_past (L : LB) (k : Nat) (h : 14 + L.sts.length ≤ k) : pb L k = 0 := by
  unfold pb
  rw [if_neg (by omega), if_neg (by omega), if_neg (by omega), if_neg (by omega), if_neg (by omega)]
theorem tr_lit (L : LB) (w : World) (fr : Nat × Nat) : Fr (w.alloc (.cells #[.int .u8 84, .int .u8 82, .int .u8 85, .int .u8 78] 5 fr)) w.heap.size (.slice (some ⟨w.heap.size, 0, none⟩) 4 4) 4 (pb L) := by
  refine .inr ⟨w.heap.size, rfl, Nat.le_refl _, by simp, fun j hj => ?_⟩
  have := World.cell?_alloc_mark w #[.int .u8 84, .int .u8 82, .int .u8 85, .int .u8 78] 5 fr j
  refine this.trans ?_
  have hh : j = 0 ∨ j = 1 ∨ j = 2 ∨ j = 3 := by omega
  rcases hh with rfl | rfl | rfl | rfl <;> rfl
set_option maxRecDepth 100000 in
set_option maxHeartbeats 4000000 in
theorem rput_any (L : LB) (sv mv : Value) (w : World) (h1 : Nl w sv L.sts) (h2 : Nl w mv L.mks) : Calls Tryz.prog 63 #[lV L.n L.s L.ep sv mv] w fun e w' => e = .returned (.tuple #[.string (puS L), .int .i64 (puE L)]) ∧ Kp w w' := by
  have hG := fun w' (k : Kp w w') => rlgood_any L sv mv w' (h1.kept k) (h2.kept k)
  cases e1 : lg L with
  | false =>
    rw [show puS L = noS from if_neg (by simp [e1]), show puE L = 4 from if_neg (by simp [e1])]
    rw [e1] at hG
    unfold lV noS at *
    go_enter Tryz.func63, Tryz.ntmps63
    go_wp2_with fail
    refine (hG _ ((Kp.refl w).alloc _)).mono ?_; rintro e w1 ⟨rfl, k1⟩
    have K1 : Kp w w1 := ((Kp.refl w).alloc _).trans k1
    clear hG k1
    go_wp2
    go_ret2
    exact ⟨rfl, K1⟩
  | true =>
    rw [show puS L = ptS L from if_pos e1, show puE L = 0 from if_pos e1]
    rw [e1] at hG
    have GG := lg_gl e1
    have HGL : Hid (GL L) := GG
    have HSM := smN_lt (pb L) (pb_lt GG) 46
    have HPT : Hid (ptS L = bs 64 (sb L)) := rfl
    have HLL : Hid (L.sts.length ≤ 32) := by have := GG.l1; have := GG.n2; show L.sts.length ≤ 32; omega
    obtain ⟨P, hP⟩ : ∃ P, P = ptS L := ⟨_, rfl⟩
    rw [← hP] at HPT ⊢
    obtain ⟨SM, hSM⟩ : ∃ S, S = smN (pb L) 46 := ⟨_, rfl⟩
    rw [← hSM] at HSM
    have HM : Hid (SM = smN (pb L) 46) := hSM
    have HMB : Hid (∀ i, mb L i = (L.sts.getD i 0 * 64 + L.mks.getD i 0).toNat) := fun i => rfl
    have HEP : Hid (∀ k, k < 8 → be L.ep.toNat 8 k = pb L (4 + k)) := pb_ep L
    have H12 : Hid (pb L 12 = L.n.toNat ∧ pb L 13 = L.s.toNat) := ⟨rfl, rfl⟩
    have HPM : Hid (∀ k, k < L.sts.length → mb L k = pb L (14 + k)) := pb_mb L
    have HPP : Hid (∀ k, 14 + L.sts.length ≤ k → pb L k = 0) := pb_past L
    clear hP hSM e1
    obtain ⟨a1, g1, o1, p1, rfl, A1⟩ := h1
    obtain ⟨a2, g2, o2, p2, rfl, A2⟩ := h2
    obtain ⟨n1, n2, s1, s2, ep1, ep2, l1, l2, mm⟩ := GG
    obtain ⟨E, hE⟩ : ∃ E : Nat, L.ep = E := ⟨L.ep.toNat, by omega⟩
    obtain ⟨S, hS⟩ : ∃ S : Nat, L.s = S := ⟨L.s.toNat, by omega⟩
    obtain ⟨N, hN⟩ : ∃ N : Nat, L.n = N := ⟨L.n.toNat, by omega⟩
    have hl1 : L.sts.length = N := by omega
    have hl2 : L.mks.length = N := by omega
    rw [hE] at ep1 ep2 HEP hG ⊢
    rw [hS] at s1 s2 H12 hG ⊢
    rw [hN] at n1 n2 H12 hG ⊢
    have i1 := A1.ha
    have i2 := A2.ha
    have HA1 : Hid (∀ j, j < N → w.cell? ⟨g1, o1 + j, none⟩ = some (.int .i64 (L.sts.getD j 0))) := fun j hj => A1.c j (by omega)
    have HA2 : Hid (∀ j, j < N → w.cell? ⟨g2, o2 + j, none⟩ = some (.int .i64 (L.mks.getD j 0))) := fun j hj => A2.c j (by omega)
    have HMM : Hid (∀ j, j < N → 0 ≤ L.sts.getD j 0 ∧ L.sts.getD j 0 ≤ 2 ∧ 0 ≤ L.mks.getD j 0 ∧ L.mks.getD j 0 < 64) := fun j hj => mm j (by omega)
    rw [hl1] at i1 hG HPM HPP ⊢
    rw [hl2] at i2 hG ⊢
    clear A1 A2 l1 l2 mm hE hS hN hl1 hl2
    simp only [Int.toNat_natCast] at HEP H12
    unfold lV at hG ⊢
    go_enter Tryz.func63, Tryz.ntmps63
    go_wp2_with fail
    refine (hG _ ((Kp.refl w).alloc _)).mono ?_; rintro e w1 ⟨rfl, k1⟩
    have hLc : Lc w1 w.heap.size N S E (.slice a1 N p1) (.slice a2 N p2) := (Lc.new w _ _ _ _ _ _).kept k1
    have K1 : Hid (Kp w w1) := ((Kp.refl w).alloc _).trans k1
    have HLc : Hid (Lc w1 w.heap.size N S E (.slice a1 N p1) (.slice a2 N p2)) := hLc
    obtain ⟨c0, c1, c2, c3, c4⟩ := hLc.kept ((Kp.refl w1).alloc (.cells #[.int .u8 84, .int .u8 82, .int .u8 85, .int .u8 78] 5 (4, 5)))
    clear hG k1 hLc
    have hcs := Lib.run_convert_bytes_const (P := Tryz.prog) w1 37 5 #[.int .u8 84, .int .u8 82, .int .u8 85, .int .u8 78] 4 4 Tryz.underlying37 Tryz.underlying5
    obtain ⟨W2, hW2⟩ : ∃ W2, W2 = w1.alloc (.cells #[.int .u8 84, .int .u8 82, .int .u8 85, .int .u8 78] 5 (4, 5)) := ⟨_, rfl⟩
    have HW2 : Hid (W2 = w1.alloc (.cells #[.int .u8 84, .int .u8 82, .int .u8 85, .int .u8 78] 5 (4, 5))) := hW2
    have HF2 : Hid (Fr W2 w1.heap.size (.slice (some ⟨w1.heap.size, 0, none⟩) 4 4) 4 (pb L)) := by rw [hW2]; exact tr_lit L w1 _
    have KX2 : Hid (Kp w1 W2) := by rw [hW2]; exact (Kp.refl w1).alloc _
    have hb1 := big_any 8 E W2 (by omega) (by omega)
    rw [← hW2] at c0 c1 c2 c3 c4
    have hlt2 : w1.heap.size < W2.heap.size := by rw [hW2]; simp
    clear hW2
    have hcs2 : (convert 37 37 (.slice (some ⟨w1.heap.size, 0, none⟩) 4 4)).run Tryz.prog (w1.alloc (.cells #[.int .u8 84, .int .u8 82, .int .u8 85, .int .u8 78] 5)) = .ok (.slice (some ⟨w1.heap.size, 0, none⟩) 4 4) W2 := by rw [HW2.out]; exact hcs
    clear hcs HW2
    go_wp2_with fail
    clear hcs2
    refine hb1.mono ?_; rintro e w3 ⟨rfl, b3, k3⟩
    have HF3 : Hid (Fr w3 w1.heap.size (.slice (some ⟨w1.heap.size, 0, none⟩) 4 4) 4 (pb L)) := HF2.out.kept k3
    have KX3 : Hid (Kp w1 w3) := KX2.out.trans k3
    obtain ⟨eb, heb⟩ : ∃ eb, eb = W2.heap.size := ⟨_, rfl⟩
    rw [← heb] at b3 ⊢
    have HB3 : Hid (Byt w3 eb 8 (be E 8)) := b3
    have HN3 : Hid ((Value.slice (some ⟨w1.heap.size, 0, none⟩) 4 4).ownBlock ≠ some eb) := by
      intro h
      have h' : w1.heap.size = eb := Option.some.inj h
      omega
    clear hb1 b3 k3 HF2 KX2 c0 c1 c2 c3 c4 heb hlt2
    go_wp2
    go_loopw [5, 7] (fun v i wr => ∃ k : Nat, k ≤ 8 ∧ i = .int .i64 k ∧ Hid (Fr wr w1.heap.size v (4 + k) (pb L)) ∧ Hid (Kp w1 wr) ∧ Hid (∀ j, j < 8 → wr.cell? ⟨eb, j, none⟩ = some (.int .u8 (be E 8 j : Nat))) ∧ Hid (v.ownBlock ≠ some eb)) (fun _ i _ => 8 - (intOf i).toNat)
    case atStart => exact ⟨0, by omega, rfl, HF3, KX3, HB3.out.cell, HN3⟩
    case round =>
      clear HF3 KX3 HB3 HN3
      obtain ⟨k, hk, rfl, HF, KX, HC, HN⟩ := hrel
      by_cases hlt : k < 8
      · have f0 := HC.out k hlt
        have HE := HEP.out k hlt
        have hbe := be_lt E 8 k
        obtain ⟨x, hx⟩ : ∃ x, x = be E 8 k := ⟨_, rfl⟩
        rw [← hx] at f0 HE hbe
        have HEx : Hid (x = pb L (4 + k)) := HE
        have hlw : eb < wr.heap.size := World.block_lt_of_cell? _ _ f0
        clear hx HE
        go_wp2_with (at_builtin; refine wpList_app_u8 rfl _ _ rfl w1.heap.size _ (4 + k) (pb L) rfl (HF.out.kept ((Kp.refl wr).alloc _)) (x) _ rfl (by rw [World.cell?_alloc_at _ _ _ _ rfl]; rfl) (by omega) (by have := KX.out.size; simp; omega) ?_; intro v2 w9 f9 a9)
        have HF9 : Hid (Fr w9 w1.heap.size v2 (4 + (k + 1)) (pb L)) := f9.next (fun i _ => rfl) HEx.out
        have K9 : Hid (Kp w1 w9) := a9.kp (KX.out.alloc _) (fun b hb => (HF.out.low b hb).1)
        have HC9 : Hid (∀ j, j < 8 → w9.cell? ⟨eb, j, none⟩ = some (.int .u8 (be E 8 j : Nat))) := fun j hj => a9.cell HN.out (((Kp.refl wr).alloc _).held (HC.out j hj))
        have HN9 : Hid (v2.ownBlock ≠ some eb) := a9.ne (by simp; omega) HN.out
        clear f9 a9 f0 HF KX HC HN
        go_wp2
        go_roundw
        case rel => exact ⟨k + 1, by omega, by go_num, HF9, K9, HC9, HN9⟩
        case measure => simp [intOf]; omega
      · obtain rfl : k = 8 := by omega
        clear HC HN
        obtain ⟨c0, c1, c2, c3, c4⟩ := HLc.out.kept KX.out
        have eN : (N : Int) % 256 = N := by omega
        have eS : (S : Int) % 256 = S := by omega
        go_wp2_with (first
          | (at_builtin; refine wpList_app_u8 rfl _ _ rfl w1.heap.size _ (4 + 8) (pb L) rfl (HF.out.kept ((Kp.refl wr).alloc _)) (N) _ rfl (by rw [World.cell?_alloc_at _ _ _ _ rfl]; rfl) (by omega) (by have := KX.out.size; simp; omega) ?_; intro v2 w9 f9 a9; have HF9 : Hid (Fr w9 w1.heap.size v2 13 (pb L)) := f9.next (fun i _ => rfl) H12.out.1.symm; have K9 : Hid (Kp w1 w9) := a9.kp (KX.out.alloc _) (fun b hb => (HF.out.low b hb).1); clear f9 a9 HF KX c0 c1 c2 c3 c4; obtain ⟨c0, c1, c2, c3, c4⟩ := HLc.out.kept K9.out)
          | (at_builtin; refine wpList_app_u8 rfl _ _ rfl w1.heap.size _ (13) (pb L) rfl (HF9.out.kept ((Kp.refl w9).alloc _)) (S) _ rfl (by rw [World.cell?_alloc_at _ _ _ _ rfl]; rfl) (by omega) (by have := K9.out.size; simp; omega) ?_; intro v3 wa fa aa; have HFA : Hid (Fr wa w1.heap.size v3 14 (pb L)) := fa.next (fun i _ => rfl) H12.out.2.symm; have KA : Hid (Kp w1 wa) := aa.kp (K9.out.alloc _) (fun b hb => (HF9.out.low b hb).1); clear fa aa HF9 K9 c0 c1 c2 c3 c4))
        clear eN eS
        go_loopw [5, 8] (fun v i wr => ∃ k : Nat, k ≤ N ∧ i = .int .i64 k ∧ Hid (Fr wr w1.heap.size v (14 + k) (pb L)) ∧ Hid (Kp w1 wr)) (fun _ i _ => N - (intOf i).toNat)
        case atStart => exact ⟨0, by omega, rfl, HFA, KA⟩
        case round =>
          clear HFA KA
          obtain ⟨k, hk, rfl, HF, KX⟩ := hrel
          obtain ⟨c0, c1, c2, c3, c4⟩ := HLc.out.kept KX.out
          by_cases hlt : k < N
          · obtain rfl := i1 (by omega)
            obtain rfl := i2 (by omega)
            have d1 := (K1.out.trans KX.out).held (HA1.out k hlt)
            have d2 := (K1.out.trans KX.out).held (HA2.out k hlt)
            have hmm := HMM.out k hlt
            have hmb := HMB.out k
            have hpm := HPM.out k hlt
            obtain ⟨x, hx⟩ : ∃ x, x = L.sts.getD k 0 := ⟨_, rfl⟩
            obtain ⟨y, hy⟩ : ∃ y, y = L.mks.getD k 0 := ⟨_, rfl⟩
            rw [← hx] at d1 hmm hmb
            rw [← hy] at d2 hmm hmb
            obtain ⟨m1, m2, m3, m4⟩ := hmm
            obtain ⟨z, hz⟩ : ∃ z : Nat, 64 * x + y = z := ⟨(64 * x + y).toNat, by omega⟩
            have HZ : Hid (z = pb L (14 + k)) := by show z = _; rw [← hpm, hmb]; omega
            have hz8 : IntKind.u8.wrap (64 * x + y) = (z : Int) := by rw [IntKind.wrap_u8, hz]; omega
            have hz7 : IntKind.i64.wrap (64 * x) = 64 * x := by rw [IntKind.wrap_i64]; omega
            have hz6 : IntKind.i64.wrap (64 * x + y) = 64 * x + y := by rw [IntKind.wrap_i64]; omega
            clear hx hy hmb hz hpm
            go_wp2_with fail
            go_region_law (refine step_app_u8 (by rfl) (.tmp 54) (.tmp 68) (by rfl) w1.heap.size _ (14 + k) (pb L) (by rfl) (HF.out.kept (by first | exact ((Kp.refl wr).alloc _).drew | exact ((Kp.refl wr).drew).alloc _)) z wr.heap.size (by rfl) (by first | (rw [World.cell?_alloc_at _ _ _ _ rfl]; rfl) | (rw [World.cell?_drew, World.cell?_alloc_at _ _ _ _ rfl]; rfl)) (by omega) (by have := KX.out.size; simp; omega) ?_; intro v2 w9 f9 a9; have HF9 : Hid (Fr w9 w1.heap.size v2 (14 + (k + 1)) (pb L)) := f9.next (fun i _ => rfl) HZ.out; have K9 : Hid (Kp w1 w9) := a9.kp (KX.out.trans (by first | exact ((Kp.refl wr).alloc _).drew | exact ((Kp.refl wr).drew).alloc _)) (fun b hb => (HF.out.low b hb).1))
            all_goals (
              clear c0 c1 c2 c3 c4 d1 d2 hz8 hz7 hz6 HF KX f9 a9
              go_wp2
              go_roundw
              case rel => exact ⟨k + 1, by omega, by go_num, HF9, K9⟩
              case measure => simp [intOf]; omega)
          · obtain rfl : k = N := by omega
            go_wp2
            clear c0 c1 c2 c3 c4
            go_loopg [5] (32 - k) (fun g v wr => ∃ m : Nat, m + g = 46 ∧ 14 + k ≤ m ∧ Hid (Fr wr w1.heap.size v m (pb L)) ∧ Hid (Kp w1 wr))
            case atStart => exact ⟨14 + k, by omega, by omega, HF, KX⟩
            case round =>
              clear HF KX
              obtain ⟨m, hm, hm2, HF, KX⟩ := hrel
              obtain ⟨gr, cr, rfl⟩ := HF.out.len (by omega)
              by_cases hlt : m < 46
              · have HPm : Hid (0 = pb L m) := (HPP.out m hm2).symm
                go_wp2_with (at_builtin; refine wpList_app_u8 rfl _ _ rfl w1.heap.size _ (m) _ rfl (HF.out.kept ((Kp.refl wr).alloc _)) (0) _ rfl (by rw [World.cell?_alloc_at _ _ _ _ rfl]; rfl) (by omega) (by have := KX.out.size; simp; omega) ?_; intro v2 w9 f9 a9; have HF9 : Hid (Fr w9 w1.heap.size v2 (m + 1) (pb L)) := f9.next (fun i _ => rfl) HPm.out; have K9 : Hid (Kp w1 w9) := a9.kp (KX.out.alloc _) (fun b hb => (HF.out.low b hb).1); clear f9 a9 HF KX)
                go_roundg (gk - 1)
                case rel => exact ⟨m + 1, by omega, by omega, HF9, K9⟩
                case measure => omega
              · obtain rfl : m = 46 := by omega
                have hcv := HF.out.text (by omega)
                have hsl := rsum_any (bs 46 (pb L)) (by rw [bs_size]; omega) wr
                rw [sm_bs 46 _ (fun i _ => pb_lt HGL.out i), ← HM.out] at hsl
                obtain ⟨ST, hST⟩ : ∃ ST, ST = bs 46 (pb L) := ⟨_, rfl⟩
                rw [← hST] at hcv hsl
                clear hST
                have hb2 := big_any 4 SM wr (by omega) (by omega)
                go_wp2_with fail
                refine hsl.mono ?_; rintro e w5 ⟨rfl, rfl⟩
                clear hsl hcv
                go_wp2_with fail
                refine hb2.mono ?_; rintro e w6 ⟨rfl, b6, k6⟩
                have HF6 : Hid (Fr w6 w1.heap.size (.slice (some ⟨gr, 0, none⟩) 46 cr) (46 + 0) (sb L)) := (HF.out.kept k6).congr (fun i hi => by unfold sb; rw [if_pos hi])
                have K6 : Hid (Kp w1 w6) := KX.out.trans k6
                have HN6 : Hid ((Value.slice (some ⟨gr, 0, none⟩) 46 cr).ownBlock ≠ some w5.heap.size) := by
                  intro h
                  have h' : gr = w5.heap.size := Option.some.inj h
                  have := (HF.out.low gr rfl).2
                  omega
                obtain ⟨eb, heb⟩ : ∃ eb, eb = w5.heap.size := ⟨_, rfl⟩
                rw [← heb] at b6 HN6 ⊢
                have HB6 : Hid (Byt w6 eb 4 (be SM 4)) := b6
                clear hb2 b6 k6 HF KX heb
                go_wp2
                go_loopw [5, 11] (fun v i wr => ∃ k : Nat, k ≤ 4 ∧ i = .int .i64 k ∧ Hid (Fr wr w1.heap.size v (46 + k) (sb L)) ∧ Hid (Kp w1 wr) ∧ Hid (∀ j, j < 4 → wr.cell? ⟨eb, j, none⟩ = some (.int .u8 (be SM 4 j : Nat))) ∧ Hid (v.ownBlock ≠ some eb)) (fun _ i _ => 4 - (intOf i).toNat)
                case atStart => exact ⟨0, by omega, rfl, HF6, K6, HB6.out.cell, HN6⟩
                case round =>
                  clear HF6 K6 HB6 HN6
                  obtain ⟨j, hj, rfl, HF, KX, HC, HN⟩ := hrel
                  by_cases hlt : j < 4
                  · have f0 := HC.out j hlt
                    have hbe := be_lt SM 4 j
                    have HE : be SM 4 j = sb L (46 + j) := by unfold sb; rw [if_neg (by omega), if_pos (by omega), ← HM.out]; congr 1; omega
                    obtain ⟨x, hx⟩ : ∃ x, x = be SM 4 j := ⟨_, rfl⟩
                    rw [← hx] at f0 HE hbe
                    have HEx : Hid (x = sb L (46 + j)) := HE
                    have hlw : eb < wr.heap.size := World.block_lt_of_cell? _ _ f0
                    clear hx HE
                    go_wp2_with (at_builtin; refine wpList_app_u8 rfl _ _ rfl w1.heap.size _ (46 + j) _ rfl (HF.out.kept ((Kp.refl wr).alloc _)) (x) _ rfl (by rw [World.cell?_alloc_at _ _ _ _ rfl]; rfl) (by omega) (by have := KX.out.size; simp; omega) ?_; intro v2 w9 f9 a9; have HF9 : Hid (Fr w9 w1.heap.size v2 (46 + (j + 1)) (sb L)) := f9.next (fun i _ => rfl) HEx.out; have K9 : Hid (Kp w1 w9) := a9.kp (KX.out.alloc _) (fun b hb => (HF.out.low b hb).1); have HC9 : Hid (∀ j, j < 4 → w9.cell? ⟨eb, j, none⟩ = some (.int .u8 (be SM 4 j : Nat))) := fun j hj => a9.cell HN.out (((Kp.refl wr).alloc _).held (HC.out j hj)); have HN9 : Hid (v2.ownBlock ≠ some eb) := a9.ne (by simp; omega) HN.out; clear f9 a9 f0 HF KX HC HN)
                    go_roundw
                    case rel => exact ⟨j + 1, by omega, by go_num, HF9, K9, HC9, HN9⟩
                    case measure => simp [intOf]; omega
                  · obtain rfl : j = 4 := by omega
                    clear HC HN
                    go_wp2
                    go_loopg [5] 14 (fun g v wr => ∃ m : Nat, m + g = 64 ∧ 50 ≤ m ∧ Hid (Fr wr w1.heap.size v m (sb L)) ∧ Hid (Kp w1 wr))
                    case atStart => exact ⟨50, by omega, by omega, HF, KX⟩
                    case round =>
                      clear HF KX
                      obtain ⟨m, hm, hm2, HF, KX⟩ := hrel
                      obtain ⟨gr, cr, rfl⟩ := HF.out.len (by omega)
                      by_cases hlt : m < 64
                      · have HPm : Hid (0 = sb L m) := by show 0 = _; unfold sb; rw [if_neg (by omega), if_neg (by omega)]
                        go_wp2_with (at_builtin; refine wpList_app_u8 rfl _ _ rfl w1.heap.size _ (m) _ rfl (HF.out.kept ((Kp.refl wr).alloc _)) (0) _ rfl (by rw [World.cell?_alloc_at _ _ _ _ rfl]; rfl) (by omega) (by have := KX.out.size; simp; omega) ?_; intro v2 w9 f9 a9; have HF9 : Hid (Fr w9 w1.heap.size v2 (m + 1) (sb L)) := f9.next (fun i _ => rfl) HPm.out; have K9 : Hid (Kp w1 w9) := a9.kp (KX.out.alloc _) (fun b hb => (HF.out.low b hb).1); clear f9 a9 HF KX)
                        go_roundg (gk - 1)
                        case rel => exact ⟨m + 1, by omega, by omega, HF9, K9⟩
                        case measure => omega
                      · obtain rfl : m = 64 := by omega
                        have hcv := HF.out.text (by omega)
                        rw [← HPT.out] at hcv
                        have KF : Hid (Kp w wr) := K1.out.trans KX.out
                        clear HF KX
                        go_wp2
                        go_ret2
                        exact ⟨rfl, KF.out⟩

end Go.Proofs.YtinpkfdmellleaaGreat
