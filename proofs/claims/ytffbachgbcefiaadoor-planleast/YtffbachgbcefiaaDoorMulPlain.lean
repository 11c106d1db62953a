/-
  Plain arithmetic of the document's product of two elements: fifteen coefficients kept as one number, their sums, the remainder; it is the sum of the doublings that Times takes. No condition but that both are bytes.
-/
import Derived.Test.YtffbachgbcefiaaDoorLanePlain
namespace Go.Proofs.YtffbachgbcefiaaDoor.Plain

/-- bit m of P. -/
def bt (P m : Nat) : Nat := P / 2 ^ m % 2
def qb (a i : Nat) : Nat := a / 2 ^ i
def term (a b i k : Nat) : Nat := qb a i % 2 * (qb b k % 2) * 2 ^ (i + k)
def inn (a b i P : Nat) : Nat → Nat
  | 0 => P
  | k + 1 => inn a b i P k ^^^ term a b i k
def out (a b : Nat) : Nat → Nat
  | 0 => 0
  | i + 1 => inn a b i (out a b i) 8
def poly (m : Nat) : Nat := 2 ^ m ^^^ 2 ^ (m - 4) ^^^ 2 ^ (m - 5) ^^^ 2 ^ (m - 6) ^^^ 2 ^ (m - 8)
def rd (P : Nat) : Nat → Nat
  | 0 => P
  | r + 1 => if bt (rd P r) (14 - r) = 1 then rd P r ^^^ poly (14 - r) else rd P r
def mlN (a b : Nat) : Nat := rd (out a b 8) 7 % 256

theorem bt_lt (P m : Nat) : bt P m < 2 := Nat.mod_lt _ (by omega)
theorem bt_xor (P Q m : Nat) : bt (P ^^^ Q) m = bt P m ^^^ bt Q m := bit_xor P Q m
theorem term_lin (a b d i k : Nat) : term a (b ^^^ d) i k = term a b i k ^^^ term a d i k := by
  have h : qb (b ^^^ d) k % 2 = (qb b k % 2) ^^^ (qb d k % 2) := bit_xor b d k
  have h1 : qb a i % 2 = 0 ∨ qb a i % 2 = 1 := by omega
  have h2 : qb b k % 2 = 0 ∨ qb b k % 2 = 1 := by omega
  have h3 : qb d k % 2 = 0 ∨ qb d k % 2 = 1 := by omega
  unfold term
  rcases h1 with h1 | h1 <;> rcases h2 with h2 | h2 <;> rcases h3 with h3 | h3 <;> rw [h2, h3] at h <;> rw [h, h1, h2, h3] <;> simp
theorem inn_lin (a b d i P Q : Nat) : ∀ k, inn a (b ^^^ d) i (P ^^^ Q) k = inn a b i P k ^^^ inn a d i Q k
  | 0 => rfl
  | k + 1 => by simp only [inn]; rw [inn_lin a b d i P Q k, term_lin]; exact xor_swap _ _ _ _
theorem out_lin (a b d : Nat) : ∀ i, out a (b ^^^ d) i = out a b i ^^^ out a d i
  | 0 => by simp [out]
  | i + 1 => by simp only [out]; rw [out_lin a b d i, inn_lin]
theorem rd_lin (P Q : Nat) : ∀ r, rd (P ^^^ Q) r = rd P r ^^^ rd Q r
  | 0 => rfl
  | r + 1 => by
    have ih := rd_lin P Q r
    simp only [rd]
    rw [ih, bt_xor]
    have h1 : bt (rd P r) (14 - r) = 0 ∨ bt (rd P r) (14 - r) = 1 := by have := bt_lt (rd P r) (14 - r); omega
    have h2 : bt (rd Q r) (14 - r) = 0 ∨ bt (rd Q r) (14 - r) = 1 := by have := bt_lt (rd Q r) (14 - r); omega
    generalize poly (14 - r) = t
    generalize rd P r = p at *
    generalize rd Q r = q at *
    rcases h1 with h1 | h1 <;> rcases h2 with h2 | h2 <;> simp [h1, h2]
    · rw [Nat.xor_assoc]
    · rw [Nat.xor_assoc, Nat.xor_comm q t, ← Nat.xor_assoc]
    · rw [xor_swap p t q t]; simp
theorem ml_lin (a b d : Nat) : mlN a (b ^^^ d) = mlN a b ^^^ mlN a d := by
  unfold mlN; rw [out_lin, rd_lin]; exact Nat.xor_mod_two_pow (n := 8)
theorem tbS_sum (x c d : Nat) : ∀ n, tbS x (c ^^^ d) n = tbS x c n ^^^ tbS x d n
  | 0 => by simp [tbS]
  | n + 1 => by
    have hb := bit_xor c d n
    have hc : c / 2 ^ n % 2 = 0 ∨ c / 2 ^ n % 2 = 1 := by omega
    have hd : d / 2 ^ n % 2 = 0 ∨ d / 2 ^ n % 2 = 1 := by omega
    have ih := tbS_sum x c d n
    simp only [tbS]
    generalize tbI x n = t
    generalize tbS x c n = p at *
    generalize tbS x d n = q at *
    rw [ih]
    rcases hc with hc | hc <;> rcases hd with hd | hd <;> rw [hc, hd] at hb <;> simp [hb, hc, hd]
    · rw [Nat.xor_assoc]
    · rw [Nat.xor_assoc, Nat.xor_comm q t, ← Nat.xor_assoc]
    · rw [xor_swap p t q t]; simp
theorem lin_zero {F : Nat → Nat} (hF : ∀ c d, F (c ^^^ d) = F c ^^^ F d) : F 0 = 0 := by
  have h := hF 0 0
  simp at h; exact h
theorem pow_add (n r : Nat) (hn : n < 8) (h : r < 2 ^ n) : 2 ^ n ^^^ r = 2 ^ n + r := by
  have key : ∀ n, n < 8 → ∀ r, r < 256 → r < 2 ^ n → 2 ^ n ^^^ r = 2 ^ n + r := by decide +kernel
  have hp : 2 ^ n ≤ 2 ^ 8 := Nat.pow_le_pow_right (by omega) (by omega)
  exact key n hn r (by omega) h
theorem lin_basis {F G : Nat → Nat} (hF : ∀ c d, F (c ^^^ d) = F c ^^^ F d) (hG : ∀ c d, G (c ^^^ d) = G c ^^^ G d) (hb : ∀ j, j < 8 → F (2 ^ j) = G (2 ^ j)) :
    ∀ n, n ≤ 8 → ∀ c, c < 2 ^ n → F c = G c
  | 0, _, c, hc => by
    have : c = 0 := by simpa using hc
    rw [this, lin_zero hF, lin_zero hG]
  | n + 1, hn, c, hc => by
    by_cases h : c < 2 ^ n
    · exact lin_basis hF hG hb n (by omega) c h
    · rw [Nat.pow_succ] at hc
      have e : c = 2 ^ n ^^^ (c - 2 ^ n) := by rw [pow_add n _ (by omega) (by omega)]; omega
      rw [e, hF, hG, hb n (by omega), lin_basis hF hG hb n (by omega) (c - 2 ^ n) (by omega)]
theorem ml_base : ∀ a, a < 256 → ∀ j, j < 8 → mlN a (2 ^ j) = tbS a (2 ^ j) 8 := by decide +kernel
theorem ml_is (a c : Nat) (ha : a < 256) (hc : c < 256) : mlN a c = tbS a c 8 :=
  lin_basis (F := mlN a) (G := fun c => tbS a c 8) (ml_lin a) (fun c d => tbS_sum a c d 8) (ml_base a ha) 8 (by omega) c hc

end Go.Proofs.YtffbachgbcefiaaDoor.Plain
