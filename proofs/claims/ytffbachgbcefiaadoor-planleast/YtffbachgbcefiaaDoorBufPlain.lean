/-
  Buffers, in plain arithmetic: a text by its bytes (bs); sums, products, doubles of buffers byte by byte; the eight bytes of a word of a buffer. No condition.
-/
import Derived.Test.YtffbachgbcefiaaDoorStrs
import Derived.Test.YtffbachgbcefiaaDoorGfPlain
namespace Go.Proofs.YtffbachgbcefiaaDoor
open Go.RowKit Plain

/-- the text of n bytes whose byte at i is f i. -/
def bs (n : Nat) (f : Nat → Nat) : ByteArray := strOfNums ((List.range n).map fun i => ((f i : Nat) : Int))
theorem bs_size (n : Nat) (f : Nat → Nat) : (bs n f).size = n := by
  show (((List.range n).map _).map _).toArray.size = n
  simp
theorem bs_congr {n : Nat} {f g : Nat → Nat} (h : ∀ i, i < n → f i = g i) : bs n f = bs n g := by
  unfold bs
  congr 1
  apply List.map_congr_left
  intro i hi
  rw [h i (List.mem_range.1 hi)]
theorem bAt_nat (s : ByteArray) (i : Nat) (h : i < s.size) : bAt s (i : Int) = (s[i]'h).toNat := by
  unfold bAt
  rw [dif_pos ⟨by omega, by omega⟩]
  simp
theorem bAt_past (s : ByteArray) (i : Nat) (h : s.size ≤ i) : bAt s (i : Int) = 0 := by
  unfold bAt
  rw [dif_neg (by omega)]
theorem bAt_get (s : ByteArray) (i : Nat) : bAt s (i : Int) = (s.data.toList.getD i 0).toNat := by
  by_cases h : i < s.size
  · rw [bAt_nat s i h, List.getD_eq_getElem?_getD, List.getElem?_eq_getElem (by simpa using h)]
    simp [ByteArray.getElem_eq_getElem_data]
  · rw [bAt_past s i (by omega), List.getD_eq_getElem?_getD, List.getElem?_eq_none (by simpa using h)]
    rfl
theorem bAt_bs (n : Nat) (f : Nat → Nat) (i : Nat) (h : i < n) (hf : f i < 256) : bAt (bs n f) (i : Int) = f i := by
  rw [bAt_get]
  unfold bs strOfNums
  simp [List.getD_eq_getElem?_getD, h]
  omega
theorem bs_ext {s t : ByteArray} (hn : s.size = t.size) (h : ∀ i, i < s.size → bAt s (i : Int) = bAt t (i : Int)) : s = t := by
  have hd : s.data.toList = t.data.toList := by
    apply List.ext_getElem
    · simpa using hn
    · intro i h1 h2
      have h1' : i < s.size := by simpa using h1
      have h2' : i < t.size := by simpa using h2
      have := h i h1'
      rw [bAt_nat s i h1', bAt_nat t i h2'] at this
      have e := UInt8.toNat_inj.1 this
      simpa [ByteArray.getElem_eq_getElem_data] using e
  have hd2 : s.data = t.data := Array.toList_inj.1 hd
  cases s; cases t
  simp only at hd2
  rw [hd2]
theorem bs_self (s : ByteArray) : bs s.size (fun i => bAt s (i : Int)) = s := by
  apply bs_ext
  · rw [bs_size]
  · intro i hi
    rw [bs_size] at hi
    rw [bAt_bs _ _ _ hi (bAt_lt s _)]

/-! ### the bytes of a word -/
theorem byN_xor (x y k : Nat) : (x ^^^ y) / 256 ^ k % 256 = (x / 256 ^ k % 256) ^^^ (y / 256 ^ k % 256) := by
  have e : (256 : Nat) ^ k = 2 ^ (8 * k) := by rw [Nat.pow_mul]
  rw [e]
  have h1 := Nat.xor_div_two_pow (a := x) (b := y) (n := 8 * k)
  have h2 := Nat.xor_mod_two_pow (a := x / 2 ^ (8 * k)) (b := y / 2 ^ (8 * k)) (n := 8)
  rw [h1]; exact h2
theorem ldS_byte (s : ByteArray) (p : Int) : ∀ n k, k < n → ldS s p n / 256 ^ k % 256 = bAt s (p + k)
  | 0, _, h => by omega
  | n + 1, k, h => by
    have hl := ldS_lt s p n
    have hb := bAt_lt s (p + n)
    have e : (2 : Nat) ^ (8 * n) = 256 ^ n := by rw [Nat.pow_mul]
    simp only [ldS]
    rw [e] at hl ⊢
    by_cases hk : k = n
    · subst hk
      rw [Nat.add_mul_div_right _ _ (Nat.pow_pos (by omega)), Nat.div_eq_of_lt hl]; omega
    · have ih := ldS_byte s p n k (by omega)
      obtain ⟨m, rfl⟩ : ∃ m, n = k + 1 + m := ⟨n - k - 1, by omega⟩
      have e2 : bAt s (p + (k + 1 + m : Nat)) * 256 ^ (k + 1 + m) = bAt s (p + (k + 1 + m : Nat)) * 256 ^ m * 256 * 256 ^ k := by
        rw [Nat.pow_add, Nat.pow_add, Nat.pow_one, Nat.mul_comm (256 ^ k * 256) (256 ^ m), Nat.mul_comm (256 ^ k) 256]
        simp only [Nat.mul_assoc]
      rw [e2, Nat.add_mul_div_right _ _ (Nat.pow_pos (by omega)), Nat.add_mul_mod_self_right]
      exact ih
theorem tm_byte (x c k : Nat) (hx : x < 18446744073709551616) (hk : k < 8) : tmN x c / 256 ^ k % 256 = ml (x / 256 ^ k % 256) c := by
  rw [tm_lm x c hx, lm_byte (fun b hb => tbS_lt b c hb 8) 8 k x hk]; rfl
theorem tw_byte (x k : Nat) (hk : k < 8) : twN x / 256 ^ k % 256 = ml (x / 256 ^ k % 256) 2 := by
  rw [tw_lm, lm_byte tb_lt 8 k x hk, ml_two _ (Nat.mod_lt _ (by omega))]

/-- the byte at i of the text that is made of the words wd. -/
def wbF (wd : Nat → Nat) (i : Nat) : Nat := wd (8 * (i / 8)) / 256 ^ (i % 8) % 256
theorem wbF_lt (wd : Nat → Nat) (i : Nat) : wbF wd i < 256 := Nat.mod_lt _ (by omega)
theorem place (i : Nat) : ((8 * (i / 8) : Nat) : Int) + ((i % 8 : Nat) : Int) = (i : Int) := by omega

/-! ### what is made of buffers -/
def foldS (acc : ByteArray) (c : Nat) (s : ByteArray) : ByteArray := bs s.size (fun i => bAt acc i ^^^ ml c (bAt s i))
def scaleS (c : Nat) (s : ByteArray) : ByteArray := bs s.size (fun i => ml c (bAt s i))
def noS : ByteArray := ⟨#[]⟩
def addS : List ByteArray → ByteArray
  | [] => noS
  | s :: r => r.foldl (fun o t => foldS o 1 t) s
def xorL (l : List ByteArray) (i : Nat) : Nat := l.foldl (fun x s => x ^^^ bAt s i) 0
theorem foldS_size (a : ByteArray) (c : Nat) (s : ByteArray) : (foldS a c s).size = s.size := bs_size _ _
theorem scaleS_size (c : Nat) (s : ByteArray) : (scaleS c s).size = s.size := bs_size _ _
theorem fold_byte_lt (a : ByteArray) (c : Nat) (hc : c < 256) (s : ByteArray) (i : Int) : bAt a i ^^^ ml c (bAt s i) < 256 := xor_lt _ _ (bAt_lt _ _) (ml_lt _ _ hc)
theorem foldS_at (a : ByteArray) (c : Nat) (hc : c < 256) (s : ByteArray) (i : Nat) (h : i < s.size) : bAt (foldS a c s) i = bAt a i ^^^ ml c (bAt s i) := bAt_bs _ _ _ h (fold_byte_lt a c hc s i)
theorem scaleS_at (c : Nat) (hc : c < 256) (s : ByteArray) (i : Nat) (h : i < s.size) : bAt (scaleS c s) i = ml c (bAt s i) := bAt_bs _ _ _ h (ml_lt _ _ hc)
theorem addS_fold : ∀ (r : List ByteArray) (o : ByteArray), (∀ t ∈ r, t.size = o.size) → r.foldl (fun o t => foldS o 1 t) o = bs o.size (fun i => r.foldl (fun x t => x ^^^ bAt t i) (bAt o i))
  | [], o, _ => (bs_self o).symm
  | t :: r, o, h => by
    have ht : t.size = o.size := h t (by simp)
    have ih := addS_fold r (foldS o 1 t) (fun u hu => by rw [foldS_size, h u (by simp [hu]), ht])
    simp only [List.foldl_cons]
    rw [ih, foldS_size, ht]
    apply bs_congr
    intro i hi
    rw [foldS_at o 1 (by omega) t i (by omega), ml_one_left _ (bAt_lt _ _)]
theorem addS_is (s : ByteArray) (r : List ByteArray) (h : ∀ t ∈ r, t.size = s.size) : addS (s :: r) = bs s.size (xorL (s :: r)) := by
  show r.foldl (fun o t => foldS o 1 t) s = _
  rw [addS_fold r s h]
  apply bs_congr
  intro i _
  unfold xorL
  simp only [List.foldl_cons, Nat.zero_xor]

/-! the four words, byte by byte -/
def addW (l : List ByteArray) (p : Nat) : Nat := l.foldl (fun x s => x ^^^ ldS s p 8) 0
def scaleW (c : Nat) (s : ByteArray) (p : Nat) : Nat := tmN (ldS s p 8) c
def foldW (a : ByteArray) (c : Nat) (s : ByteArray) (p : Nat) : Nat := ldS a p 8 ^^^ tmN (ldS s p 8) c
def doubleW (a s : ByteArray) (p : Nat) : Nat := twN (ldS a p 8) ^^^ ldS s p 8
theorem ld_byte (s : ByteArray) (i : Nat) : ldS s (8 * (i / 8) : Nat) 8 / 256 ^ (i % 8) % 256 = bAt s (i : Int) := by
  rw [ldS_byte s _ 8 (i % 8) (Nat.mod_lt _ (by omega)), place]
theorem addW_byte_go (i : Nat) : ∀ (l : List ByteArray) (x y : Nat), x / 256 ^ (i % 8) % 256 = y → (l.foldl (fun x s => x ^^^ ldS s (8 * (i / 8) : Nat) 8) x) / 256 ^ (i % 8) % 256 = l.foldl (fun x s => x ^^^ bAt s i) y
  | [], _, _, h => h
  | s :: r, x, y, h => by
    simp only [List.foldl_cons]
    apply addW_byte_go i r
    rw [byN_xor, h, ld_byte]
theorem addW_byte (l : List ByteArray) (i : Nat) : wbF (addW l) i = xorL l i := by
  unfold wbF addW xorL
  exact addW_byte_go i l 0 0 (by simp)
theorem scaleW_byte (c : Nat) (hc : c < 256) (s : ByteArray) (i : Nat) : wbF (scaleW c s) i = ml c (bAt s i) := by
  unfold wbF scaleW
  rw [tm_byte _ _ _ (ldS_lt64 s _ 8 (by omega)) (Nat.mod_lt _ (by omega)), ld_byte, ml_comm _ _ (bAt_lt _ _) hc]
theorem foldW_byte (a : ByteArray) (c : Nat) (hc : c < 256) (s : ByteArray) (i : Nat) : wbF (foldW a c s) i = bAt a i ^^^ ml c (bAt s i) := by
  unfold wbF foldW
  rw [byN_xor, tm_byte _ _ _ (ldS_lt64 s _ 8 (by omega)) (Nat.mod_lt _ (by omega)), ld_byte, ld_byte, ml_comm _ _ (bAt_lt _ _) hc]
theorem doubleW_byte (a s : ByteArray) (i : Nat) : wbF (doubleW a s) i = bAt s i ^^^ ml 2 (bAt a i) := by
  unfold wbF doubleW
  rw [byN_xor, tw_byte _ _ (Nat.mod_lt _ (by omega)), ld_byte, ld_byte, ml_comm _ _ (bAt_lt _ _) (by omega), Nat.xor_comm]
theorem addW_lt (l : List ByteArray) (p : Nat) : addW l p < 18446744073709551616 := by
  have key : ∀ (l : List ByteArray) (x : Nat), x < 18446744073709551616 → l.foldl (fun x s => x ^^^ ldS s p 8) x < 18446744073709551616 := by
    intro l
    induction l with
    | nil => intro x h; exact h
    | cons s r ih => intro x h; exact ih _ (xor64 _ _ h (ldS_lt64 s _ 8 (by omega)))
  exact key l 0 (by omega)
theorem scaleW_lt (c : Nat) (s : ByteArray) (p : Nat) : scaleW c s p < 18446744073709551616 := tm_lt _ _ (ldS_lt64 s _ 8 (by omega))
theorem foldW_lt (a : ByteArray) (c : Nat) (s : ByteArray) (p : Nat) : foldW a c s p < 18446744073709551616 := xor64 _ _ (ldS_lt64 a _ 8 (by omega)) (tm_lt _ _ (ldS_lt64 s _ 8 (by omega)))
theorem doubleW_lt (a s : ByteArray) (p : Nat) : doubleW a s p < 18446744073709551616 := xor64 _ _ (tw_lt _) (ldS_lt64 s _ 8 (by omega))
theorem scale_is (c : Nat) (hc : c < 256) (s : ByteArray) : bs s.size (wbF (scaleW c s)) = scaleS c s := bs_congr fun i _ => scaleW_byte c hc s i
theorem fold_is (a : ByteArray) (c : Nat) (hc : c < 256) (s : ByteArray) : bs s.size (wbF (foldW a c s)) = foldS a c s := bs_congr fun i _ => foldW_byte a c hc s i
theorem double_is (a s : ByteArray) : bs a.size (wbF (doubleW a s)) = foldS s 2 a := bs_congr fun i _ => doubleW_byte a s i
theorem add_is (s : ByteArray) (r : List ByteArray) (h : ∀ t ∈ r, t.size = s.size) : bs s.size (wbF (addW (s :: r))) = addS (s :: r) := by
  rw [addS_is s r h]; exact bs_congr fun i _ => addW_byte _ i

/-! ### the laws of sums and products -/
def zs (n : Nat) : ByteArray := bs n (fun _ => 0)
theorem zs_size (n : Nat) : (zs n).size = n := bs_size _ _
theorem zs_at (n i : Nat) : bAt (zs n) (i : Int) = 0 := by
  by_cases h : i < n
  · exact bAt_bs n _ i h (by omega)
  · exact bAt_past _ i (by rw [zs_size]; omega)
theorem fold_zs (c : Nat) (s : ByteArray) (n : Nat) : foldS (zs n) c s = scaleS c s := bs_congr fun i _ => by rw [zs_at, Nat.zero_xor]
theorem fold_back (x y : ByteArray) (c : Nat) (hc : c < 256) (h : y.size = x.size) : foldS (foldS x c y) c y = x := by
  apply bs_ext
  · rw [foldS_size, h]
  · intro i hi
    rw [foldS_size] at hi
    rw [foldS_at _ c hc y i hi, foldS_at _ c hc y i hi, Nat.xor_assoc, Nat.xor_self, Nat.xor_zero]
theorem fold_comm (x y : ByteArray) (h : y.size = x.size) : foldS x 1 y = foldS y 1 x := by
  unfold foldS
  rw [h]
  exact bs_congr fun i _ => by rw [ml_one_left _ (bAt_lt _ _), ml_one_left _ (bAt_lt _ _), Nat.xor_comm]
theorem scale_comm (c d : Nat) (hc : c < 256) (hd : d < 256) (x : ByteArray) : scaleS d (scaleS c x) = scaleS c (scaleS d x) := by
  apply bs_ext
  · simp only [scaleS_size]
  · intro i hi
    simp only [scaleS_size] at hi
    rw [scaleS_at d hd _ i (by rw [scaleS_size]; exact hi), scaleS_at c hc _ i hi, scaleS_at c hc _ i (by rw [scaleS_size]; exact hi), scaleS_at d hd _ i hi]
    rw [ml_assoc d c _ hd hc (bAt_lt _ _), ml_assoc c d _ hc hd (bAt_lt _ _), ml_comm c d hc hd]
theorem bAt_append (a b : ByteArray) (i : Nat) : bAt (a ++ b) (i : Int) = if i < a.size then bAt a (i : Int) else bAt b ((i - a.size : Nat) : Int) := by
  rw [bAt_get, bAt_get, bAt_get]
  have e : (a ++ b).data.toList = a.data.toList ++ b.data.toList := by simp [ByteArray.data_append]
  have hs : a.data.toList.length = a.size := by simp
  rw [e]
  simp only [List.getD_eq_getElem?_getD, List.getElem?_append, hs]
  split <;> rfl
theorem bAt_extract (s : ByteArray) (a b i : Nat) (hb : b ≤ s.size) (h : i < b - a) : bAt (s.extract a b) (i : Int) = bAt s ((a + i : Nat) : Int) := by
  have hs : (s.extract a b).size = b - a := by rw [ByteArray.size_extract]; omega
  rw [bAt_nat _ i (by omega), bAt_nat _ (a + i) (by omega)]
  congr 1
  exact ByteArray.getElem_extract _
theorem extract_size (s : ByteArray) (a b : Nat) (hb : b ≤ s.size) : (s.extract a b).size = b - a := by rw [ByteArray.size_extract]; omega
theorem fold_parts (x y : ByteArray) (c : Nat) (hc : c < 256) (h : y.size = x.size) (k : Nat) (hk : k ≤ x.size) :
    foldS x c y = foldS (x.extract 0 k) c (y.extract 0 k) ++ foldS (x.extract k x.size) c (y.extract k y.size) := by
  have s1 : (y.extract 0 k).size = k := by rw [extract_size _ _ _ (by omega)]; omega
  have s2 : (y.extract k y.size).size = y.size - k := extract_size _ _ _ (Nat.le_refl _)
  apply bs_ext
  · rw [ByteArray.size_append, foldS_size, foldS_size, foldS_size, s1, s2]; omega
  · intro i hi
    rw [foldS_size] at hi
    rw [bAt_append, foldS_size, s1, foldS_at x c hc y i hi]
    by_cases hik : i < k
    · rw [if_pos hik, foldS_at _ c hc _ i (by omega), bAt_extract x 0 k i hk (by omega), bAt_extract y 0 k i (by omega) (by omega)]
      simp
    · rw [if_neg hik, foldS_at _ c hc _ _ (by omega), bAt_extract x k x.size _ (Nat.le_refl _) (by omega), bAt_extract y k y.size _ (Nat.le_refl _) (by omega), show k + (i - k) = i by omega]

end Go.Proofs.YtffbachgbcefiaaDoor
