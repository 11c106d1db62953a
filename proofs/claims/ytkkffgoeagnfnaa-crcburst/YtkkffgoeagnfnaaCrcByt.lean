/-
  A list of bytes made of a text, its bytes turned one by one, and the text made of it. No condition.
-/
import Derived.Test.YtkkffgoeagnfnaaCrcWakes
import Derived.Laws.BytesArg
import Derived.Laws.IdiomStrings
import Derived.Laws.Strings
import Derived.WideShapes
namespace Go.Proofs.Ytkkffgoeagnfnaa
open Go.RowKit Plain

/-- block B holds n bytes, none of them frozen. -/
structure Byt (W : World) (B n : Nat) (f : Nat → Nat) : Prop where
  cell : ∀ i, i < n → W.cell? ⟨B, i, none⟩ = some (.int .u8 ((f i : Nat) : Int))
  free : ∀ i, i < n → W.frozen? ⟨B, i, none⟩ = false
theorem Byt.kept {W W' : World} {B n : Nat} {f : Nat → Nat} (h : Byt W B n f) (k : Kp W W') (hB : B < W.heap.size) : Byt W' B n f :=
  ⟨fun i hi => k.held (h.cell i hi), fun i hi => (Below.frozen (p := ⟨B, i, none⟩) k hB).trans (h.free i hi)⟩
theorem Byt.set {W : World} {B n : Nat} {f : Nat → Nat} (h : Byt W B n f) (j x : Nat) : Byt (W.setCell ⟨B, j, none⟩ (.int .u8 (x : Int))) B n (fun i => if i = j then x else f i) :=
  ⟨fun i hi => by
    by_cases hj : i = j
    · subst hj
      show _ = some (Value.int .u8 (((if i = i then x else f i : Nat) : Nat) : Int))
      rw [if_pos rfl]
      exact World.cell?_setCell_same' _ _ _ (by rw [h.cell i hi]; rfl)
    · show _ = some (Value.int .u8 (((if i = j then x else f i : Nat) : Nat) : Int))
      rw [if_neg hj]
      exact (World.cell?_setCell_other _ _ _ _ (by intro e; cases e; exact hj rfl)).trans (h.cell i hi), fun i hi => by rw [World.frozen?_setCell]; exact h.free i hi⟩
theorem bytes_of (w : World) (s : ByteArray) : ∃ c W', (convert 9 33 (.string s)).run Try.prog w = .ok (.slice (some ⟨w.heap.size, 0, none⟩) s.size c) W' ∧ Kp w W' ∧ w.heap.size < W'.heap.size ∧ Byt W' w.heap.size s.size (fun i => bAt s (i : Int)) := by
  refine ⟨_, _, run_bytes_of_string (P := Try.prog) w 9 33 5 s Try.underlying9 Try.underlying33 Try.underlying5, ?_, ?_, ?_⟩
  · exact (Kp.refl w).drew.alloc _
  · show w.heap.size < (w.heap.push _).size
    simp
  · refine ⟨fun i hi => ?_, fun i hi => ?_⟩
    · have := World.cell?_alloc_mark w.drew (bytesRow s (grownCap w s.size 0 5)) 5 ((bytesRow s (grownCap w s.size 0 5)).size, (bytesRow s (grownCap w s.size 0 5)).size + 1) i
      refine this.trans ?_
      rw [bytesRow_at s _ i hi, bAt_nat s i hi]
      rfl
    · have := World.frozen?_alloc_mark w.drew (bytesRow s (grownCap w s.size 0 5)) 5 (bytesRow s (grownCap w s.size 0 5)).size ((bytesRow s (grownCap w s.size 0 5)).size + 1) i
      refine this.trans ?_
      have hz : s.size ≤ (bytesRow s (grownCap w s.size 0 5)).size := by unfold bytesRow; simp
      simp
      omega
theorem Byt.text {W : World} {B n : Nat} {f : Nat → Nat} (h : Byt W B n f) (c : Nat) : (convert 33 9 (.slice (some ⟨B, 0, none⟩) n c)).run Try.prog W = .ok (.string (bs n f)) W := by
  refine run_convert_bytes_arg (P := Try.prog) W 33 5 Try.underlying33 Try.underlying5 B 0 n c ((List.range n).map fun i => ((f i : Nat) : Int)) (by simp) (fun i hi => ?_) 9 Try.underlying9
  rw [Nat.zero_add, h.cell i (by simpa using hi)]
  simp only [List.getD_eq_getElem?_getD, List.getElem?_map]
  rw [List.getElem?_range (by simpa using hi)]
  rfl

theorem flp_lt (f : Nat → Nat) (hf : ∀ i, f i < 256) (k i : Nat) : flp f k i < 256 := by
  unfold flp
  split
  · refine Nat.xor_lt_two_pow (n := 8) (hf i) ?_
    exact Nat.pow_lt_pow_right (by omega) (Nat.mod_lt _ (by omega))
  · exact hf i
theorem brs_lt (f : Nat → Nat) (hf : ∀ i, f i < 256) (k b : Nat) : ∀ n i, brs f k b n i < 256
  | 0, i => hf i
  | n + 1, i => by
    simp only [brs]
    split
    · exact flp_lt _ (brs_lt f hf k b n) _ i
    · exact brs_lt f hf k b n i
theorem sm_bs (m : Nat) (g : Nat → Nat) (hg : ∀ i, g i < 256) : smN (bf (bs m g)) (bs m g).size = smN g m := by
  rw [bs_size]
  unfold smN mrN
  rw [rgS_congr _ _ (fun i hi => show bf (bs m g) i = g i from bAt_bs m g i hi (hg i))]
theorem Byt.congr {W : World} {B n : Nat} {f g : Nat → Nat} (h : Byt W B n f) (he : ∀ i, f i = g i) : Byt W B n g :=
  ⟨fun i hi => by rw [← he i]; exact h.cell i hi, h.free⟩
theorem Kp.set {w w1 : World} (h : Kp w w1) (B o : Nat) (hB : w.heap.size ≤ B) (v : Value) : Kp w (w1.setCell ⟨B, o, none⟩ v) := Below.setCell h (p := ⟨B, o, none⟩) hB v
theorem bit_u32 (y k : Nat) (h : y < 4294967296) : bits .and .u32 ((y : Int) / 2 ^ k) 1 = ((y / 2 ^ k % 2 : Nat) : Int) := by
  have e : (y : Int) / 2 ^ k = ((y / 2 ^ k : Nat) : Int) := by rw [Int.natCast_ediv, Int.natCast_pow]; rfl
  rw [e]
  exact bit1 _ (Nat.lt_of_le_of_lt (Nat.div_le_self _ _) h)
theorem ix_all (K j : Nat) (hK : K ≤ 2400) (hj : j < 32) :
    IntKind.i64.wrap ((K : Int) + (j : Int)) = (K : Int) + (j : Int) ∧ wrap64 ((K : Int) + (j : Int)) = (K : Int) + (j : Int) ∧
    ((K : Int) + (j : Int)) / 8 = (((K + j) / 8 : Nat) : Int) ∧ ((K : Int) + (j : Int)).tdiv 8 = (((K + j) / 8 : Nat) : Int) ∧
    ((K : Int) + (j : Int)) % 8 = (((K + j) % 8 : Nat) : Int) ∧ ((K : Int) + (j : Int)).tmod 8 = (((K + j) % 8 : Nat) : Int) ∧
    IntKind.i64.wrap (((K : Int) + (j : Int)).tdiv 8) = (((K + j) / 8 : Nat) : Int) := by
  have h1 : ((K : Int) + (j : Int)).tdiv 8 = (((K + j) / 8 : Nat) : Int) := by rw [Int.tdiv_eq_ediv_of_nonneg (by omega)]; omega
  refine ⟨by rw [IntKind.wrap_i64]; omega, by simp only [wrap64]; omega, by omega, h1, by omega, by rw [Int.tmod_eq_emod_of_nonneg (by omega)]; omega, ?_⟩
  rw [h1, IntKind.wrap_i64]; omega
theorem sh_all (R : Nat) (h : R < 8) : IntKind.u8.wrap ((2 : Int) ^ R) = ((2 ^ R : Nat) : Int) ∧ IntKind.u8.wrap (1 * (2 : Int) ^ R) = ((2 ^ R : Nat) : Int) ∧ (2 : Int) ^ R % 256 = ((2 ^ R : Nat) : Int) := by
  have e : (2 : Int) ^ R = ((2 ^ R : Nat) : Int) := by rw [Int.natCast_pow]; rfl
  have h8 : (2 : Nat) ^ R < 2 ^ 8 := Nat.pow_lt_pow_right (by omega) h
  rw [e]
  generalize (2 : Nat) ^ R = v at *
  refine ⟨by rw [wrap_u8i]; omega, by rw [wrap_u8i]; omega, by omega⟩
theorem flp_set {W : World} {B m : Nat} {g : Nat → Nat} (h : Byt W B m g) (N : Nat) : Byt (W.setCell ⟨B, N / 8, none⟩ (.int .u8 ((g (N / 8) ^^^ 2 ^ (N % 8) : Nat) : Int))) B m (flp g N) := by
  refine (h.set (N / 8) (g (N / 8) ^^^ 2 ^ (N % 8))).congr (fun i => ?_)
  unfold flp
  by_cases he : i = N / 8
  · rw [if_pos he, if_pos he, he]
  · rw [if_neg he, if_neg he]
theorem set_size {w : World} {B b o : Nat} {v : Value} (h : B < w.heap.size) : B < (w.setCell ⟨b, o, none⟩ v).heap.size := by simpa [World.setCell] using h
theorem bit_turn (x R : Nat) (hx : x < 256) (hR : R < 8) : bits .xor .u8 (x : Int) ((2 ^ R : Nat) : Int) = ((x ^^^ 2 ^ R : Nat) : Int) := u8_xor_nat _ _ hx (Nat.pow_lt_pow_right (by omega) hR)

end Go.Proofs.Ytkkffgoeagnfnaa
