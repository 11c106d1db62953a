/-
  Contracts of the document's own functions on words (Word, Bytes): Word of eight bytes is their sum at their places, Bytes of a word are its eight bytes; each lays new blocks alone. No condition but the arguments' own kinds.
-/
import Derived.Test.YtafcficfigcgmaaStrs
import Derived.Test.YtafcficfigcgmaaExt
namespace Go.Proofs.Ytafcficfigcgmaa
open Go.RowKit Plain

def bvV (f : Nat → Nat) (i : Nat) : Value := .int .u8 (f i : Nat)
def bvA (f : Nat → Nat) : Array Value := #[bvV f 0, bvV f 1, bvV f 2, bvV f 3, bvV f 4, bvV f 5, bvV f 6, bvV f 7]
theorem bvA_at (f : Nat → Nat) (i : Nat) (h : i < 8) : (bvA f)[i]? = some (.int .u8 (f i : Nat)) := by
  have h : i = 0 ∨ i = 1 ∨ i = 2 ∨ i = 3 ∨ i = 4 ∨ i = 5 ∨ i = 6 ∨ i = 7 := by omega
  rcases h with rfl | rfl | rfl | rfl | rfl | rfl | rfl | rfl <;> rfl
theorem bvA_size (f : Nat → Nat) : (bvA f).size = 8 := rfl
/-- the k highest of eight bytes, as a number. -/
def hz (f : Nat → Nat) : Nat → Nat
  | 0 => 0
  | k + 1 => 256 * hz f k + f (7 - k)
theorem hz_lt (f : Nat → Nat) (hf : ∀ i, f i < 256) : ∀ k, hz f k < 256 ^ k
  | 0 => by simp [hz]
  | k + 1 => by
    have h1 := hz_lt f hf k
    have h2 := hf (7 - k)
    simp only [hz]; rw [Nat.pow_succ]; omega
theorem hz_step (n b k : Nat) (hn : n < 256 ^ k) (hk : k < 8) (hb : b < 256) : IntKind.u64.wrap (IntKind.u64.wrap (256 * (n : Int)) + IntKind.u64.wrap (b : Int)) = ((256 * n + b : Nat) : Int) := by
  have h1 : (256 : Nat) ^ k ≤ 256 ^ 7 := Nat.pow_le_pow_right (by omega) (by omega)
  have h2 : (256 : Nat) ^ 7 = 72057594037927936 := by decide +kernel
  simp only [IntKind.wrap_u64]; omega
set_option maxHeartbeats 1000000 in
theorem word_any (f : Nat → Nat) (hf : ∀ i, f i < 256) (w : World) :
    Calls Try.prog 15 #[.agg (bvA f)] w fun e w' => e = .returned (.int .u64 (hz f 8 : Nat)) ∧ w' = w.alloc (.cells (bvA f) 26) := by
  go_enter Try.func15, Try.ntmps15
  go_wp2
  go_loop [3, 4] (fun X i => ∃ j k : Nat, j + k = 8 ∧ i = .int .i64 ((j : Int) - 1) ∧ X = .int .u64 (hz f k : Nat)) (fun _ i => (intOf i + 1).toNat)
  case atStart => exact ⟨8, 0, by omega, rfl, rfl⟩
  case round =>
    obtain ⟨j, k, hj, rfl, rfl⟩ := hrel
    by_cases h0 : j = 0
    · subst h0
      obtain rfl : k = 8 := by omega
      clear hj
      go_wp2
      go_ret
      exact ⟨rfl, rfl⟩
    · obtain ⟨m, rfl⟩ : ∃ m, j = m + 1 := ⟨j - 1, by omega⟩
      have e : ((m + 1 : Nat) : Int) - 1 = (m : Int) := by omega
      have hc := bvA_at f m (by omega)
      rw [e]
      clear e
      have hm : m < 8 := by omega
      have HJ : Hid (m + 1 + k = 8) := hj
      clear hj h0
      go_wp2
      go_round
      case rel =>
        have hj : m + 1 + k = 8 := HJ.out
        refine ⟨m, k + 1, by omega, rfl, ?_⟩
        rw [hz_step _ _ k (hz_lt f hf k) (by omega) (hf m)]
        simp only [hz]; rw [show 7 - k = m by omega]
      case measure => simp [intOf]

/-! ### Bytes -/
def byN (x i : Nat) : Nat := x / 256 ^ i % 256
def cut (f : Nat → Nat) (k i : Nat) : Nat := if i < k then f i else 0
theorem cut_step (f : Nat → Nat) (k i : Nat) (h : i ≠ k) : cut f (k + 1) i = cut f k i := by
  unfold cut
  by_cases h1 : i < k
  · rw [if_pos h1, if_pos (by omega)]
  · rw [if_neg h1, if_neg (by omega)]
theorem cut_at (f : Nat → Nat) (k : Nat) : cut f (k + 1) k = f k := by unfold cut; rw [if_pos (by omega)]
theorem set_at (f g : Nat → Nat) (k v : Nat) (hk : k < 8) (ho : ∀ i, i ≠ k → g i = f i) (ha : g k = v) : (bvA f).setIfInBounds k (.int .u8 (v : Nat)) = bvA g := by
  have h : k = 0 ∨ k = 1 ∨ k = 2 ∨ k = 3 ∨ k = 4 ∨ k = 5 ∨ k = 6 ∨ k = 7 := by omega
  have e : (.int .u8 (v : Nat) : Value) = bvV g k := by unfold bvV; rw [ha]
  have hv : ∀ i, i ≠ k → bvV f i = bvV g i := fun i hi => by unfold bvV; rw [ho i hi]
  rw [e]
  rcases h with rfl | rfl | rfl | rfl | rfl | rfl | rfl | rfl <;> unfold bvA <;> simp [hv]
theorem bvA_cut0 (f : Nat → Nat) : bvA (cut f 0) = #[.int .u8 0, .int .u8 0, .int .u8 0, .int .u8 0, .int .u8 0, .int .u8 0, .int .u8 0, .int .u8 0] := rfl
theorem bvA_cut8 (f : Nat → Nat) : bvA (cut f 8) = bvA f := rfl
theorem byN_lt (x i : Nat) : byN x i < 256 := Nat.mod_lt _ (by omega)

def qN (x k : Nat) : Nat := x / 256 ^ k
theorem bvA_lit (f : Nat → Nat) : bvA f = #[.int .u8 (f 0 : Nat), .int .u8 (f 1 : Nat), .int .u8 (f 2 : Nat), .int .u8 (f 3 : Nat), .int .u8 (f 4 : Nat), .int .u8 (f 5 : Nat), .int .u8 (f 6 : Nat), .int .u8 (f 7 : Nat)] := rfl
theorem bv0_lit (f : Nat → Nat) : bvA (cut f 0) = #[.int .u8 0, .int .u8 0, .int .u8 0, .int .u8 0, .int .u8 0, .int .u8 0, .int .u8 0, .int .u8 0] := rfl
theorem q_step (x k : Nat) (hx : x < 18446744073709551616) : IntKind.u64.wrap ((qN x k : Int) / 256) = (qN x (k + 1) : Int) := by
  have hl : qN x k < 18446744073709551616 := Nat.lt_of_le_of_lt (Nat.div_le_self _ _) hx
  have e : qN x (k + 1) = qN x k / 256 := by unfold qN; rw [Nat.pow_succ, Nat.div_div_eq_div_mul]
  rw [e, IntKind.wrap_u64]; omega
theorem q_byte (x k : Nat) : (qN x k : Int) % 256 = ((byN x k : Nat) : Int) := by
  have e : byN x k = qN x k % 256 := rfl
  rw [e]; omega
set_option maxHeartbeats 1000000 in
theorem bytes_any (x : Nat) (hx : x < 18446744073709551616) (w : World) :
    Calls Try.prog 12 #[.int .u64 x] w fun e w' => e = .returned (.agg (bvA (byN x))) ∧ w' = (w.alloc (.cells (bvA (byN x)) 26)).alloc (.cells (bvA (byN x)) 26) := by
  go_enter Try.func12, Try.ntmps12
  go_wp2
  go_loopw [0, 4] (fun X i wr => ∃ k : Nat, k ≤ 8 ∧ i = .int .i64 k ∧ X = .int .u64 (qN x k : Nat) ∧ wr = (w.alloc (.cells (bvA (cut (byN x) 0)) 26)).alloc (.cells (bvA (cut (byN x) k)) 26)) (fun _ i _ => 8 - (intOf i).toNat)
  case atStart => exact ⟨0, by omega, rfl, by unfold qN; simp, by rw [bvA_cut0]⟩
  case round =>
    obtain ⟨k, hk, rfl, rfl, rfl⟩ := hrel
    have hA := bvA_size (cut (byN x) k)
    by_cases hlt : k < 8
    · go_wp2
      go_roundw
      case rel => exact ⟨k + 1, by omega, by go_num, by rw [q_step x k hx], by rw [q_byte, set_at _ (cut (byN x) (k + 1)) k _ hlt (fun i hi => cut_step _ _ _ hi) (cut_at _ _)]⟩
      case measure => simp [intOf]; omega
    · obtain rfl : k = 8 := by omega
      rw [bvA_cut8, bv0_lit, bvA_lit]
      clear hA
      go_wp2
      refine bodyPost_ret (v := .agg (bvA (byN x))) ?_ rfl ⟨rfl, ?_⟩
      · simp [results, Try.results12, go_sem, bvA_lit]
      · rfl
theorem bytes_lit (x : Nat) (hx : x < 18446744073709551616) (w : World) :
    Calls Try.prog 12 #[.int .u64 x] w fun e w' => e = .returned (.agg #[.int .u8 (byN x 0 : Nat), .int .u8 (byN x 1 : Nat), .int .u8 (byN x 2 : Nat), .int .u8 (byN x 3 : Nat), .int .u8 (byN x 4 : Nat), .int .u8 (byN x 5 : Nat), .int .u8 (byN x 6 : Nat), .int .u8 (byN x 7 : Nat)]) ∧ w' = (w.alloc (.cells (bvA (byN x)) 26)).alloc (.cells (bvA (byN x)) 26) := bytes_any x hx w
theorem word_lit (f : Nat → Nat) (hf : ∀ i, f i < 256) (w : World) :
    Calls Try.prog 15 #[.agg #[.int .u8 (f 0 : Nat), .int .u8 (f 1 : Nat), .int .u8 (f 2 : Nat), .int .u8 (f 3 : Nat), .int .u8 (f 4 : Nat), .int .u8 (f 5 : Nat), .int .u8 (f 6 : Nat), .int .u8 (f 7 : Nat)]] w fun e w' => e = .returned (.int .u64 (hz f 8 : Nat)) ∧ w' = w.alloc (.cells (bvA f) 26) := word_any f hf w

end Go.Proofs.Ytafcficfigcgmaa
