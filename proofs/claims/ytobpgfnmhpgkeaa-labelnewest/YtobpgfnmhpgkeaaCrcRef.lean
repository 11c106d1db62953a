/-
  Contracts of the document's functions on sums (On, More, Sum, Join): each gives the plain function's number and leaves the world as it was. No condition but the arguments' own kinds.
-/
import Derived.Test.YtobpgfnmhpgkeaaCrcBits
namespace Go.Proofs.Ytobpgfnmhpgkeaa
open Go.RowKit Plain

set_option maxHeartbeats 1000000 in
theorem ron_any (r c : Nat) (hr : r < 4294967296) (hc : c < 256) (w : World) :
    Calls Try.prog 48 #[.int .u32 r, .int .u8 c] w fun e w' => e = .returned (.int .u32 (tI (r ^^^ c) 8 : Nat)) ∧ w' = w := by
  have hx := xor32 r c hr (by omega)
  obtain ⟨x, hxe⟩ : ∃ x, r ^^^ c = x := ⟨_, rfl⟩
  rw [hxe] at hx ⊢
  have HE : Hid (r ^^^ c = x) := hxe
  clear hxe
  go_enter Try.func48, Try.ntmps48
  go_wp2_with fail
  refine (rxor_any r c hr (by omega) _).mono ?_; rintro e w' ⟨rfl, rfl⟩
  rw [HE.out]
  go_wp2
  go_loop [0, 5] (fun X i => ∃ k X' : Nat, k ≤ 8 ∧ i = .int .i64 k ∧ X' = tI x k ∧ X = .int .u32 X') (fun _ i => 8 - (intOf i).toNat)
  case atStart => exact ⟨0, x, by omega, rfl, rfl, rfl⟩
  case round =>
    obtain ⟨k, X', hk, rfl, hX, rfl⟩ := hrel
    have hl : X' < 4294967296 := by rw [hX]; exact tI_lt x hx k
    by_cases hlt : k < 8
    · by_cases h1 : X' % 2 = 1
      · have e1 : ((X' : Int) % 2 == 1) = true := by simp; omega
        have HX : Hid (X' / 2 ^^^ 3988292384 = tI x (k + 1)) := by
          show _ = tN (tI x k)
          rw [← hX]; unfold tN; rw [h1, Nat.one_mul]
        have hl2 : X' / 2 < 4294967296 := by omega
        clear hX h1
        go_wp2_with fail
        refine (rxor_any (X' / 2) 3988292384 hl2 (by omega) _).mono ?_; rintro e w' ⟨rfl, rfl⟩
        go_wp2
        go_round
        case rel => exact ⟨k + 1, X' / 2 ^^^ 3988292384, by omega, by go_num, HX.out, rfl⟩
        case measure => simp [intOf]; omega
      · have e1 : ((X' : Int) % 2 == 1) = false := by simp; omega
        have HX : Hid (X' / 2 = tI x (k + 1)) := by
          show _ = tN (tI x k)
          rw [← hX]; unfold tN; rw [show X' % 2 = 0 by omega]; simp
        clear hX h1
        go_wp2
        go_round
        case rel => exact ⟨k + 1, X' / 2, by omega, by go_num, HX.out, rfl⟩
        case measure => simp [intOf]; omega
    · obtain rfl : k = 8 := by omega
      have HX : Hid (X' = tI x 8) := hX
      clear hX
      go_wp2
      go_ret
      exact ⟨ret_int (by rw [HX.out]), rfl⟩

set_option maxHeartbeats 1000000 in
theorem rmore_any (sum : Nat) (hsum : sum < 4294967296) (s : ByteArray) (hs : s.size ≤ 9223372036854775807) (w : World) :
    Calls Try.prog 42 #[.int .u32 sum, .string s] w fun e w' => e = .returned (.int .u32 (mrN sum (bf s) s.size : Nat)) ∧ w' = w := by
  have hn := nt_lt sum hsum
  have HM : Hid (mrN sum (bf s) s.size = nt (rgS (bf s) (nt sum) s.size)) := rfl
  generalize mrN sum (bf s) s.size = m at *
  go_enter Try.func42, Try.ntmps42
  go_wp2_with fail
  refine (rturned_any sum hsum _).mono ?_; rintro e w' ⟨rfl, rfl⟩
  generalize nt sum = q at *
  go_wp2
  go_loop [5, 6] (fun X i => ∃ k X' : Nat, k ≤ s.size ∧ i = .int .i64 k ∧ X' = rgS (bf s) q k ∧ X = .int .u32 X') (fun _ i => s.size - (intOf i).toNat)
  case atStart => exact ⟨0, q, by omega, rfl, rfl, rfl⟩
  case round =>
    obtain ⟨k, X', hk, rfl, hX, rfl⟩ := hrel
    have hl : X' < 4294967296 := by rw [hX]; exact rgS_lt (bf s) (bf_lt s) q hn k
    by_cases hlt : k < s.size
    · have hb := bf_lt s k
      have HB : Hid ((s[k]'hlt).toNat = bf s k) := bf_at s k hlt
      have HX : Hid (tI (X' ^^^ bf s k) 8 = rgS (bf s) q (k + 1)) := by show _ = _; rw [hX]; rfl
      clear hX
      go_wp2_with fail
      rw [HB.out]
      refine (ron_any X' (bf s k) hl hb _).mono ?_; rintro e w' ⟨rfl, rfl⟩
      go_wp2
      go_round
      case rel => exact ⟨k + 1, tI (X' ^^^ bf s k) 8, by omega, by go_num, HX.out, rfl⟩
      case measure => simp [intOf]; omega
    · obtain rfl : k = s.size := by omega
      have HX : Hid (nt X' = m) := by show _ = _; rw [HM.out, hX]
      clear hX
      go_wp2_with fail
      refine (rturned_any X' hl _).mono ?_; rintro e w' ⟨rfl, rfl⟩
      go_wp2
      go_ret
      exact ⟨ret_int (by rw [HX.out]), rfl⟩

theorem rsum_any (s : ByteArray) (hs : s.size ≤ 9223372036854775807) (w : World) :
    Calls Try.prog 30 #[.string s] w fun e w' => e = .returned (.int .u32 (smN (bf s) s.size : Nat)) ∧ w' = w := by
  go_enter Try.func30, Try.ntmps30
  go_wp2_with fail
  refine (rmore_any 0 (by omega) s hs _).mono ?_; rintro e w' ⟨rfl, rfl⟩
  go_wp2
  go_ret
  exact ⟨rfl, rfl⟩

/-- what Join answers. -/
def jnV (a b : Nat) (n : Int) : Nat := if n < 1 then a else jnN a b n.toNat
theorem jnV_low (a b : Nat) (n : Int) (h : n < 1) : jnV a b n = a := if_pos h
theorem jnV_nat (a b n : Nat) (h : 1 ≤ n) : jnV a b (n : Int) = jnN a b n := by unfold jnV; rw [if_neg (by omega)]; rfl
theorem jnV_lt (a b : Nat) (n : Int) (ha : a < 4294967296) (hb : b < 4294967296) : jnV a b n < 4294967296 := by
  unfold jnV; split
  · exact ha
  · exact jnN_lt a b _ ha hb

end Go.Proofs.Ytobpgfnmhpgkeaa
