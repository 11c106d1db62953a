/-
  The contract of math/bits' Div64 where the quotient is below 2^12; of LeadingZeros64. Conditions: that the high word is less than the divisor.
-/
import Derived.Test.YtlhiienmhglieaaDoorTlPart
import Derived.Laws.Bits64b
import Derived.Laws.BitsAllLaws
namespace Go.Proofs.YtlhiienmhglieaaDoor
open Go.RowKit
set_option linter.unusedVariables false

set_option maxHeartbeats 1000000 in
theorem lz_any (x : Int) (w : World) (h0 : 0 ≤ x) (h1 : x ≤ 18446744073709551615) : Calls Tryd.prog 36 #[.int .u64 x] w fun e w' => e = .returned (.int .i64 ((64 - Lib.bitLen x.toNat : Nat) : Int)) ∧ w' = w := by
  have hL := len_any x w h0 h1
  have hle : Lib.bitLen x.toNat ≤ 64 := Lib.bitLen_le x.toNat 64 (by omega) (by show x.toNat < 18446744073709551616; omega)
  obtain ⟨b, hb⟩ : ∃ b, b = Lib.bitLen x.toNat := ⟨_, rfl⟩
  rw [← hb] at hL hle ⊢
  clear hb
  have hw : IntKind.i64.wrap (64 - (b : Int)) = ((64 - b : Nat) : Int) := by rw [IntKind.wrap_i64]; omega
  go_enter Tryd.func36, Tryd.ntmps36
  go_wp2_with fail
  refine hL.mono ?_; rintro e w' ⟨rfl, rfl⟩
  go_wp2
  go_ret
  exact ⟨by first | rfl | (congr 2; omega), rfl⟩

theorem bl_up (x : Nat) (hx : x < 18446744073709551616) : x < 2 ^ Lib.bitLen x := by
  rcases Nat.lt_or_ge x (2 ^ Lib.bitLen x) with h | h
  · exact h
  · exfalso
    have h1 := Lib.bitLen_shift (Lib.bitLen x) x h hx
    have hpos : 0 < x / 2 ^ Lib.bitLen x := Nat.div_pos h (Nat.two_pow_pos _)
    have h2 := Lib.bitLen_half (x / 2 ^ Lib.bitLen x) (by omega) (Nat.lt_of_le_of_lt (Nat.div_le_self _ _) hx)
    omega
theorem bl_low (x : Nat) (h0 : 0 < x) (hx : x < 18446744073709551616) : 0 < Lib.bitLen x ∧ 2 ^ (Lib.bitLen x - 1) ≤ x := by
  have hp : 0 < Lib.bitLen x := by rw [Lib.bitLen_half x (by omega) hx]; omega
  have hle : Lib.bitLen x ≤ 64 := Lib.bitLen_le x 64 (by omega) hx
  refine ⟨hp, ?_⟩
  rcases Nat.lt_or_ge x (2 ^ (Lib.bitLen x - 1)) with h | h
  · have := Lib.bitLen_le x (Lib.bitLen x - 1) (by omega) h
    omega
  · exact h

theorem div_setup (hi lo y s : Nat) (hs : s = 64 - Lib.bitLen y) (h0 : 0 < y) (hy : y < 18446744073709551616) (hl : lo < 18446744073709551616) (hQ : (hi * 18446744073709551616 + lo) / y ≤ 1000) :
    s ≤ 63 ∧ 9223372036854775808 ≤ y * 2 ^ s ∧ y * 2 ^ s < 18446744073709551616 ∧ (hi * 2 ^ s + lo / 2 ^ (64 - s)) * 18446744073709551616 + lo * 2 ^ s % 18446744073709551616 = (hi * 18446744073709551616 + lo) * 2 ^ s ∧ hi * 2 ^ s + lo / 2 ^ (64 - s) ≤ 1000 ∧ lo / 2 ^ (64 - s) < 2 ^ s := by
  obtain ⟨hp, hlow⟩ := bl_low y h0 hy
  have hup := bl_up y hy
  have hle : Lib.bitLen y ≤ 64 := Lib.bitLen_le y 64 (by omega) hy
  have hs63 : s ≤ 63 := by omega
  have e1 : 2 ^ Lib.bitLen y * 2 ^ s = 18446744073709551616 := by rw [← Nat.pow_add, show Lib.bitLen y + s = 64 by omega]
  have e2 : 2 ^ (Lib.bitLen y - 1) * 2 ^ s = 9223372036854775808 := by rw [← Nat.pow_add, show Lib.bitLen y - 1 + s = 63 by omega]
  have e3 : 2 ^ (64 - s) * 2 ^ s = 18446744073709551616 := by rw [← Nat.pow_add, show 64 - s + s = 64 by omega]
  have hP : 0 < 2 ^ s := Nat.two_pow_pos s
  have hR : 0 < 2 ^ (64 - s) := Nat.two_pow_pos _
  have hY1 : 9223372036854775808 ≤ y * 2 ^ s := by rw [← e2]; exact Nat.mul_le_mul_right _ hlow
  have hY2 : y * 2 ^ s < 18446744073709551616 := by rw [← e1]; exact Nat.mul_lt_mul_of_pos_right hup hP
  have hlo : lo / 2 ^ (64 - s) < 2 ^ s := by rw [Nat.div_lt_iff_lt_mul hR, Nat.mul_comm, e3]; exact hl
  have hdiv : lo * 2 ^ s / 18446744073709551616 = lo / 2 ^ (64 - s) := by rw [← e3]; exact Nat.mul_div_mul_right _ _ hP
  have hsum : (hi * 2 ^ s + lo / 2 ^ (64 - s)) * 18446744073709551616 + lo * 2 ^ s % 18446744073709551616 = (hi * 18446744073709551616 + lo) * 2 ^ s := by
    rw [← hdiv, Nat.add_mul, Nat.add_mul, Nat.mul_right_comm hi]
    have := Nat.div_add_mod (lo * 2 ^ s) 18446744073709551616
    generalize lo * 2 ^ s = z at *
    generalize hi * 18446744073709551616 * 2 ^ s = t at *
    omega
  refine ⟨hs63, hY1, hY2, hsum, ?_, hlo⟩
  have h3 : hi * 18446744073709551616 + lo < 1001 * y := (Nat.div_lt_iff_lt_mul h0).1 (by omega)
  have h4 : (hi * 18446744073709551616 + lo) * 2 ^ s < 1001 * (y * 2 ^ s) := by rw [← Nat.mul_assoc]; exact Nat.mul_lt_mul_of_pos_right h3 hP
  rw [← hsum] at h4
  generalize hi * 2 ^ s + lo / 2 ^ (64 - s) = U2 at *
  omega

theorem dl0 (U2 U1 un u1 u0 : Nat) (h1 : u1 = U1 / 4294967296) (h0 : u0 = U1 % 4294967296) (hun : un = U2 * 4294967296 + u1) : U2 * 18446744073709551616 + U1 = un * 4294967296 + u0 := by omega
theorem dl1 (U Y un n1 n0 u0 q r : Nat) (hU : U = un * 4294967296 + u0) (hY : Y = n1 * 4294967296 + n0) (h0 : 0 < Y) (hr : r + q * n1 = un) (h : q * n0 ≤ 4294967296 * r + u0) : q ≤ U / Y := by
  rw [Nat.le_div_iff_mul_le h0, hU, hY, Nat.mul_add, ← Nat.mul_assoc, ← hr]
  generalize q * n1 = z at *
  generalize q * n0 = t at *
  omega
theorem dl2 (U Y un n1 n0 u0 q r : Nat) (hU : U = un * 4294967296 + u0) (hY : Y = n1 * 4294967296 + n0) (h0 : 0 < Y) (hr : r + q * n1 = un) (h : 4294967296 * r + u0 < q * n0) : U / Y < q := by
  rw [Nat.div_lt_iff_lt_mul h0, hU, hY, Nat.mul_add, ← Nat.mul_assoc, ← hr]
  generalize q * n1 = z at *
  generalize q * n0 = t at *
  omega
theorem dl3 (q n0 r u0 : Nat) (hq : q < 4294967296) (hn : n0 < 4294967296) (hr : 4294967296 ≤ r) : q * n0 ≤ 4294967296 * r + u0 := by
  have : q * n0 ≤ 4294967296 * 4294967296 := Nat.mul_le_mul (by omega) (by omega)
  omega

set_option maxRecDepth 100000 in
set_option maxHeartbeats 4000000 in
theorem div_any (hi lo y : Nat) (hh : 0 < hi) (hl : lo < 18446744073709551616) (hy : y < 18446744073709551616) (hlt : hi < y) (hQ : (hi * 18446744073709551616 + lo) / y ≤ 1000) (w : World) : Calls Tryd.prog 31 #[.int .u64 (hi : Int), .int .u64 (lo : Int), .int .u64 (y : Int)] w fun e w' => (∃ r : Int, e = .returned (.tuple #[.int .u64 (((hi * 18446744073709551616 + lo) / y : Nat) : Int), .int .u64 r])) ∧ Kp w w' := by
  have hne : ¬ ((y : Nat) : Int) = 0 := by omega
  have hle : ¬ ((y : Nat) : Int) ≤ (hi : Int) := by omega
  have hh0 : ¬ ((hi : Nat) : Int) = 0 := by omega
  have hz := lz_any (y : Int) w (by omega) (by omega)
  obtain ⟨s, hs⟩ : ∃ s, s = 64 - Lib.bitLen ((y : Int)).toNat := ⟨_, rfl⟩
  rw [← hs] at hz
  obtain ⟨hs63, hY1, hY2, hsum, hU2le, hl2⟩ := div_setup hi lo y s (by rw [hs]; simp) (by omega) hy hl hQ
  have hsu : IntKind.u64.wrap (s : Int) = s := by rw [IntKind.wrap_u64]; omega
  have hsv : IntKind.u64.wrap (64 - (s : Int)) = ((64 - s : Nat) : Int) := by rw [IntKind.wrap_u64]; omega
  have hQe : (hi * 18446744073709551616 + lo) / y = (hi * 18446744073709551616 + lo) * 2 ^ s / (y * 2 ^ s) := (Nat.mul_div_mul_right _ _ (Nat.two_pow_pos s)).symm
  rw [← hsum] at hQe
  obtain ⟨P, hP⟩ : ∃ P : Nat, P = 2 ^ s := ⟨_, rfl⟩
  obtain ⟨l2, hl2e⟩ : ∃ l2, l2 = lo / 2 ^ (64 - s) := ⟨_, rfl⟩
  have cP : (2 : Int) ^ s = (P : Int) := by rw [hP, Int.natCast_pow]; rfl
  have cl2 : (lo : Int) / 2 ^ (64 - s) = (l2 : Int) := by rw [hl2e, Int.natCast_ediv, Int.natCast_pow]; rfl
  have hor : bits .or .u64 ((hi * P : Nat) : Int) (l2 : Int) = ((hi * P + l2 : Nat) : Int) := by
    rw [u64_or_nat (hi * P) l2 (by rw [hP]; omega) (by omega), hP]
    congr 1
    rw [← Nat.shiftLeft_eq]
    exact (Nat.shiftLeft_add_eq_or_of_lt (by rw [hl2e]; exact hl2) hi).symm
  rw [← hP, ← hl2e] at hQe hU2le
  rw [← hP] at hY1 hY2 hl2
  obtain ⟨Hh, hHh⟩ : ∃ Hh, Hh = hi * P := ⟨_, rfl⟩
  rw [← hHh] at hor hQe hU2le
  have cH : IntKind.u64.wrap ((hi : Int) * P) = (Hh : Int) := by rw [IntKind.wrap_u64, ← Int.natCast_mul, ← hHh]; omega
  obtain ⟨U2, hU2⟩ : ∃ U2, U2 = Hh + l2 := ⟨_, rfl⟩
  rw [← hU2] at hor hQe hU2le
  obtain ⟨Y, hYe⟩ : ∃ Y, Y = y * P := ⟨_, rfl⟩
  have cY : IntKind.u64.wrap ((y : Int) * P) = (Y : Int) := by rw [IntKind.wrap_u64, ← Int.natCast_mul, ← hYe]; omega
  rw [← hYe] at hY1 hY2 hQe
  obtain ⟨U1, hU1⟩ : ∃ U1, U1 = lo * P % 18446744073709551616 := ⟨_, rfl⟩
  have cU1 : IntKind.u64.wrap ((lo : Int) * P) = (U1 : Int) := by rw [IntKind.wrap_u64, ← Int.natCast_mul, hU1]; rfl
  rw [← hU1] at hQe
  have hU1lt : U1 < 18446744073709551616 := by rw [hU1]; exact Nat.mod_lt _ (by omega)
  obtain ⟨n1, hn1⟩ : ∃ n1, n1 = Y / 4294967296 := ⟨_, rfl⟩
  obtain ⟨n0, hn0⟩ : ∃ n0, n0 = Y % 4294967296 := ⟨_, rfl⟩
  obtain ⟨u1, hu1⟩ : ∃ u1, u1 = U1 / 4294967296 := ⟨_, rfl⟩
  obtain ⟨u0, hu0⟩ : ∃ u0, u0 = U1 % 4294967296 := ⟨_, rfl⟩
  have cn1 : (Y : Int) / 4294967296 = (n1 : Int) := by omega
  have cn0 : bits .and .u64 (Y : Int) 4294967295 = (n0 : Int) := by rw [and_low32 _ (by omega) (by omega)]; omega
  have cu1 : (U1 : Int) / 4294967296 = (u1 : Int) := by omega
  have cu0 : bits .and .u64 (U1 : Int) 4294967295 = (u0 : Int) := by rw [and_low32 _ (by omega) (by omega)]; omega
  have hn1b : 2147483648 ≤ n1 ∧ n1 < 4294967296 := by omega
  have hn0b : n0 < 4294967296 := by omega
  have hu1b : u1 < 4294967296 := by omega
  have hu0b : u0 < 4294967296 := by omega
  have cq1 : IntKind.u64.wrap ((U2 : Int).tdiv n1) = 0 := by rw [Int.tdiv_eq_ediv_of_nonneg (by omega), Int.ediv_eq_zero_of_lt (by omega) (by omega)]; rfl
  have cq1' : IntKind.u64.wrap ((U2 : Int) / n1) = 0 := by rw [Int.ediv_eq_zero_of_lt (by omega) (by omega)]; rfl
  have cU2 : IntKind.u64.wrap (U2 : Int) = U2 := by rw [IntKind.wrap_u64]; omega
  have hn1n : ¬ (n1 : Int) = 0 := by omega
  obtain ⟨un, hun⟩ : ∃ un, un = U2 * 4294967296 + u1 := ⟨_, rfl⟩
  obtain ⟨A, hA⟩ : ∃ A, A = U2 * 4294967296 := ⟨_, rfl⟩
  have cA : IntKind.u64.wrap (4294967296 * (U2 : Int)) = (A : Int) := by rw [IntKind.wrap_u64]; omega
  have cA2 : IntKind.u64.wrap ((U2 : Int) * 4294967296) = (A : Int) := by rw [IntKind.wrap_u64]; omega
  have cB : IntKind.u64.wrap ((A : Int) + (u1 : Int)) = (un : Int) := by rw [IntKind.wrap_u64]; omega
  have cun : IntKind.u64.wrap (un : Int) = (un : Int) := by rw [IntKind.wrap_u64]; omega
  have hU : U2 * 18446744073709551616 + U1 = un * 4294967296 + u0 := dl0 U2 U1 un u1 u0 hu1 hu0 hun
  have hYY : Y = n1 * 4294967296 + n0 := by omega
  have hun2 : un ≤ 4299262263295 := by omega
  obtain ⟨q0, hq0⟩ : ∃ q0, q0 = un / n1 := ⟨_, rfl⟩
  have hq0b : q0 < 4294967296 := by rw [hq0]; exact Nat.div_lt_of_lt_mul (by have := Nat.mul_le_mul_right 4294967296 hn1b.1; omega)
  have cq0 : IntKind.u64.wrap ((un : Int).tdiv n1) = (q0 : Int) := by rw [Int.tdiv_eq_ediv_of_nonneg (by omega), ← Int.natCast_ediv, ← hq0, IntKind.wrap_u64]; omega
  have cq0' : IntKind.u64.wrap ((un : Int) / n1) = (q0 : Int) := by rw [← Int.natCast_ediv, ← hq0, IntKind.wrap_u64]; omega
  have hdm : n1 * q0 + un % n1 = un := by rw [hq0]; exact Nat.div_add_mod un n1
  have hmod := Nat.mod_lt un (show 0 < n1 by omega)
  obtain ⟨r0, hr0⟩ : ∃ r0, r0 = un % n1 := ⟨_, rfl⟩
  rw [← hr0] at hdm hmod
  obtain ⟨M, hM⟩ : ∃ M, M = n1 * q0 := ⟨_, rfl⟩
  have cqn : IntKind.u64.wrap ((q0 : Int) * n1) = (M : Int) := by rw [IntKind.wrap_u64, ← Int.natCast_mul, Nat.mul_comm, ← hM]; omega
  have cr0 : IntKind.u64.wrap ((un : Int) - (M : Int)) = (r0 : Int) := by rw [IntKind.wrap_u64]; omega
  have hrq : r0 + q0 * n1 = un := by rw [Nat.mul_comm q0]; omega
  obtain ⟨Q, hQQ⟩ : ∃ Q, Q = (hi * 18446744073709551616 + lo) / y := ⟨_, rfl⟩
  rw [← hQQ] at hQe hQ ⊢
  rw [hU] at hQe
  have HQ := hid hQe
  have hYpos : 0 < Y := by omega
  have hQq : Q ≤ q0 := by
    rcases Nat.lt_or_ge q0 Q with h | h
    · exfalso
      have h1 : (q0 + 1) * Y ≤ un * 4294967296 + u0 := by
        have : q0 + 1 ≤ (un * 4294967296 + u0) / Y := by rw [← hQe]; exact h
        exact (Nat.le_div_iff_mul_le hYpos).1 this
      have h2 : (q0 + 1) * (n1 * 4294967296) ≤ (q0 + 1) * Y := Nat.mul_le_mul_left _ (by omega)
      have h3 : (q0 + 1) * (n1 * 4294967296) = (n1 * q0 + n1) * 4294967296 := by rw [← Nat.mul_assoc, Nat.add_mul, Nat.one_mul, Nat.mul_comm q0 n1]
      rw [h3] at h2
      generalize (q0 + 1) * Y = z at *
      generalize n1 * q0 = t at *
      omega
    · exact h
  have HYY := hid hYY
  have HRQ := hid hrq
  clear hYY hrq hA hM hHh hs hsum hQe hQQ hP hl2e hU2 hYe hU1 hn1 hn0 hu1 hu0 hun hU hq0 hr0 hdm hl2
  go_enter Tryd.func31, Tryd.ntmps31
  go_wp2_with fail
  refine hz.mono ?_; rintro e w' ⟨rfl, rfl⟩
  go_wp2_with fail
  go_loopw [15, 16] (fun q r wr => q = .int .u64 0 ∧ r = .int .u64 (U2 : Int) ∧ wr = w') (fun _ _ _ => 0)
  case atStart => exact ⟨by go_num, by go_num, rfl⟩
  case round =>
    obtain ⟨rfl, rfl, rfl⟩ := hrel
    go_wp2_with fail
    obtain ⟨wo, hwo⟩ : ∃ wo, wo = wr := ⟨_, rfl⟩
    subst hwo
    go_loopw [16, 18] (fun r q wr => ∃ q' r' : Nat, q = .int .u64 (q' : Int) ∧ r = .int .u64 (r' : Int) ∧ Hid (Q ≤ q') ∧ q' < 4294967296 ∧ r' < 4294967296 ∧ Hid (r' + q' * n1 = un) ∧ wr = wo) (fun _ q _ => (intOf q).toNat)
    case atStart => exact ⟨q0, r0, rfl, rfl, hQq, hq0b, by omega, HRQ, rfl⟩
    case round =>
      clear cq0 cq0' cr0 cqn cq1 cq1' cA cA2 cB cun
      obtain ⟨q, r, rfl, rfl, HGE, hqb, hrb, HR, rfl⟩ := hrel
      obtain ⟨T1, hT1⟩ : ∃ T1, T1 = q * n0 := ⟨_, rfl⟩
      have hT1b : T1 < 18446744073709551616 := by
        have : q * n0 ≤ 4294967295 * 4294967295 := Nat.mul_le_mul (by omega) (by omega)
        omega
      obtain ⟨T2, hT2⟩ : ∃ T2, T2 = 4294967296 * r := ⟨_, rfl⟩
      obtain ⟨T3, hT3⟩ : ∃ T3, T3 = T2 + u0 := ⟨_, rfl⟩
      have ct1 : IntKind.u64.wrap ((q : Int) * n0) = (T1 : Int) := by rw [IntKind.wrap_u64, ← Int.natCast_mul, ← hT1]; omega
      have ct2 : IntKind.u64.wrap (4294967296 * (r : Int)) = (T2 : Int) := by rw [IntKind.wrap_u64]; omega
      have ct3 : IntKind.u64.wrap ((T2 : Int) + (u0 : Int)) = (T3 : Int) := by rw [IntKind.wrap_u64]; omega
      have hqK : ¬ (4294967296 : Int) ≤ (q : Int) := by omega
      by_cases hc : T1 ≤ T3
      · have HLE : Hid (q ≤ Q) := by
          show q ≤ Q
          rw [HQ.out]
          exact dl1 _ Y un n1 n0 u0 q r rfl HYY.out hYpos HR.out (by omega)
        have hc' : ¬ (T3 : Int) < (T1 : Int) := by omega
        clear hT1 hT2 hT3 HR HQ HYY
        have cf : IntKind.u64.wrap ((q : Nat) : Int) = (q : Nat) := by rw [IntKind.wrap_u64]; omega
        have hQf : q = Q := by have := HLE.out; have := HGE.out; omega
        have HQf := hid hQf
        clear hQf HLE HGE
        go_wp2
        go_ret2
        rw [← HQf.out]
        exact ⟨⟨_, rfl⟩, Kp.refl _⟩
      · have hlt2 : Q < q := by
          rw [HQ.out]
          exact dl2 _ Y un n1 n0 u0 q r rfl HYY.out hYpos HR.out (by omega)
        have hc' : (T3 : Int) < (T1 : Int) := by omega
        obtain ⟨q2, hq2⟩ : ∃ q2, q2 = q - 1 := ⟨_, rfl⟩
        obtain ⟨r2, hr2⟩ : ∃ r2, r2 = r + n1 := ⟨_, rfl⟩
        have cd : IntKind.u64.wrap ((q : Int) - 1) = (q2 : Int) := by rw [IntKind.wrap_u64]; omega
        have ci : IntKind.u64.wrap ((r : Int) + n1) = (r2 : Int) := by rw [IntKind.wrap_u64]; omega
        have HR2 : Hid (r2 + q2 * n1 = un) := by
          show r2 + q2 * n1 = un
          have h1 := HR.out
          obtain rfl : q = q2 + 1 := by omega
          rw [Nat.add_mul, Nat.one_mul] at h1
          omega
        have HGE2 : Hid (Q ≤ q2) := by show Q ≤ q2; omega
        have hq2b : q2 < q := by omega
        clear hT1 hT2 hT3 HR HGE hlt2 hq2 hr2
        by_cases hk : 4294967296 ≤ r2
        · have HLE : Hid (q2 ≤ Q) := by
            show q2 ≤ Q
            rw [HQ.out]
            exact dl1 _ Y un n1 n0 u0 q2 r2 rfl HYY.out hYpos HR2.out (dl3 q2 n0 r2 u0 (by omega) hn0b hk)
          have HGE := HGE2
          have hk' : (4294967296 : Int) ≤ (r2 : Int) := by omega
          clear HR2 HQ HYY HGE2
          have cf : IntKind.u64.wrap ((q2 : Nat) : Int) = (q2 : Nat) := by rw [IntKind.wrap_u64]; omega
          have hQf : q2 = Q := by have := HLE.out; have := HGE.out; omega
          have HQf := hid hQf
          clear hQf HLE HGE
          go_wp2
          go_ret2
          rw [← HQf.out]
          exact ⟨⟨_, rfl⟩, Kp.refl _⟩
        · have hk' : ¬ (4294967296 : Int) ≤ (r2 : Int) := by omega
          go_wp2
          go_roundw
          case rel => exact ⟨q2, r2, rfl, rfl, HGE2, by omega, by omega, HR2, trivial⟩
          case measure => simp [intOf]; omega
end Go.Proofs.YtlhiienmhglieaaDoor
